/- The document's own Parse, for any text. -/
import Derived.Test.YtcmhcpdfgcmbiaaParse
import Derived.Lib.Hide
namespace Go.Proofs.Ytcmhcpdfgcmbiaa.Wd
open Go.ChangeShapes Go.WideShapes Go.ChangeAt Go.RowKit Go.Proofs.Ytcmhcpdfgcmbiaa.Pl
set_option linter.unusedVariables false

theorem Cut.neg_at {L D : List UInt8} (h : Cut L true D) {m : Int} (hw : IsWord m) (hm : textOf m = L) : m = -(evalD (D.take 11) : Int) := by
  obtain ⟨h1, h2⟩ := h.text hm
  unfold IsWord at hw
  have hl := digs_len 9 m.natAbs (by omega)
  rw [h1, List.take_of_length_le (by omega), digs_eval]
  rcases h2 with ⟨_, h2⟩ | ⟨h2, _⟩
  · omega
  · cases h2
theorem Cut.pos_at {L D : List UInt8} (h : Cut L false D) {m : Int} (hw : IsWord m) (hm : textOf m = L) : m = (evalD (D.take 11) : Int) := by
  obtain ⟨h1, h2⟩ := h.text hm
  unfold IsWord at hw
  have hl := digs_len 9 m.natAbs (by omega)
  rw [h1, List.take_of_length_le (by omega), digs_eval]
  rcases h2 with ⟨h2, _⟩ | ⟨_, h2⟩
  · cases h2
  · omega
theorem take_end (D : List UInt8) (k : Nat) (h : k = D.length ∨ k = 11) (h2 : k ≤ 11) : D.take k = D.take 11 := by
  rcases h with h | h
  · rw [List.take_of_length_le (by omega), List.take_of_length_le (by omega)]
  · rw [h]
set_option maxHeartbeats 1000000 in
theorem rparse_neg (s : ByteArray) (hm : s.size ≤ maxLen) (h0 : 0 < s.size) (hh : ((s[0].toNat : Int) == 45) = true) (w : World) :
    Calls Try.prog 22 #[.string s] w (ParseEnd s.data.toList w) := by
  have HC := Lib.hid (cut_neg s h0 hh)
  unfold maxLen at hm
  go_enter Try.func22, Try.ntmps22
  go_wp2
  have hds : (s.extract 1 s.size).size < s.size := by rw [ByteArray.size_extract]; omega
  have HD := Lib.hid (drop_one s)
  generalize s.extract 1 s.size = d at *
  go_loop [5, 6] (fun z i => ∃ k : Nat, k ≤ d.size ∧ k ≤ 11 ∧ i = .int .i64 k ∧ z = .int .i64 (evalD (d.data.toList.take k)) ∧ AllDigits (d.data.toList.take k)) (fun _ i => d.size - (intOf i).toNat)
  case atStart => exact ⟨0, by omega, by omega, rfl, by simp [evalD], by intro c hc; simp at hc⟩
  case round =>
    obtain ⟨k, hk, hk2, rfl, rfl, hall⟩ := hrel
    have hv : evalD (d.data.toList.take k) < 10 ^ 11 := by
      refine Nat.lt_of_lt_of_le (eval_bd _ hall) (Nat.pow_le_pow_right (by decide) ?_)
      rw [List.length_take]; omega
    have HA := Lib.hid hall
    clear hall
    by_cases hlt : k < d.size ∧ k < 11
    · have HT := Lib.hid (take_snoc d k hlt.1)
      have HV := Lib.hid (show evalD (d.data.toList.take (k + 1)) = evalD (d.data.toList.take k) * 10 + ((d[k]'hlt.1).toNat - 48) by rw [HT.out, evalD_snoc])
      have HI := Lib.hid (show d[k]'hlt.1 ∈ d.data.toList from List.getElem_mem _)
      generalize evalD (d.data.toList.take k) = v at *
      obtain ⟨hlt, hk11⟩ := hlt
      by_cases hc : 48 ≤ d[k].toNat ∧ d[k].toNat ≤ 57
      · obtain ⟨hc1, hc2⟩ := hc
        go_wp2
        go_round
        case rel => exact ⟨k + 1, by omega, by omega, by go_num, by rw [HV.out]; exact val_int (by omega), by rw [HT.out]; exact all_snoc HA.out ⟨hc1, hc2⟩⟩
        case measure => simp [intOf]; omega
      · have hc' : d[k].toNat < 48 ∨ 57 < d[k].toNat := by omega
        have HN := Lib.hid ((show Cut s.data.toList true d.data.toList by rw [HD.out]; exact HC.out).bad HI.out hc')
        clear hc
        rcases hc' with hc' | hc'
        all_goals
          go_wp2
          go_ret2
          exact ⟨Or.inr ⟨HN.out, rfl⟩, Below.refl _ _⟩
    · have hend : k = d.data.toList.length ∨ k = 11 := by simp; omega
      have hstop : k < d.size ∧ 11 ≤ k ∨ d.size ≤ k := by omega
      rw [take_end _ _ hend hk2] at HA hv ⊢
      have HX := Lib.hid (fun m (hw : IsWord m) (hm : textOf m = s.data.toList) => (show Cut s.data.toList true d.data.toList by rw [HD.out]; exact HC.out).neg_at hw hm)
      clear hend hlt
      have hv0 : (0 : Int) ≤ (evalD (d.data.toList.take 11) : Int) := by omega
      have hv1 : (evalD (d.data.toList.take 11) : Int) < 100000000000 := by omega
      clear hv
      generalize ((evalD (d.data.toList.take 11) : Nat) : Int) = v at *
      by_cases hr : v ≤ 2147483648
      · cases hx : textOf (-(v : Int)) == s.toList
        · have HN := Lib.hid (show ∀ m, IsWord m → textOf m ≠ s.data.toList from fun m hw hm => by
            have e := HX.out m hw hm
            rw [← e, hm, ByteArray.toList_eq] at hx
            simp at hx)
          rcases hstop with ⟨hs1, hs2⟩ | hs1
          all_goals
            go_wp2_with fail
            refine (rtext_any _ (by omega) _).mono ?_
            rintro e w1 ⟨rfl, hb⟩
            have HB := Lib.hid hb
            clear hb
            go_wp2
            go_ret2
            exact ⟨Or.inr ⟨HN.out, rfl⟩, HB.out⟩
        · have HN := Lib.hid (show textOf (-(v : Int)) = s.data.toList by rw [← ByteArray.toList_eq]; exact beq_iff_eq.1 hx)
          have HW := Lib.hid (show IsWord (-(v : Int)) by unfold IsWord; omega)
          rcases hstop with ⟨hs1, hs2⟩ | hs1
          all_goals
            go_wp2_with fail
            refine (rtext_any _ (by omega) _).mono ?_
            rintro e w1 ⟨rfl, hb⟩
            have HB := Lib.hid hb
            clear hb
            go_wp2
            go_ret2
            exact ⟨Or.inl ⟨_, HW.out, HN.out, rfl⟩, HB.out⟩
      · have HN := Lib.hid (show ∀ m, IsWord m → textOf m ≠ s.data.toList from fun m hw hm => by
          have e := HX.out m hw hm
          unfold IsWord at hw
          omega)
        rcases hstop with ⟨hs1, hs2⟩ | hs1
        all_goals
          go_wp2
          go_ret2
          exact ⟨Or.inr ⟨HN.out, rfl⟩, Below.refl _ _⟩
set_option maxHeartbeats 1000000 in
theorem rparse_pos (s : ByteArray) (hm : s.size ≤ maxLen) (h0 : 0 < s.size) (hh : ((s[0].toNat : Int) == 45) = false) (w : World) :
    Calls Try.prog 22 #[.string s] w (ParseEnd s.data.toList w) := by
  have HC := Lib.hid (cut_pos s h0 hh)
  clear hm
  go_enter Try.func22, Try.ntmps22
  go_wp2
  go_loop [5, 6] (fun z i => ∃ k : Nat, k ≤ s.size ∧ k ≤ 11 ∧ i = .int .i64 k ∧ z = .int .i64 (evalD (s.data.toList.take k)) ∧ AllDigits (s.data.toList.take k)) (fun _ i => s.size - (intOf i).toNat)
  case atStart => exact ⟨0, by omega, by omega, rfl, by simp [evalD], by intro c hc; simp at hc⟩
  case round =>
    obtain ⟨k, hk, hk2, rfl, rfl, hall⟩ := hrel
    have hv : evalD (s.data.toList.take k) < 10 ^ 11 := by
      refine Nat.lt_of_lt_of_le (eval_bd _ hall) (Nat.pow_le_pow_right (by decide) ?_)
      rw [List.length_take]; omega
    have HA := Lib.hid hall
    clear hall
    by_cases hlt : k < s.size ∧ k < 11
    · have HT := Lib.hid (take_snoc s k hlt.1)
      have HV := Lib.hid (show evalD (s.data.toList.take (k + 1)) = evalD (s.data.toList.take k) * 10 + ((s[k]'hlt.1).toNat - 48) by rw [HT.out, evalD_snoc])
      have HI := Lib.hid (show s[k]'hlt.1 ∈ s.data.toList from List.getElem_mem _)
      generalize evalD (s.data.toList.take k) = v at *
      obtain ⟨hlt, hk11⟩ := hlt
      by_cases hc : 48 ≤ s[k].toNat ∧ s[k].toNat ≤ 57
      · obtain ⟨hc1, hc2⟩ := hc
        go_wp2
        go_round
        case rel => exact ⟨k + 1, by omega, by omega, by go_num, by rw [HV.out]; exact val_int (by omega), by rw [HT.out]; exact all_snoc HA.out ⟨hc1, hc2⟩⟩
        case measure => simp [intOf]; omega
      · have hc' : s[k].toNat < 48 ∨ 57 < s[k].toNat := by omega
        have HN := Lib.hid ((show Cut s.data.toList false s.data.toList from HC.out).bad HI.out hc')
        clear hc
        rcases hc' with hc' | hc'
        all_goals
          go_wp2
          go_ret2
          exact ⟨Or.inr ⟨HN.out, rfl⟩, Below.refl _ _⟩
    · have hend : k = s.data.toList.length ∨ k = 11 := by simp; omega
      have hstop : k < s.size ∧ 11 ≤ k ∨ s.size ≤ k := by omega
      rw [take_end _ _ hend hk2] at HA hv ⊢
      have HX := Lib.hid (fun m (hw : IsWord m) (hm : textOf m = s.data.toList) => (show Cut s.data.toList false s.data.toList from HC.out).pos_at hw hm)
      clear hend hlt
      have hv0 : (0 : Int) ≤ (evalD (s.data.toList.take 11) : Int) := by omega
      have hv1 : (evalD (s.data.toList.take 11) : Int) < 100000000000 := by omega
      clear hv
      generalize ((evalD (s.data.toList.take 11) : Nat) : Int) = v at *
      by_cases hr : v ≤ 2147483647
      · cases hx : textOf ((v : Int)) == s.toList
        · have HN := Lib.hid (show ∀ m, IsWord m → textOf m ≠ s.data.toList from fun m hw hm => by
            have e := HX.out m hw hm
            rw [← e, hm, ByteArray.toList_eq] at hx
            simp at hx)
          rcases hstop with ⟨hs1, hs2⟩ | hs1
          all_goals
            go_wp2_with fail
            refine (rtext_any _ (by omega) _).mono ?_
            rintro e w1 ⟨rfl, hb⟩
            have HB := Lib.hid hb
            clear hb
            go_wp2
            go_ret2
            exact ⟨Or.inr ⟨HN.out, rfl⟩, HB.out⟩
        · have HN := Lib.hid (show textOf ((v : Int)) = s.data.toList by rw [← ByteArray.toList_eq]; exact beq_iff_eq.1 hx)
          have HW := Lib.hid (show IsWord ((v : Int)) by unfold IsWord; omega)
          rcases hstop with ⟨hs1, hs2⟩ | hs1
          all_goals
            go_wp2_with fail
            refine (rtext_any _ (by omega) _).mono ?_
            rintro e w1 ⟨rfl, hb⟩
            have HB := Lib.hid hb
            clear hb
            go_wp2
            go_ret2
            exact ⟨Or.inl ⟨_, HW.out, HN.out, rfl⟩, HB.out⟩
      · have HN := Lib.hid (show ∀ m, IsWord m → textOf m ≠ s.data.toList from fun m hw hm => by
          have e := HX.out m hw hm
          unfold IsWord at hw
          omega)
        rcases hstop with ⟨hs1, hs2⟩ | hs1
        all_goals
          go_wp2
          go_ret2
          exact ⟨Or.inr ⟨HN.out, rfl⟩, Below.refl _ _⟩
set_option maxHeartbeats 1000000 in
theorem rparse_zero (s : ByteArray) (hm : s.size ≤ maxLen) (h0 : s.size = 0) (w : World) :
    Calls Try.prog 22 #[.string s] w (ParseEnd s.data.toList w) := by
  have HC := Lib.hid (cut_none s h0)
  clear hm
  have h0' : s.size ≤ 0 := by omega
  have hpos : decide ((0 : Int) < (s.size : Int)) = false := decide_eq_false (by omega)
  clear h0
  go_enter Try.func22, Try.ntmps22
  go_wp2
  go_loop [5, 6] (fun z i => ∃ k : Nat, k ≤ s.size ∧ k ≤ 11 ∧ i = .int .i64 k ∧ z = .int .i64 (evalD (s.data.toList.take k)) ∧ AllDigits (s.data.toList.take k)) (fun _ i => s.size - (intOf i).toNat)
  case atStart => exact ⟨0, by omega, by omega, rfl, by simp [evalD], by intro c hc; simp at hc⟩
  case round =>
    obtain ⟨k, hk, hk2, rfl, rfl, hall⟩ := hrel
    have hv : evalD (s.data.toList.take k) < 10 ^ 11 := by
      refine Nat.lt_of_lt_of_le (eval_bd _ hall) (Nat.pow_le_pow_right (by decide) ?_)
      rw [List.length_take]; omega
    have HA := Lib.hid hall
    clear hall
    by_cases hlt : k < s.size ∧ k < 11
    · omega
    · have hend : k = s.data.toList.length ∨ k = 11 := by simp; omega
      have hstop : k < s.size ∧ 11 ≤ k ∨ s.size ≤ k := by omega
      rw [take_end _ _ hend hk2] at HA hv ⊢
      have HX := Lib.hid (fun m (hw : IsWord m) (hm : textOf m = s.data.toList) => (show Cut s.data.toList false s.data.toList from HC.out).pos_at hw hm)
      clear hend hlt
      have hv0 : (0 : Int) ≤ (evalD (s.data.toList.take 11) : Int) := by omega
      have hv1 : (evalD (s.data.toList.take 11) : Int) < 100000000000 := by omega
      clear hv
      generalize ((evalD (s.data.toList.take 11) : Nat) : Int) = v at *
      by_cases hr : v ≤ 2147483647
      · cases hx : textOf ((v : Int)) == s.toList
        · have HN := Lib.hid (show ∀ m, IsWord m → textOf m ≠ s.data.toList from fun m hw hm => by
            have e := HX.out m hw hm
            rw [← e, hm, ByteArray.toList_eq] at hx
            simp at hx)
          have hs1 : s.size ≤ k := by omega
          all_goals
            go_wp2_with fail
            refine (rtext_any _ (by omega) _).mono ?_
            rintro e w1 ⟨rfl, hb⟩
            have HB := Lib.hid hb
            clear hb
            go_wp2
            go_ret2
            exact ⟨Or.inr ⟨HN.out, rfl⟩, HB.out⟩
        · have HN := Lib.hid (show textOf ((v : Int)) = s.data.toList by rw [← ByteArray.toList_eq]; exact beq_iff_eq.1 hx)
          have HW := Lib.hid (show IsWord ((v : Int)) by unfold IsWord; omega)
          have hs1 : s.size ≤ k := by omega
          all_goals
            go_wp2_with fail
            refine (rtext_any _ (by omega) _).mono ?_
            rintro e w1 ⟨rfl, hb⟩
            have HB := Lib.hid hb
            clear hb
            go_wp2
            go_ret2
            exact ⟨Or.inl ⟨_, HW.out, HN.out, rfl⟩, HB.out⟩
      · have HN := Lib.hid (show ∀ m, IsWord m → textOf m ≠ s.data.toList from fun m hw hm => by
          have e := HX.out m hw hm
          unfold IsWord at hw
          omega)
        have hs1 : s.size ≤ k := by omega
        all_goals
          go_wp2
          go_ret2
          exact ⟨Or.inr ⟨HN.out, rfl⟩, Below.refl _ _⟩
/-- The document's Parse. -/
theorem rparse_any (s : ByteArray) (hm : s.size ≤ maxLen) (w : World) :
    Calls Try.prog 22 #[.string s] w (ParseEnd s.data.toList w) := by
  by_cases h0 : s.size = 0
  · exact rparse_zero s hm h0 w
  · cases hh : ((s[0]'(by omega)).toNat : Int) == 45
    · exact rparse_pos s hm (by omega) hh w
    · exact rparse_neg s hm (by omega) hh w
end Go.Proofs.Ytcmhcpdfgcmbiaa.Wd
