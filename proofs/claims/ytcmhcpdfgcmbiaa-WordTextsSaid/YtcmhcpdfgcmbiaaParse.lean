import Derived.Test.YtcmhcpdfgcmbiaaRText
import Derived.Lib.Hide
namespace Go.Proofs.Ytcmhcpdfgcmbiaa.Wd
open Go.ChangeShapes Go.WideShapes Go.ChangeAt Go.RowKit Go.Proofs.Ytcmhcpdfgcmbiaa.Pl
set_option linter.unusedVariables false
def IsWord (n : Int) : Prop := -2147483648 ≤ n ∧ n ≤ 2147483647
def AllDigits (l : List UInt8) : Prop := ∀ c ∈ l, 48 ≤ c.toNat ∧ c.toNat ≤ 57
theorem eval_bd (l : List UInt8) (h : AllDigits l) : evalD l < 10 ^ l.length := by
  suffices H : ∀ (r : List UInt8), AllDigits r.reverse → evalD r.reverse < 10 ^ r.length by
    have := H l.reverse (by rwa [List.reverse_reverse])
    rwa [List.reverse_reverse, List.length_reverse] at this
  intro r
  induction r with
  | nil => intro _; decide
  | cons c r ih =>
    intro h
    rw [List.reverse_cons] at h ⊢
    have h1 := ih (fun x hx => h x (List.mem_append_left _ hx))
    have h2 := h c (by simp)
    rw [evalD_snoc, List.length_cons, Nat.pow_succ]
    omega
theorem all_snoc {l : List UInt8} {c : UInt8} (h : AllDigits l) (hc : 48 ≤ c.toNat ∧ c.toNat ≤ 57) : AllDigits (l ++ [c]) := by
  intro x hx
  rw [List.mem_append, List.mem_singleton] at hx
  rcases hx with hx | rfl
  · exact h x hx
  · exact hc
theorem drop_one (s : ByteArray) : (s.extract 1 s.size).data.toList = s.data.toList.drop 1 := by
  simp
  exact List.take_of_length_le (by simp)
/-- A text and its digits, with a sign ahead or without. -/
def Cut (L : List UInt8) (neg : Bool) (D : List UInt8) : Prop := (neg = true ∧ L = 45 :: D) ∨ (neg = false ∧ L = D ∧ ∀ r, L ≠ 45 :: r)
theorem Cut.text {L D : List UInt8} {neg : Bool} (h : Cut L neg D) {m : Int} (hm : textOf m = L) : D = digs m.natAbs ∧ (neg = true ∧ m < 0 ∨ neg = false ∧ 0 ≤ m) := by
  unfold textOf at hm
  by_cases h0 : m < 0
  · rw [if_pos h0] at hm
    rcases h with ⟨h1, h2⟩ | ⟨h1, h2, h3⟩
    · rw [h2] at hm; injection hm with _ hm; exact ⟨hm.symm, Or.inl ⟨h1, h0⟩⟩
    · exact absurd hm.symm (h3 _)
  · rw [if_neg h0] at hm
    rcases h with ⟨h1, h2⟩ | ⟨h1, h2, h3⟩
    · rw [h2] at hm; exact absurd hm (digs_minus _ _ 45 (by decide))
    · exact ⟨by rw [hm, h2], Or.inr ⟨h1, by omega⟩⟩
theorem Cut.bad {L D : List UInt8} {neg : Bool} (h : Cut L neg D) {c : UInt8} (hc : c ∈ D) (hb : c.toNat < 48 ∨ 57 < c.toNat) : ∀ m, IsWord m → textOf m ≠ L := by
  intro m _ hm
  have h1 := (h.text hm).1
  rw [h1] at hc
  have := digs_all _ c hc
  omega
theorem Cut.neg_is {L D : List UInt8} (h : Cut L true D) {m : Int} (hw : IsWord m) (hm : textOf m = L) : m = wrap32 (-(evalD D : Int)) := by
  obtain ⟨h1, h2⟩ := h.text hm
  unfold IsWord at hw
  rw [h1, digs_eval]; unfold wrap32
  rcases h2 with ⟨_, h2⟩ | ⟨h2, _⟩
  · omega
  · cases h2
theorem Cut.pos_is {L D : List UInt8} (h : Cut L false D) {m : Int} (hw : IsWord m) (hm : textOf m = L) : m = wrap32 (evalD D : Int) := by
  obtain ⟨h1, h2⟩ := h.text hm
  unfold IsWord at hw
  rw [h1, digs_eval]; unfold wrap32
  rcases h2 with ⟨h2, _⟩ | ⟨_, h2⟩
  · cases h2
  · omega
theorem cut_neg (s : ByteArray) (h0 : 0 < s.size) (hh : ((s[0].toNat : Int) == 45) = true) : Cut s.data.toList true (s.data.toList.drop 1) := by
  refine Or.inl ⟨rfl, ?_⟩
  have h1 : s[0].toNat = 45 := by have := beq_iff_eq.1 hh; omega
  have h2 : s[0] = 45 := UInt8.toNat_inj.1 h1
  have h3 : s.data.toList = s[0] :: s.data.toList.drop 1 := by
    have := List.drop_eq_getElem_cons (l := s.data.toList) (i := 0) (by simpa using h0)
    rw [List.drop_zero] at this; exact this
  rw [h2] at h3; exact h3
theorem cut_pos (s : ByteArray) (h0 : 0 < s.size) (hh : ((s[0].toNat : Int) == 45) = false) : Cut s.data.toList false s.data.toList := by
  refine Or.inr ⟨rfl, rfl, fun r hr => ?_⟩
  have h1 : s[0].toNat ≠ 45 := by have := beq_eq_false_iff_ne.1 hh; omega
  apply h1
  have h3 : s.data.toList[0]? = some 45 := by rw [hr]; rfl
  have h4 : s.data.toList[0]? = some s[0] := by rw [List.getElem?_eq_getElem (by simpa using h0)]; rfl
  rw [h4] at h3
  injection h3 with h3
  rw [h3]; rfl
theorem cut_none (s : ByteArray) (h0 : s.size = 0) : Cut s.data.toList false s.data.toList := by
  refine Or.inr ⟨rfl, rfl, fun r hr => ?_⟩
  have := congrArg List.length hr
  simp at this
  omega
theorem take_snoc (s : ByteArray) (k : Nat) (h : k < s.size) : s.data.toList.take (k + 1) = s.data.toList.take k ++ [s[k]] := by
  rw [List.take_succ_eq_append_getElem (by simpa using h)]; rfl
theorem val_int {a b : Int} (h : a = b) : Value.int .i64 a = Value.int .i64 b := by rw [h]
/-- How a parse ends: with the word whose text it is, or with none, if there is none. -/
def ParseEnd (L : List UInt8) (w : World) (e : Ending) (w' : World) : Prop :=
  ((∃ n, IsWord n ∧ textOf n = L ∧ e = .returned (.tuple #[.int .i32 n, .bool true])) ∨ ((∀ m, IsWord m → textOf m ≠ L) ∧ e = .returned (.tuple #[.int .i32 0, .bool false]))) ∧ Below w.heap.size w w'
theorem parse_neg (s : ByteArray) (h11 : s.size ≤ 11) (h0 : 0 < s.size) (hh : ((s[0].toNat : Int) == 45) = true) (w : World) :
    Calls Try.prog 21 #[.string s] w (ParseEnd s.data.toList w) := by
  have hdec : decide ((11 : Int) < (s.size : Int)) = false := by simp; omega
  have HC := Lib.hid (cut_neg s h0 hh)
  go_enter Try.func21, Try.ntmps21
  go_wp2
  have hds : (s.extract 1 s.size).size ≤ 10 := by rw [ByteArray.size_extract]; omega
  have HD := Lib.hid (drop_one s)
  generalize s.extract 1 s.size = d at *
  go_loop [6, 7] (fun z i => ∃ k : Nat, k ≤ d.size ∧ i = .int .i64 k ∧ z = .int .i64 (evalD (d.data.toList.take k)) ∧ AllDigits (d.data.toList.take k)) (fun _ i => d.size - (intOf i).toNat)
  case atStart => exact ⟨0, by omega, rfl, by simp [evalD], by intro c hc; simp at hc⟩
  case round =>
    obtain ⟨k, hk, rfl, rfl, hall⟩ := hrel
    have hv : evalD (d.data.toList.take k) < 10 ^ 11 := by
      refine Nat.lt_of_lt_of_le (eval_bd _ hall) (Nat.pow_le_pow_right (by decide) ?_)
      rw [List.length_take]; omega
    have HA := Lib.hid hall
    clear hall
    by_cases hlt : k < d.size
    · have HT := Lib.hid (take_snoc d k hlt)
      have HV := Lib.hid (show evalD (d.data.toList.take (k + 1)) = evalD (d.data.toList.take k) * 10 + (d[k].toNat - 48) by rw [HT.out, evalD_snoc])
      have HI := Lib.hid (show d[k] ∈ d.data.toList from List.getElem_mem _)
      generalize evalD (d.data.toList.take k) = v at *
      by_cases hc : 48 ≤ d[k].toNat ∧ d[k].toNat ≤ 57
      · obtain ⟨hc1, hc2⟩ := hc
        go_wp2
        go_round
        case rel => exact ⟨k + 1, by omega, by go_num, by rw [HV.out]; exact val_int (by omega), by rw [HT.out]; exact all_snoc HA.out ⟨hc1, hc2⟩⟩
        case measure => simp [intOf]; omega
      · have hc' : d[k].toNat < 48 ∨ 57 < d[k].toNat := by omega
        have HN := Lib.hid ((show Cut s.data.toList true d.data.toList by rw [HD.out]; exact HC.out).bad HI.out hc')
        clear hc
        rcases hc' with hc' | hc'
        all_goals
          go_wp2
          go_ret2
          exact ⟨Or.inr ⟨HN.out, rfl⟩, Below.refl _ _⟩
    · obtain rfl : k = d.size := by omega
      rw [List.take_of_length_le (by simp)] at HA hv ⊢
      have HX := Lib.hid (fun m (hw : IsWord m) (hm : textOf m = s.data.toList) => (show Cut s.data.toList true d.data.toList by rw [HD.out]; exact HC.out).neg_is hw hm)
      generalize evalD d.data.toList = v at *
      have HW := Lib.hid (wrap32_bd (-(v : Int)))
      cases hx : textOf (wrap32 (-(v : Int))) == s.toList
      · have HN := Lib.hid (show ∀ m, IsWord m → textOf m ≠ s.data.toList from fun m hw hm => by
          have e := HX.out m hw hm
          rw [← e, hm, ByteArray.toList_eq] at hx
          simp at hx)
        go_wp2_with fail
        refine (text_any _ (wrap32_bd _) _).mono ?_
        rintro e w1 ⟨rfl, hb⟩
        have HB := Lib.hid hb
        clear hb
        go_wp2
        go_ret2
        exact ⟨Or.inr ⟨HN.out, rfl⟩, HB.out⟩
      · have HN := Lib.hid (show textOf (wrap32 (-(v : Int))) = s.data.toList by rw [← ByteArray.toList_eq]; exact beq_iff_eq.1 hx)
        go_wp2_with fail
        refine (text_any _ (wrap32_bd _) _).mono ?_
        rintro e w1 ⟨rfl, hb⟩
        have HB := Lib.hid hb
        clear hb
        go_wp2
        go_ret2
        exact ⟨Or.inl ⟨_, HW.out, HN.out, rfl⟩, HB.out⟩
theorem parse_pos (s : ByteArray) (h11 : s.size ≤ 11) (h0 : 0 < s.size) (hh : ((s[0].toNat : Int) == 45) = false) (w : World) :
    Calls Try.prog 21 #[.string s] w (ParseEnd s.data.toList w) := by
  have hdec : decide ((11 : Int) < (s.size : Int)) = false := by simp; omega
  have HC := Lib.hid (cut_pos s h0 hh)
  go_enter Try.func21, Try.ntmps21
  go_wp2
  go_loop [6, 7] (fun z i => ∃ k : Nat, k ≤ s.size ∧ i = .int .i64 k ∧ z = .int .i64 (evalD (s.data.toList.take k)) ∧ AllDigits (s.data.toList.take k)) (fun _ i => s.size - (intOf i).toNat)
  case atStart => exact ⟨0, by omega, rfl, by simp [evalD], by intro c hc; simp at hc⟩
  case round =>
    obtain ⟨k, hk, rfl, rfl, hall⟩ := hrel
    have hv : evalD (s.data.toList.take k) < 10 ^ 11 := by
      refine Nat.lt_of_lt_of_le (eval_bd _ hall) (Nat.pow_le_pow_right (by decide) ?_)
      rw [List.length_take]; omega
    have HA := Lib.hid hall
    clear hall
    by_cases hlt : k < s.size
    · have HT := Lib.hid (take_snoc s k hlt)
      have HV := Lib.hid (show evalD (s.data.toList.take (k + 1)) = evalD (s.data.toList.take k) * 10 + (s[k].toNat - 48) by rw [HT.out, evalD_snoc])
      have HI := Lib.hid (show s[k] ∈ s.data.toList from List.getElem_mem _)
      generalize evalD (s.data.toList.take k) = v at *
      by_cases hc : 48 ≤ s[k].toNat ∧ s[k].toNat ≤ 57
      · obtain ⟨hc1, hc2⟩ := hc
        go_wp2
        go_round
        case rel => exact ⟨k + 1, by omega, by go_num, by rw [HV.out]; exact val_int (by omega), by rw [HT.out]; exact all_snoc HA.out ⟨hc1, hc2⟩⟩
        case measure => simp [intOf]; omega
      · have hc' : s[k].toNat < 48 ∨ 57 < s[k].toNat := by omega
        have HN := Lib.hid ((show Cut s.data.toList false s.data.toList from HC.out).bad HI.out hc')
        clear hc
        rcases hc' with hc' | hc'
        all_goals
          go_wp2
          go_ret2
          exact ⟨Or.inr ⟨HN.out, rfl⟩, Below.refl _ _⟩
    · obtain rfl : k = s.size := by omega
      rw [List.take_of_length_le (by simp)] at HA hv ⊢
      have HX := Lib.hid (fun m (hw : IsWord m) (hm : textOf m = s.data.toList) => (show Cut s.data.toList false s.data.toList from HC.out).pos_is hw hm)
      generalize evalD s.data.toList = v at *
      have HW := Lib.hid (wrap32_bd ((v : Int)))
      cases hx : textOf (wrap32 ((v : Int))) == s.toList
      · have HN := Lib.hid (show ∀ m, IsWord m → textOf m ≠ s.data.toList from fun m hw hm => by
          have e := HX.out m hw hm
          rw [← e, hm, ByteArray.toList_eq] at hx
          simp at hx)
        go_wp2_with fail
        refine (text_any _ (wrap32_bd _) _).mono ?_
        rintro e w1 ⟨rfl, hb⟩
        have HB := Lib.hid hb
        clear hb
        go_wp2
        go_ret2
        exact ⟨Or.inr ⟨HN.out, rfl⟩, HB.out⟩
      · have HN := Lib.hid (show textOf (wrap32 ((v : Int))) = s.data.toList by rw [← ByteArray.toList_eq]; exact beq_iff_eq.1 hx)
        go_wp2_with fail
        refine (text_any _ (wrap32_bd _) _).mono ?_
        rintro e w1 ⟨rfl, hb⟩
        have HB := Lib.hid hb
        clear hb
        go_wp2
        go_ret2
        exact ⟨Or.inl ⟨_, HW.out, HN.out, rfl⟩, HB.out⟩
theorem parse_zero (s : ByteArray) (h11 : s.size ≤ 11) (h0 : s.size = 0) (w : World) :
    Calls Try.prog 21 #[.string s] w (ParseEnd s.data.toList w) := by
  have hdec : decide ((11 : Int) < (s.size : Int)) = false := by simp; omega
  have HC := Lib.hid (cut_none s h0)
  have h0' : s.size ≤ 0 := by omega
  have hpos : decide ((0 : Int) < (s.size : Int)) = false := decide_eq_false (by omega)
  clear h0
  go_enter Try.func21, Try.ntmps21
  go_wp2
  go_loop [6, 7] (fun z i => ∃ k : Nat, k ≤ s.size ∧ i = .int .i64 k ∧ z = .int .i64 (evalD (s.data.toList.take k)) ∧ AllDigits (s.data.toList.take k)) (fun _ i => s.size - (intOf i).toNat)
  case atStart => exact ⟨0, by omega, rfl, by simp [evalD], by intro c hc; simp at hc⟩
  case round =>
    obtain ⟨k, hk, rfl, rfl, hall⟩ := hrel
    have hv : evalD (s.data.toList.take k) < 10 ^ 11 := by
      refine Nat.lt_of_lt_of_le (eval_bd _ hall) (Nat.pow_le_pow_right (by decide) ?_)
      rw [List.length_take]; omega
    have HA := Lib.hid hall
    clear hall
    by_cases hlt : k < s.size
    · omega
    · obtain rfl : k = s.size := by omega
      rw [List.take_of_length_le (by simp)] at HA hv ⊢
      have HX := Lib.hid (fun m (hw : IsWord m) (hm : textOf m = s.data.toList) => (show Cut s.data.toList false s.data.toList from HC.out).pos_is hw hm)
      generalize evalD s.data.toList = v at *
      have HW := Lib.hid (wrap32_bd ((v : Int)))
      cases hx : textOf (wrap32 ((v : Int))) == s.toList
      · have HN := Lib.hid (show ∀ m, IsWord m → textOf m ≠ s.data.toList from fun m hw hm => by
          have e := HX.out m hw hm
          rw [← e, hm, ByteArray.toList_eq] at hx
          simp at hx)
        go_wp2_with fail
        refine (text_any _ (wrap32_bd _) _).mono ?_
        rintro e w1 ⟨rfl, hb⟩
        have HB := Lib.hid hb
        clear hb
        go_wp2
        go_ret2
        exact ⟨Or.inr ⟨HN.out, rfl⟩, HB.out⟩
      · have HN := Lib.hid (show textOf (wrap32 ((v : Int))) = s.data.toList by rw [← ByteArray.toList_eq]; exact beq_iff_eq.1 hx)
        go_wp2_with fail
        refine (text_any _ (wrap32_bd _) _).mono ?_
        rintro e w1 ⟨rfl, hb⟩
        have HB := Lib.hid hb
        clear hb
        go_wp2
        go_ret2
        exact ⟨Or.inl ⟨_, HW.out, HN.out, rfl⟩, HB.out⟩
theorem parse_long (s : ByteArray) (h11 : 11 < s.size) (hm : s.size ≤ maxLen) (w : World) :
    Calls Try.prog 21 #[.string s] w (ParseEnd s.data.toList w) := by
  have HN := Lib.hid (show ∀ m, IsWord m → textOf m ≠ s.data.toList from fun m hw h => by
    have h1 := textOf_len hw
    rw [h] at h1
    simp at h1
    omega)
  unfold maxLen at hm
  go_enter Try.func21, Try.ntmps21
  go_wp2
  go_ret2
  exact ⟨Or.inr ⟨HN.out, rfl⟩, Below.refl _ _⟩
/-- word.Parse. -/
theorem parse_any (s : ByteArray) (hm : s.size ≤ maxLen) (w : World) :
    Calls Try.prog 21 #[.string s] w (ParseEnd s.data.toList w) := by
  by_cases h11 : 11 < s.size
  · exact parse_long s h11 hm w
  · by_cases h0 : s.size = 0
    · exact parse_zero s (by omega) h0 w
    · cases hh : ((s[0]'(by omega)).toNat : Int) == 45
      · exact parse_pos s (by omega) (by omega) hh w
      · exact parse_neg s (by omega) (by omega) hh w
end Go.Proofs.Ytcmhcpdfgcmbiaa.Wd
