/- What Number, and the document's own Name and Number, answer. -/
import Derived.Test.YtcmhcpdfgcmbiaaNames
import Derived.Test.YtcmhcpdfgcmbiaaDo
namespace Go.Proofs.Ytcmhcpdfgcmbiaa.Wd
open Go.ChangeShapes Go.WideShapes Go.ChangeAt Go.RowKit Go.Maps Go.WideElems Go.ChangeMaps
set_option linter.unusedVariables false

/-- The operation of a name; 0, if there is none. -/
def numI (s : ByteArray) : Int :=
  match (List.range 18).find? (fun i : Nat => decide (nameB ((i : Int) + 1) = s)) with
  | some i => (i : Int) + 1
  | none => 0
theorem num_hit {s : ByteArray} {k : Nat} (hk : k < 18) (hno : ∀ j : Nat, j < k → nameB ((j : Int) + 1) ≠ s) (h : nameB ((k : Int) + 1) = s) : numI s = (k : Int) + 1 := by
  have e : (List.range 18).find? (fun i : Nat => decide (nameB ((i : Int) + 1) = s)) = some k := by
    rw [List.find?_range_eq_some]
    exact ⟨by simp [h], by simpa using hk, fun j hj => by simp [hno j hj]⟩
  rw [numI, e]
theorem num_none {s : ByteArray} (hno : ∀ j : Nat, j < 18 → nameB ((j : Int) + 1) ≠ s) : numI s = 0 := by
  have e : (List.range 18).find? (fun i : Nat => decide (nameB ((i : Int) + 1) = s)) = none := by
    rw [List.find?_eq_none]
    intro j hj
    have := hno j (by simpa using hj)
    simp [this]
  rw [numI, e]

theorem ret_str {x y : ByteArray} (h : x = y) : Ending.returned (.string x) = .returned (.string y) := by rw [h]
theorem toList_inj {x y : ByteArray} (h : x.toList = y.toList) : x = y := by
  rw [ByteArray.toList_eq, ByteArray.toList_eq] at h
  obtain ⟨x⟩ := x; obtain ⟨y⟩ := y
  have : x = y := Array.toList_inj.1 h
  rw [this]
theorem same_yes {x y : ByteArray} (h : (x.toList == y.toList) = true) : x = y := toList_inj (beq_iff_eq.1 h)
theorem same_no {x y : ByteArray} (h : (x.toList == y.toList) = false) : x ≠ y := fun e => by rw [e] at h; simp at h
theorem yes_same {x y : ByteArray} (h : x = y) : (x.toList == y.toList) = true := by rw [h]; simp
theorem no_same {x y : ByteArray} (h : x ≠ y) : (x.toList == y.toList) = false := beq_eq_false_iff_ne.2 fun e => h (toList_inj e)

theorem cell_new (w : World) (cs : Array Value) (t : TypeId) (j : Nat) (v : Value) (h : cs[j]? = some v) : (w.alloc (.cells cs t)).cell? ⟨w.heap.size, j, none⟩ = some v := by
  rw [World.cell?_alloc_new]; exact h
/-- The document's list of the names: eighteen texts in a new row. -/
def NamesRow (w : World) (e : Ending) (w' : World) : Prop :=
  ∃ b, e = .returned (.slice (some ⟨b, 0, none⟩) 18 18) ∧ (∀ j : Nat, j < 18 → w'.cell? ⟨b, j, none⟩ = some (.string (nameB ((j : Int) + 1)))) ∧ Below w.heap.size w w'
theorem names_any (w : World) : Calls Try.prog 33 #[] w (NamesRow w) := by
  go_enter Try.func33, Try.ntmps33
  go_wp2
  go_ret
  refine ⟨_, rfl, ?_, (Below.refl _ _).alloc (Nat.le_refl _) _⟩
  intro j hj
  have hj' : j = 0 ∨ j = 1 ∨ j = 2 ∨ j = 3 ∨ j = 4 ∨ j = 5 ∨ j = 6 ∨ j = 7 ∨ j = 8 ∨ j = 9 ∨ j = 10 ∨ j = 11 ∨ j = 12 ∨ j = 13 ∨ j = 14 ∨ j = 15 ∨ j = 16 ∨ j = 17 := by omega
  rcases hj' with rfl | rfl | rfl | rfl | rfl | rfl | rfl | rfl | rfl | rfl | rfl | rfl | rfl | rfl | rfl | rfl | rfl | rfl <;> exact cell_new w _ _ _ _ rfl
theorem rname_any (op : Int) (h : -9223372036854775808 ≤ op ∧ op ≤ 9223372036854775807) (w : World) : Calls Try.prog 19 #[.int .i64 op] w (NameOf op w) := by
  obtain ⟨h1, h2⟩ := h
  by_cases hlo : op < 1
  · have E := Lib.hid (nameB_none (Or.inl hlo))
    go_enter Try.func19, Try.ntmps19
    go_wp2_with fail
    refine (names_any _).mono ?_
    rintro e w1 ⟨b, rfl, hc, hbel⟩
    have HB := Lib.hid hbel
    clear hc hbel
    go_wp2
    go_ret
    exact ⟨ret_str E.out.symm, HB.out⟩
  · by_cases hhi : 18 < op
    · have E := Lib.hid (nameB_none (Or.inr hhi))
      go_enter Try.func19, Try.ntmps19
      go_wp2_with fail
      refine (names_any _).mono ?_
      rintro e w1 ⟨b, rfl, hc, hbel⟩
      have HB := Lib.hid hbel
      clear hc hbel
      go_wp2
      go_ret
      exact ⟨ret_str E.out.symm, HB.out⟩
    · obtain ⟨k, rfl⟩ : ∃ k : Nat, op = (k : Int) + 1 := ⟨(op - 1).toNat, by omega⟩
      have hk : k < 18 := by omega
      clear h1 h2 hlo hhi
      go_enter Try.func19, Try.ntmps19
      go_wp2_with fail
      refine (names_any _).mono ?_
      rintro e w1 ⟨b, rfl, hc, hbel⟩
      have HB := Lib.hid hbel
      have hk0 := hc k hk
      clear hc hbel
      go_wp2
      go_ret
      exact ⟨rfl, HB.out⟩
def NumOf (s : ByteArray) (w : World) (e : Ending) (w' : World) : Prop := e = .returned (.int .i64 (numI s)) ∧ Below w.heap.size w w'
theorem number_any (s : ByteArray) (w : World) : Calls Try.prog 20 #[.string s] w (NumOf s w) := by
  go_enter Try.func20, Try.ntmps20
  go_wp2_with fail
  refine (spellings_any _).mono ?_
  rintro e w1 ⟨b, rfl, hown, hbel⟩
  have HO := Lib.hid hown
  have HB := Lib.hid hbel
  clear hown hbel
  go_wp2
  go_loop [4] (fun i => ∃ k : Nat, k ≤ 18 ∧ i = .int .i64 (k + 1) ∧ ∀ j : Nat, j < k → nameB ((j : Int) + 1) ≠ s) (fun i => 19 - (intOf i).toNat)
  case atStart => exact ⟨0, by omega, rfl, fun j hj => by omega⟩
  case round =>
    obtain ⟨k, hk, rfl, hno⟩ := hrel
    have HN := Lib.hid hno
    clear hno
    by_cases hlt : k < 18
    · obtain ⟨v, ps, hrun, hR⟩ := HO.out.lookup law Try.underlying47 (zeroE w1) (rdName_mk _) (keyOk (n := (k : Int) + 1) (by omega))
      have hv : v = .agg #[.string (nameB ((k : Int) + 1))] := by
        rw [show (⟨#[]⟩ : ByteArray).data.toList = [] from rfl, laid_name] at hR
        exact rdName_inv hR
      subst hv
      clear hR
      have hf := fieldRun (nameB ((k : Int) + 1)) w1
      by_cases he : nameB ((k : Int) + 1) = s
      · have hb := yes_same he
        have E := Lib.hid (num_hit hlt HN.out he)
        clear he
        go_wp2
        go_ret
        exact ⟨ret_int E.out.symm, HB.out⟩
      · have hb := no_same he
        have E := Lib.hid he
        clear he
        go_wp2
        go_round
        case rel =>
          refine ⟨k + 1, by omega, by go_num, fun j hj => ?_⟩
          by_cases h : j < k
          · exact HN.out j h
          · obtain rfl : j = k := by omega
            exact E.out
        case measure => simp [intOf]; omega
    · obtain rfl : k = 18 := by omega
      have E := Lib.hid (num_none HN.out)
      go_wp2
      go_ret
      exact ⟨ret_int E.out.symm, HB.out⟩
theorem rnumber_any (s : ByteArray) (w : World) : Calls Try.prog 23 #[.string s] w (NumOf s w) := by
  go_enter Try.func23, Try.ntmps23
  go_wp2_with fail
  refine (names_any _).mono ?_
  rintro e w1 ⟨b, rfl, hc, hbel⟩
  have HC := Lib.hid hc
  have HB := Lib.hid hbel
  clear hc hbel
  go_wp2
  go_loop [4] (fun i => ∃ k : Nat, k ≤ 18 ∧ i = .int .i64 k ∧ ∀ j : Nat, j < k → nameB ((j : Int) + 1) ≠ s) (fun i => 18 - (intOf i).toNat)
  case atStart => exact ⟨0, by omega, rfl, fun j hj => by omega⟩
  case round =>
    obtain ⟨k, hk, rfl, hno⟩ := hrel
    have HN := Lib.hid hno
    clear hno
    by_cases hlt : k < 18
    · have hk0 := HC.out k hlt
      by_cases he : nameB ((k : Int) + 1) = s
      · have hb := yes_same he
        have E := Lib.hid (num_hit hlt HN.out he)
        clear he
        go_wp2
        go_ret
        exact ⟨ret_int E.out.symm, HB.out⟩
      · have hb := no_same he
        have E := Lib.hid he
        clear he
        go_wp2
        go_round
        case rel =>
          refine ⟨k + 1, by omega, by go_num, fun j hj => ?_⟩
          by_cases h : j < k
          · exact HN.out j h
          · obtain rfl : j = k := by omega
            exact E.out
        case measure => simp [intOf]; omega
    · obtain rfl : k = 18 := by omega
      have E := Lib.hid (num_none HN.out)
      go_wp2
      go_ret
      exact ⟨ret_int E.out.symm, HB.out⟩
end Go.Proofs.Ytcmhcpdfgcmbiaa.Wd
