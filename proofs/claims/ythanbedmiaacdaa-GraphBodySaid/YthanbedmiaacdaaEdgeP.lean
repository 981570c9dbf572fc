/- Plain mathematics for the laws of graphs: edges of what is tidied and turned; what Made makes is small. -/
import Derived.Test.YthanbedmiaacdaaLaws
import Derived.Test.YthanbedmiaacdaaMade
namespace Go.Proofs.Ythanbedmiaacdaa.Gl
open Go.ChangeShapes Go.WideShapes Go.ChangeAt Go.RowKit Go.Proofs.Ythanbedmiaacdaa.Mem Go.Proofs.Ythanbedmiaacdaa.Gr Go.Proofs.Ythanbedmiaacdaa.Gn Go.Proofs.Ythanbedmiaacdaa.Gc
set_option linter.unusedVariables false

theorem contains_li {l : List Nat} {b : Nat} : (li l).contains (b : Int) = l.contains b := by
  unfold li
  rw [Bool.eq_iff_iff, List.contains_iff_mem, List.contains_iff_mem, List.mem_map]
  constructor
  · rintro ⟨x, hx, e⟩
    have : x = b := Int.ofNat.inj e
    exact this ▸ hx
  · intro h; exact ⟨b, h, rfl⟩
theorem lii_getD (T : G) (a : Nat) : (lii T).getD a [] = li (T.getD a []) := by
  unfold lii
  rw [List.getD_eq_getElem?_getD, List.getD_eq_getElem?_getD, List.getElem?_map]
  cases T[a]? <;> rfl
/-- An edge between numbers of blocks. -/
theorem edgeB_nat (g : List (List Int)) (a b : Nat) : edgeB g a b = (decide (a < g.length ∧ b < g.length) && (g.getD a []).contains (b : Int)) := by
  unfold edgeB
  rw [Int.toNat_natCast]
  congr 1
  exact decide_eq_decide.2 ⟨fun h => by omega, fun h => by omega⟩
theorem edgeB_lii (T : G) (a b : Nat) : edgeB (lii T) a b = (decide (a < T.length ∧ b < T.length) && (T.getD a []).contains b) := by
  rw [edgeB_nat, lii_getD, contains_li, lii_len]
theorem edge_lii_tidy (g : List (List Int)) (a b : Nat) : edgeB (lii (tidyN g)) a b = edgeB g a b := by
  rw [edgeB_lii, edgeB_nat, tidyN_len]
  by_cases h : a < g.length ∧ b < g.length
  · rw [decide_eq_true h, Bool.true_and, Bool.true_and, List.getD_eq_getElem?_getD, tidyN_get h.1, Option.getD_some, Bool.eq_iff_iff, List.contains_iff_mem, List.mem_filter, List.mem_range]
    exact ⟨fun x => x.2, fun x => ⟨h.2, x⟩⟩
  · rw [decide_eq_false h]; rfl
theorem edge_turn {T : G} (hT : Neat T) (a b : Nat) : edgeB (lii (turnN T)) b a = edgeB (lii T) a b := by
  rw [edgeB_lii, edgeB_lii, turnN_len, Bool.eq_iff_iff, Bool.and_eq_true, Bool.and_eq_true, decide_eq_true_eq, decide_eq_true_eq, List.contains_iff_mem, List.contains_iff_mem, mem_turnN hT]
  exact ⟨fun h => ⟨⟨h.1.2, h.1.1⟩, h.2⟩, fun h => ⟨⟨h.1.2, h.1.1⟩, h.2⟩⟩
theorem edge_preds (g : List (List Int)) (a b : Nat) : edgeB (lii (turnN (tidyN g))) b a = edgeB g a b := by rw [edge_turn (tidyN_neat g), edge_lii_tidy]
theorem madeL_len (s : List Int) : (madeL s).length = madeN s := madeTo_len _ _ _
theorem madeL_small (s : List Int) : Small (madeL s) := by
  have hb := madeN_bd s
  refine ⟨by rw [madeL_len]; omega, fun i hi => ?_⟩
  have e : (madeL s)[i] = madeRow s (madeN s) i 3 := by
    have hi' : i < madeN s := by rw [← madeL_len s]; exact hi
    refine at_of ?_ hi
    unfold madeL madeTo
    rw [List.getElem?_map, List.getElem?_range hi']; rfl
  rw [e]
  have := madeRow_len s (madeN s) i 3
  omega
end Go.Proofs.Ythanbedmiaacdaa.Gl
