/- Moves: slices.Clone of words; moves and instructions in memory. -/
import Derived.Test.YtdohaoomckhbgaaVW
import Derived.Test.YtdohaoomckhbgaaHeld
import Derived.RangeFuncBox
namespace Go.Proofs.Ytdohaoomckhbgaa.Vm
open Go.ChangeShapes Go.WideShapes Go.ChangeAt Go.RowKit Go.Proofs.Ytdohaoomckhbgaa.Mem Go.Proofs.Ytdohaoomckhbgaa.Br
set_option linter.unusedVariables false
set_option linter.unusedSimpArgs false
theorem own_empty (w : World) : (w.alloc (.cells #[] 21)).ownsRow w.heap.size 21 1 (.slice (some ⟨w.heap.size, 0, none⟩) 0 0) 0 [] :=
  ⟨rfl, Or.inr ⟨w.heap.size, 0, #[], rfl, Nat.le_refl _, World.alloc_heap_new w _, Nat.le_refl _, by unfold maxLen; omega, rfl, rfl⟩⟩
set_option maxRecDepth 100000 in
theorem clone_any (w : World) (v : Value) (l : List Int) (h : WordsAt w v l) (hl : l.length ≤ 1000000) :
    Calls Try.prog 31 #[v] w (OwnPost l w) := by
  have H := Lib.hid h
  obtain ⟨A, c, rfl, h1, h2, h3⟩ := h
  unfold maxLen at h2
  cases A with
  | none =>
    have hl0 : l = [] := by
      cases l with
      | nil => rfl
      | cons x l => obtain ⟨ad, e, _⟩ := h3 0 (by simp); cases e
    subst hl0
    have HP := Lib.hid (show OwnPost [] w (.returned (.slice none 0 0)) w from ⟨_, rfl, World.ownsRow_nil _ _ _ _, Below.refl _ _⟩)
    clear h3
    have EQ := fun (w : World) (a : Option Addr) (n c : Nat) => Lib.run_eql_slice_nil (P := Try.prog) w 31 21 a n c 0 0 Try.underlying31
    go_enter Try.func31, Try.ntmps31
    go_wp2
    go_ret
    exact HP.out
  | some ad =>
    clear h3
    have EQ := fun (w : World) (a : Option Addr) (n c : Nat) => Lib.run_eql_slice_nil (P := Try.prog) w 31 21 a n c 0 0 Try.underlying31
    go_enter Try.func31, Try.ntmps31
    go_wp2_with (at_builtin; refine wpList_own0 rfl _ _ rfl rfl w.heap.size _ l rfl (own_empty w) (WordsAt.below H.out ((Below.refl _ _).alloc (Nat.le_refl _) _)) hl (by simp) ?_; intro v' w' hv hg)
    go_wp2
    go_ret
    exact ⟨_, rfl, hv, ((Below.refl _ w).alloc (Nat.le_refl _) _).grown hg (by simp) (fun j e => by cases e; exact Nat.le_refl _)⟩
end Go.Proofs.Ytdohaoomckhbgaa.Vm
