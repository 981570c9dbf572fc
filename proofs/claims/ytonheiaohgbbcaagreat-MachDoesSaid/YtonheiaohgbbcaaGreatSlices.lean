/- What the library's Sort, Compact, Reverse and Clone do to a row of numbers of the call's own. -/
import Derived.Test.YtonheiaohgbbcaaGreatShelf
import Derived.Test.YtonheiaohgbbcaaGreatOwn
import Derived.Sort.OwnSortedInts
import Derived.Lib.Hide
namespace Go.Proofs.YtonheiaohgbbcaaGreat.Mem
open Go.RowKit Go.Sort

theorem grow_none (w : World) : grow w #[] = w := by simp [grow]
theorem own_cut {w : World} {B : Nat} {e : TypeId} {A : Option Addr} {n c m : Nat} {xs : List Value} (h : w.ownsRow B e 1 (.slice A n c) n xs) (hA : A ≠ none) (hm : m ≤ n) : w.ownsRow B e 1 (.slice A m c) m (xs.take m) := by
  refine ⟨by rw [List.length_take, h.1]; omega, ?_⟩
  rcases h.2 with ⟨h0, _⟩ | ⟨g, cap, cur, hv, hg, hh, h1, h2, h3, h4⟩
  · injection h0 with h0; exact absurd h0 hA
  · injection hv with e1 e2 e3
    subst e1; subst e3
    exact Or.inr ⟨g, c, cur, rfl, hg, hh, by omega, h2, h3, by rw [← h4, List.take_take]; congr 1; omega⟩
theorem own_zero {w : World} {B : Nat} {e : TypeId} {s : Nat} {A : Option Addr} {n c : Nat} {xs : List Value} (h : w.ownsRow B e s (.slice A n c) 0 xs) : xs = [] := List.length_eq_zero_iff.1 (by have := h.1; omega)

/-- A row of the call's own holds other numbers now, and nothing else has turned. -/
def Turned (B : Nat) (v v' : Value) (l : List Int) (w : World) (e : Value) (x : Ending) (w' : World) : Prop :=
  x = .returned e ∧ OwnInts B w' v' l ∧ w.grownBy w' v.ownBlock
theorem sort_own (w : World) (B : Nat) (v : Value) (l : List Int) (h : OwnInts B w v l) (hsz : l.length ≤ 1000000) :
    Calls Tryz.prog 94 #[v] w (Turned B v v (l.mergeSort fun x y => decide (x ≤ y)) w (.tuple #[])) := by
  rcases h.2 with ⟨rfl, h0⟩ | ⟨g, cap, cur, rfl, hg, hh, h1, h2, h3, h4⟩
  · have : l = [] := List.length_eq_zero_iff.1 h0
    subst this
    refine (Tryz.slices_Sort_int_none none 0 w).mono ?_
    rintro e w' ⟨rfl, rfl⟩
    exact ⟨rfl, by rw [List.mergeSort_nil]; exact h, World.grownBy.refl _ _⟩
  · rw [Nat.mul_one] at h4
    refine (Tryz.slices_Sort_int g 0 cap l w (holds_of_blockI hh h4) ((Array.getElem?_eq_some_iff.1 hh).1) (by omega)).mono ?_
    rintro e w' ⟨rfl, n, os, rfl⟩
    refine ⟨rfl, ?_, grownBy_sortedI _⟩
    have := ownsRow_sortedI (n := n) (os := os) (ts := l.mergeSort fun x y => decide (x ≤ y)) (by simp) hg hh h1 h2 h3
    unfold OwnInts
    rw [List.length_mergeSort]
    exact this
theorem reverse_own (w : World) (B : Nat) (v : Value) (l : List Int) (h : OwnInts B w v l) (hsz : l.length ≤ 1000000) :
    Calls Tryz.prog 119 #[v] w (Turned B v v l.reverse w (.tuple #[])) := by
  rcases h.2 with ⟨rfl, h0⟩ | ⟨g, cap, cur, rfl, hg, hh, h1, h2, h3, h4⟩
  · have : l = [] := List.length_eq_zero_iff.1 h0
    subst this
    refine (Tryz.slices_Reverse_int_empty none 0 w).mono ?_
    rintro e w' ⟨rfl, rfl⟩
    exact ⟨rfl, h, World.grownBy.refl _ _⟩
  · rw [Nat.mul_one] at h4
    refine (Tryz.slices_Reverse_int g 0 cap l w (holds_of_blockI hh h4) (by omega)).mono ?_
    rintro e w' ⟨rfl, n, rfl⟩
    rw [← grow_none (putRow _ _ _ _ _)]
    refine ⟨rfl, ?_, grownBy_sortedI _⟩
    have := ownsRow_sortedI (n := n) (os := #[]) (ts := l.reverse) (by simp) hg hh h1 h2 h3
    unfold OwnInts
    rw [List.length_reverse]
    exact this
/-- The row, cut. -/
def Cut (B : Nat) (v : Value) (l : List Int) (w : World) (x : Ending) (w' : World) : Prop :=
  ∃ v', x = .returned v' ∧ v'.ownBlock = v.ownBlock ∧ OwnInts B w' v' l ∧ w.grownBy w' v.ownBlock
theorem compact_own (w : World) (B : Nat) (v : Value) (l : List Int) (h : OwnInts B w v l) (hsz : l.length ≤ 1000000) :
    Calls Tryz.prog 122 #[v] w (Cut B v (Lib.compact l) w) := by
  rcases h.2 with ⟨rfl, h0⟩ | ⟨g, cap, cur, rfl, hg, hh, h1, h2, h3, h4⟩
  · have : l = [] := List.length_eq_zero_iff.1 h0
    subst this
    refine (Tryz.slices_Compact_int_empty none 0 w).mono ?_
    rintro e w' ⟨rfl, rfl⟩
    exact ⟨_, rfl, rfl, h, World.grownBy.refl _ _⟩
  · rw [Nat.mul_one] at h4
    have hle : (Lib.compact l).length ≤ l.length := by
      unfold Lib.compact Lib.compactUpTo
      rw [List.length_map]
      exact Nat.le_trans (List.length_filter_le _ _) (by rw [List.length_range]; exact Nat.le_refl _)
    refine (Tryz.slices_Compact_int g 0 cap l w (holds_of_blockI hh h4) (by omega) h1).mono ?_
    rintro e w' ⟨rfl, n, rfl⟩
    rw [← grow_none (putRow _ _ _ _ _)]
    refine ⟨_, rfl, rfl, ?_, grownBy_sortedI _⟩
    have h5 := ownsRow_sortedI (n := n) (os := #[]) (ts := Lib.compact l ++ List.replicate (l.length - (Lib.compact l).length) 0) (by rw [List.length_append, List.length_replicate]; omega) hg hh h1 h2 h3
    have h6 := own_cut h5 (by simp) hle
    unfold OwnInts
    rw [← List.map_take, List.take_left] at h6
    exact h6
theorem clone_own (w : World) (v : Value) (l : List Int) (h : Ints w v l) (hsz : l.length ≤ 1000000) :
    Calls Tryz.prog 53 #[v] w (fun x w' => ∃ v', x = .returned v' ∧ OwnInts w.heap.size w' v' l ∧ Below w.heap.size w w') := by
  obtain ⟨A, c, rfl, h1, h2, h3⟩ := h
  cases A with
  | none =>
    have : l = [] := by
      rcases l with _ | ⟨a, l⟩
      · rfl
      · obtain ⟨ad, e, _⟩ := h3 0 (by simp); cases e
    subst this
    refine (Tryz.slices_Clone_int_nil 0 c w).mono ?_
    rintro e w' ⟨rfl, rfl⟩
    exact ⟨_, rfl, World.ownsRow_nil _ _ _ _, Below.refl _ _⟩
  | some ad =>
    rcases l with _ | ⟨x, l⟩
    · refine (Tryz.slices_Clone_int_zero ad c w).mono ?_
      rintro e w' ⟨v', rfl, h4, _, h5⟩
      exact ⟨_, rfl, h4, h5⟩
    · obtain ⟨blk, off, spot⟩ := ad
      have hspot : spot = none := by
        obtain ⟨ad, e, hc⟩ := h3 0 (by simp)
        injection e with e; subst e
        cases spot with
        | none => rfl
        | some s => exfalso; simp only [Addr.add, World.cell?] at hc; split at hc <;> simp at hc
      subst hspot
      refine (Tryz.slices_Clone_int blk off (x :: l).length c (x :: l) w (Nat.le_refl _) (by omega) (fun j hj => ?_)).mono ?_
      · obtain ⟨ad, e, hc⟩ := h3 j hj
        injection e with e; subst e
        rw [Addr.add_lit] at hc
        rw [List.getD_eq_getElem?_getD, List.getElem?_eq_getElem hj, Option.getD_some]
        exact hc
      · rintro e w' ⟨v', rfl, h4, _, h5⟩
        rw [List.take_length] at h4
        exact ⟨_, rfl, h4, h5⟩
end Go.Proofs.YtonheiaohgbbcaaGreat.Mem
