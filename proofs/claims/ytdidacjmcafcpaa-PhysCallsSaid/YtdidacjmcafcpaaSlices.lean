/- What the library's Sort, Compact, Reverse and Clone do to a row of numbers of the call's own. -/
import Derived.Test.YtdidacjmcafcpaaShelf
import Derived.Test.YtdidacjmcafcpaaOwn
import Derived.Sort.OwnSortedInts
import Derived.Lib.Hide
namespace Go.Proofs.Ytdidacjmcafcpaa.Mem
open Go.RowKit Go.Sort

theorem grow_none (w : World) : grow w #[] = w := by simp [grow]
theorem own_cut {w : World} {B : Nat} {e : TypeId} {A : Option Addr} {n c m : Nat} {xs : List Value} (h : w.ownsRow B e 1 (.slice A n c) n xs) (hA : A ≠ none) (hm : m ≤ n) : w.ownsRow B e 1 (.slice A m c) m (xs.take m) := by
  refine ⟨by rw [List.length_take, h.1]; omega, ?_⟩
  rcases h.2 with ⟨h0, _⟩ | ⟨g, cap, cur, hv, hg, hh, h1, h2, h3, h4⟩
  · injection h0 with h0; exact absurd h0 hA
  · injection hv with e1 e2 e3
    subst e1; subst e3
    exact Or.inr ⟨g, c, cur, rfl, hg, hh, by omega, h2, h3, by rw [← h4, List.take_take]; congr 1; omega⟩
theorem own_zero {w : World} {B : Nat} {e : TypeId} {s : Nat} {A : Option Addr} {n c : Nat} {xs : List Value} (h : w.ownsRow B e s (.slice A n c) 0 xs) : xs = [] := List.length_eq_zero_iff.1 (by have := h.1; omega)

theorem clone_own (w : World) (v : Value) (l : List Int) (h : Ints w v l) (hsz : l.length ≤ 1000000) :
    Calls Try.prog 50 #[v] w (fun x w' => ∃ v', x = .returned v' ∧ OwnInts w.heap.size w' v' l ∧ Below w.heap.size w w') := by
  obtain ⟨A, c, rfl, h1, h2, h3⟩ := h
  cases A with
  | none =>
    have : l = [] := by
      rcases l with _ | ⟨a, l⟩
      · rfl
      · obtain ⟨ad, e, _⟩ := h3 0 (by simp); cases e
    subst this
    refine (Try.slices_Clone_int_nil 0 c w).mono ?_
    rintro e w' ⟨rfl, rfl⟩
    exact ⟨_, rfl, World.ownsRow_nil _ _ _ _, Below.refl _ _⟩
  | some ad =>
    rcases l with _ | ⟨x, l⟩
    · refine (Try.slices_Clone_int_zero ad c w).mono ?_
      rintro e w' ⟨v', rfl, h4, _, h5⟩
      exact ⟨_, rfl, h4, h5⟩
    · obtain ⟨blk, off, spot⟩ := ad
      have hspot : spot = none := by
        obtain ⟨ad, e, hc⟩ := h3 0 (by simp)
        injection e with e; subst e
        cases spot with
        | none => rfl
        | some s => exfalso; simp only [Addr.add, World.cell?] at hc; split at hc <;> simp at hc
      subst hspot
      refine (Try.slices_Clone_int blk off (x :: l).length c (x :: l) w (Nat.le_refl _) (by omega) (fun j hj => ?_)).mono ?_
      · obtain ⟨ad, e, hc⟩ := h3 j hj
        injection e with e; subst e
        rw [Addr.add_lit] at hc
        rw [List.getD_eq_getElem?_getD, List.getElem?_eq_getElem hj, Option.getD_some]
        exact hc
      · rintro e w' ⟨v', rfl, h4, _, h5⟩
        rw [List.take_length] at h4
        exact ⟨_, rfl, h4, h5⟩
end Go.Proofs.Ytdidacjmcafcpaa.Mem
