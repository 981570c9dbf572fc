/- Moves, plainly: what goes round. -/
import Derived.Test.YtdohaoomckhbgaaVA
namespace Go.Proofs.Ytdohaoomckhbgaa.Va
set_option linter.unusedVariables false
set_option linter.unusedSimpArgs false
def it (f : Int → Int) (x : Int) : Nat → Int
  | 0 => x
  | i + 1 => f (it f x i)
theorem it_add (f : Int → Int) (x : Int) (i : Nat) : ∀ j, it f x (i + j) = it f (it f x i) j
  | 0 => rfl
  | j + 1 => by show f (it f x (i + j)) = f (it f (it f x i) j); rw [it_add f x i j]
/-- From x on one comes to x again, behind n steps and not before. -/
def Closed (f : Int → Int) (x : Int) (n : Nat) : Prop := 1 ≤ n ∧ it f x n = x ∧ ∀ i, 0 < i → i < n → it f x i ≠ x
theorem Closed.apart {f : Int → Int} {x : Int} {n : Nat} (h : Closed f x n) {i j : Nat} (hij : i < j) (hj : j < n) : it f x i ≠ it f x j := fun e => by
  refine h.2.2 (i + (n - j)) (by omega) (by omega) ?_
  rw [it_add, e, ← it_add, show j + (n - j) = n by omega]
  exact h.2.1
theorem Closed.one {f : Int → Int} {x : Int} {n n' : Nat} (h : Closed f x n) (h' : Closed f x n') : n = n' := by
  rcases Nat.lt_trichotomy n n' with e | e | e
  · exact absurd h.2.1 (h'.2.2 n h.1 e)
  · exact e
  · exact absurd h'.2.1 (h.2.2 n' h'.1 e)
theorem Closed.next_last {f : Int → Int} {x : Int} {n i : Nat} (h : Closed f x n) (hi : i < n) : f (it f x i) = x ↔ i + 1 = n := by
  constructor
  · intro e
    rcases Nat.lt_or_ge (i + 1) n with hl | hl
    · exact absurd e (h.2.2 (i + 1) (by omega) hl)
    · omega
  · intro e
    have := h.2.1
    rw [← e] at this; exact this
def idxN (f : Int → Int) (x : Int) (n : Nat) (v : Int) : Nat := ((List.range n).find? fun i => it f x i == v).getD 0
theorem idxN_at {f : Int → Int} {x : Int} {n i : Nat} (h : Closed f x n) (hi : i < n) : idxN f x n (it f x i) = i := by
  have : (List.range n).find? (fun j => it f x j == it f x i) = some i := by
    rw [List.find?_range_eq_some]
    refine ⟨by simp, by simpa using hi, fun j hj => ?_⟩
    have := h.apart hj hi
    simp [this]
  unfold idxN
  rw [this]; rfl
/-- The places of a circle, and the moves of it. -/
def orb (f : Int → Int) (x : Int) (n : Nat) : List Int := (List.range n).map (it f x)
def circ (f : Int → Int) (x : Int) (n : Nat) : List Mov := (List.range n).map fun i => (it f x i, it f x (i + 1))
theorem circ_succ (f : Int → Int) (x : Int) (n : Nat) : circ f x (n + 1) = circ f x n ++ [(it f x n, it f x (n + 1))] := by unfold circ; rw [List.range_succ, List.map_append]; rfl
theorem orb_succ (f : Int → Int) (x : Int) (n : Nat) : orb f x (n + 1) = orb f x n ++ [it f x n] := by unfold orb; rw [List.range_succ, List.map_append]; rfl
theorem circ_pre (f : Int → Int) (x : Int) {i n : Nat} (h : i ≤ n) : circ f x i <+: circ f x n := by
  unfold circ
  refine List.IsPrefix.map _ ?_
  rw [show n = i + (n - i) by omega, List.range_add]
  exact List.prefix_append _ _
theorem orb_len (f : Int → Int) (x : Int) (n : Nat) : (orb f x n).length = n := by unfold orb; simp
theorem circ_len (f : Int → Int) (x : Int) (n : Nat) : (circ f x n).length = n := by unfold circ; simp
theorem mem_orb {f : Int → Int} {x y : Int} {n : Nat} : y ∈ orb f x n ↔ ∃ i, i < n ∧ it f x i = y := by unfold orb; simp
end Go.Proofs.Ytdohaoomckhbgaa.Va
