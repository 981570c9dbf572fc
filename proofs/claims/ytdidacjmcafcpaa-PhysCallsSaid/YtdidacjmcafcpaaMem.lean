/- Words for rows in memory: a slice that reads as whole numbers, and a slice of such. -/
import Derived.WalkKit
import Derived.ProofKit
import Derived.Below
import Derived.Deep.Draws
namespace Go.Proofs.Ytdidacjmcafcpaa.Mem
open Go.RowKit

/-- The slice v reads as the numbers l. -/
def Ints (w : World) (v : Value) (l : List Int) : Prop :=
  ∃ (A : Option Addr) (c : Nat), v = .slice A l.length c ∧ l.length ≤ c ∧ c ≤ maxLen ∧ ∀ k (h : k < l.length), ∃ ad, A = some ad ∧ w.cell? (ad.add k) = some (.int .i64 l[k])
/-- The slice v reads as the rows g. -/
def Grid (w : World) (v : Value) (g : List (List Int)) : Prop :=
  ∃ (A : Option Addr) (c : Nat), v = .slice A g.length c ∧ g.length ≤ c ∧ c ≤ maxLen ∧ ∀ k (h : k < g.length), ∃ ad u, A = some ad ∧ w.cell? (ad.add k) = some u ∧ Ints w u g[k]

theorem lt_of_cell {w : World} {p : Addr} {v : Value} (h : w.cell? p = some v) : p.block < w.heap.size := by
  rcases Nat.lt_or_ge p.block w.heap.size with h1 | h1
  · exact h1
  · exfalso
    have h2 : w.heap[p.block]? = none := Array.getElem?_eq_none h1
    simp [World.cell?, h2] at h
theorem cell_keep {w w' : World} {B : Nat} (hb : Below B w w') (hB : w.heap.size ≤ B) {p : Addr} {v : Value} (h : w.cell? p = some v) : w'.cell? p = some v := by
  rw [hb.cell (Nat.lt_of_lt_of_le (lt_of_cell h) hB)]; exact h
theorem Ints.keep {w w' : World} {v : Value} {l : List Int} (h : Ints w v l) (hb : Below w.heap.size w w') : Ints w' v l := by
  obtain ⟨A, c, hv, h1, h2, h3⟩ := h
  refine ⟨A, c, hv, h1, h2, fun k hk => ?_⟩
  obtain ⟨ad, e, hc⟩ := h3 k hk
  exact ⟨ad, e, cell_keep hb (Nat.le_refl _) hc⟩
theorem Grid.keep {w w' : World} {v : Value} {g : List (List Int)} (h : Grid w v g) (hb : Below w.heap.size w w') : Grid w' v g := by
  obtain ⟨A, c, hv, h1, h2, h3⟩ := h
  refine ⟨A, c, hv, h1, h2, fun k hk => ?_⟩
  obtain ⟨ad, u, e, hc, hu⟩ := h3 k hk
  exact ⟨ad, u, e, cell_keep hb (Nat.le_refl _) hc, hu.keep hb⟩
theorem Ints.drewN {w : World} {v : Value} {l : List Int} (h : Ints w v l) (n : Nat) : Ints (w.drewN n) v l := h
theorem Grid.drewN {w : World} {v : Value} {g : List (List Int)} (h : Grid w v g) (n : Nat) : Grid (w.drewN n) v g := h
theorem ints_none (w : World) : Ints w (.slice none 0 0) [] := ⟨none, 0, rfl, Nat.le_refl _, Nat.zero_le _, fun k h => absurd h (by simp)⟩
theorem rows_none (w : World) : Grid w (.slice none 0 0) [] := ⟨none, 0, rfl, Nat.le_refl _, Nat.zero_le _, fun k h => absurd h (by simp)⟩
theorem at_add0 (x k : Nat) : (⟨x, 0, none⟩ : Addr).add k = ⟨x, k, none⟩ := by cases k <;> simp [Addr.add]
end Go.Proofs.Ytdidacjmcafcpaa.Mem
