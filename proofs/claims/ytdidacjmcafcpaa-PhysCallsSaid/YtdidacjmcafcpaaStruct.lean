/- A struct of slices in a block; rows of numbers apart from one another. -/
import Derived.Test.YtdidacjmcafcpaaAppend
import Derived.RangeFuncBox
namespace Go.Proofs.Ytdidacjmcafcpaa.Mem
open Go.RowKit

/-- Block x holds the values vs, as one struct of type t. -/
def Str (w : World) (x : Nat) (t : TypeId) (vs : List Value) : Prop := w.heap[x]? = some (.cells vs.toArray t (0, 0))
theorem Str.lt {w : World} {x : Nat} {t : TypeId} {vs : List Value} (h : Str w x t vs) : x < w.heap.size := (Array.getElem?_eq_some_iff.1 h).1
theorem Str.cell {w : World} {x : Nat} {t : TypeId} {vs : List Value} (h : Str w x t vs) (k : Nat) : w.cell? ⟨x, k, none⟩ = vs[k]? := by
  simp [World.cell?, show w.heap[x]? = _ from h]
theorem Str.frozen {w : World} {x : Nat} {t : TypeId} {vs : List Value} (h : Str w x t vs) (k : Nat) : w.frozen? ⟨x, k, none⟩ = false := by
  simp [World.frozen?, show w.heap[x]? = _ from h]
theorem Str.kept {w w' : World} {row : Option Nat} {x : Nat} {t : TypeId} {vs : List Value} (h : Str w x t vs) (hg : w.grownBy w' row) (hne : some x ≠ row) : Str w' x t vs := (hg.block x h.lt hne).trans h
theorem Str.below {w w' : World} {x : Nat} {t : TypeId} {vs : List Value} (h : Str w x t vs) (hb : Below w.heap.size w w') : Str w' x t vs := (hb.block x h.lt).trans h
theorem Str.set {w : World} {x : Nat} {t : TypeId} {vs : List Value} (h : Str w x t vs) (k : Nat) (u : Value) : Str (w.setCell ⟨x, k, none⟩ u) x t (vs.set k u) := by
  have := heap_setCell_same w x k vs.toArray t u h
  rw [List.setIfInBounds_toArray] at this
  exact this
theorem Str.not_row {w : World} {x : Nat} {t e : TypeId} {vs : List Value} (h : Str w x t vs) (hte : t ≠ e) {base size k : Nat} {v : Value} {xs : List Value} (hr : w.ownsRow base e size v k xs) : some x ≠ v.ownBlock := by
  rcases hr.2 with ⟨rfl, _⟩ | ⟨g, cap, cur, rfl, _, hgb, _⟩
  · simp [Value.ownBlock]
  · intro e'
    injection e' with e'
    change x = g at e'
    subst e'
    rw [show w.heap[x]? = _ from h] at hgb
    injection hgb with hgb
    injection hgb with _ ht
    exact hte ht
theorem setCell_grownBy (w : World) (p : Addr) (u : Value) : w.grownBy (w.setCell p u) (some p.block) :=
  ⟨rfl, rfl, rfl, by simp [World.setCell], fun k _ hk => Below.heap_setCell _ _ _ _ (fun e => hk (by rw [e]))⟩

theorem cell_made {w : World} {n : Nat} {v : Value} {t : TypeId} (h : n = w.heap.size) : (w.alloc (.cells #[v] t)).cell? ⟨n, 0, none⟩ = some v := by
  subst h; exact (Boxed.new w t v).cell
theorem size_set (w : World) (p : Addr) (u : Value) : (w.setCell p u).heap.size = w.heap.size := by simp [World.setCell]
/-- A row that has turned, perhaps into another block. -/
theorem RowsD.change {B : Nat} {w w1 : World} {vs : List Value} {R : List (List Int)} (h : RowsD B w vs R) {i : Nat} {u u' : Value} (hu : vs[i]? = some u) {l : List Int} (hg : w.grownBy w1 u.ownBlock) (ho : OwnInts B w1 u' l)
    (hm : u'.ownBlock = u.ownBlock ∨ ∃ g, u'.ownBlock = some g ∧ w.heap.size ≤ g) : RowsD B w1 (vs.set i u') (R.set i l) := by
  obtain ⟨h2, h3, h4⟩ := h
  have hap : ∀ k x, k ≠ i → vs[k]? = some x → (x.ownBlock = none ∨ x.ownBlock ≠ u'.ownBlock) ∧ (u'.ownBlock = none ∨ u'.ownBlock ≠ x.ownBlock) := by
    intro k x hk ex
    rcases hm with hm | ⟨g, hm, hge⟩
    · rw [hm]; exact ⟨h4 k i x u hk ex hu, h4 i k u x (fun e => hk e.symm) hu ex⟩
    · have hkl : k < R.length := by have := (List.getElem?_eq_some_iff.1 ex).1; omega
      obtain ⟨x0, e0, hx⟩ := h3 k hkl
      rw [ex] at e0; injection e0 with e0; subst e0
      have hlt := hx.lt
      rw [hm]
      constructor
      · right; intro e; have := (hlt g e).2; omega
      · right; intro e; have := (hlt g e.symm).2; omega
  have hil : i < vs.length := (List.getElem?_eq_some_iff.1 hu).1
  refine ⟨by rw [List.length_set, List.length_set]; exact h2, fun k hk => ?_, fun k j x y hkj ex ey => ?_⟩
  · rw [List.length_set] at hk
    rw [List.getElem_set, List.getElem?_set]
    split
    · rename_i e; subst e; exact ⟨u', by first | rfl | rw [if_pos hil], ho⟩
    · rename_i e
      obtain ⟨x, ex, hx⟩ := h3 k hk
      exact ⟨x, ex, World.ownsRow.kept hx hg (h4 k i x u (fun e' => e e'.symm) ex hu)⟩
  · rw [List.getElem?_set] at ex ey
    by_cases e1 : i = k
    · rw [if_pos e1, if_pos hil] at ex; injection ex with ex; subst ex
      rw [if_neg (by omega)] at ey
      exact (hap j y (by omega) ey).2
    · rw [if_neg e1] at ex
      by_cases e2 : i = j
      · rw [if_pos e2, if_pos hil] at ey; injection ey with ey; subst ey
        exact (hap k x (by omega) ex).1
      · rw [if_neg e2] at ey
        exact h4 k j x y hkj ex ey
/-- What turns no row of numbers keeps them all. -/
theorem RowsD.kept {B : Nat} {w w1 : World} {vs : List Value} {R : List (List Int)} (h : RowsD B w vs R) {row : Option Nat} (hg : w.grownBy w1 row) (hr : ∀ u l, OwnInts B w u l → u.ownBlock = none ∨ u.ownBlock ≠ row) : RowsD B w1 vs R := by
  obtain ⟨h2, h3, h4⟩ := h
  refine ⟨h2, fun k hk => ?_, h4⟩
  obtain ⟨x, ex, hx⟩ := h3 k hk
  exact ⟨x, ex, World.ownsRow.kept hx hg (hr x _ hx)⟩
theorem RowsD.setStr {B : Nat} {w : World} {vs vs' : List Value} {R : List (List Int)} (h : RowsD B w vs R) {x : Nat} {t : TypeId} (hs : Str w x t vs') (ht : t ≠ 3) (k : Nat) (u : Value) : RowsD B (w.setCell ⟨x, k, none⟩ u) vs R :=
  h.kept (setCell_grownBy w ⟨x, k, none⟩ u) (fun _ _ hu => Or.inr (Ne.symm (hs.not_row ht hu)))
theorem RowsD.below {B : Nat} {w w1 : World} {vs : List Value} {R : List (List Int)} (h : RowsD B w vs R) (hb : Below w.heap.size w w1) : RowsD B w1 vs R :=
  h.kept (grown_of_below hb) (fun u _ _ => by cases u.ownBlock <;> simp)
theorem RowsD.at {B : Nat} {w : World} {vs : List Value} {R : List (List Int)} (h : RowsD B w vs R) {i : Nat} {u : Value} (hu : vs[i]? = some u) {l : List Int} (hl : R[i]? = some l) : OwnInts B w u l := by
  obtain ⟨h2, h3, h4⟩ := h
  obtain ⟨hi, e⟩ := List.getElem?_eq_some_iff.1 hl
  obtain ⟨x, ex, hx⟩ := h3 i hi
  rw [hu] at ex; injection ex with ex; subst ex
  rw [e] at hx; exact hx
theorem RowsD.base {B B' : Nat} {w : World} {vs : List Value} {R : List (List Int)} (h : RowsD B w vs R) (hB : B' ≤ B) : RowsD B' w vs R := by
  obtain ⟨h2, h3, h4⟩ := h
  refine ⟨h2, fun k hk => ?_, h4⟩
  obtain ⟨x, ex, hx⟩ := h3 k hk
  exact ⟨x, ex, own_base hx hB⟩
/-- A store into a row of numbers. -/
theorem OwnInts.stored {B : Nat} {w : World} {g n c : Nat} {l : List Int} (h : OwnInts B w (.slice (some ⟨g, 0, none⟩) n c) l) (j : Nat) (x : Int) :
    OwnInts B (w.setCell ⟨g, j, none⟩ (.int .i64 x)) (.slice (some ⟨g, 0, none⟩) n c) (l.set j x) ∧ w.grownBy (w.setCell ⟨g, j, none⟩ (.int .i64 x)) (some g) := by
  have hn : n = l.length := by
    rcases h.2 with ⟨e, _⟩ | ⟨_, _, _, e, _⟩
    · cases e
    · injection e
  subst hn
  have := World.ownsRow.stored h j (.int .i64 x)
  refine ⟨?_, this.2⟩
  unfold OwnInts
  rw [List.length_set, List.map_set]
  exact this.1
theorem OwnInts.form {B : Nat} {w : World} {v : Value} {l : List Int} (h : OwnInts B w v l) : ∃ A c, v = .slice A l.length c := own_form h
theorem OwnInts.block {B : Nat} {w : World} {A : Option Addr} {n c : Nat} {l : List Int} (h : OwnInts B w (.slice A n c) l) (hl : 0 < l.length) : ∃ g, A = some ⟨g, 0, none⟩ := own_at h hl
theorem OwnInts.cell {B : Nat} {w : World} {g n c : Nat} {l : List Int} (h : OwnInts B w (.slice (some ⟨g, 0, none⟩) n c) l) {j : Nat} (hj : j < l.length) : w.cell? ⟨g, j, none⟩ = some (.int .i64 l[j]) ∧ w.frozen? ⟨g, j, none⟩ = false := by
  have hn : n = l.length := by
    rcases h.2 with ⟨e, _⟩ | ⟨_, _, _, e, _⟩
    · cases e
    · injection e
  subst hn
  exact ⟨by rw [World.ownsRow.cellAt h j (by omega), List.getElem?_map, List.getElem?_eq_getElem hj]; rfl, World.ownsRow.frozenAt h j⟩
end Go.Proofs.Ytdidacjmcafcpaa.Mem
