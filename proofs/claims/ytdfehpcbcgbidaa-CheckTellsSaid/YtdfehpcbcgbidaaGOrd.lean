/- Plain mathematics: the spans of a dominator tree, taken along the reverse postorder. -/
import Derived.Test.YtdfehpcbcgbidaaGM
namespace Go.Proofs.Ytdfehpcbcgbidaa.Gl
open Go.ChangeShapes Go.WideShapes Go.ChangeAt Go.RowKit Go.Proofs.Ytdfehpcbcgbidaa.Mem Go.Proofs.Ytdfehpcbcgbidaa.Gr Go.Proofs.Ytdfehpcbcgbidaa.Gn Go.Proofs.Ytdfehpcbcgbidaa.Gc
set_option linter.unusedVariables false
section
variable {g : List (List Int)}
/-- Where what dominates it immediately stands in the order. -/
def aboveO (g : List (List Int)) (x : Nat) : Nat := (orderN (tidyN g)).idxOf ((idomN (tidyN g)).getD ((orderN (tidyN g)).getD x 0) 0).toNat
theorem ord_getD {x : Nat} (hx : x < (orderN (tidyN g)).length) : (orderN (tidyN g)).getD x 0 = (walkN (tidyN g)).left.reverse[x]'hx := by
  rw [List.getD_eq_getElem?_getD, List.getElem?_eq_getElem hx]; rfl
theorem ord_came (h0 : 0 < g.length) {x : Nat} (hx : x < (orderN (tidyN g)).length) : ∃ c, c < (walkN (tidyN g)).came.length ∧ (walkN (tidyN g)).came.getD c 0 = (orderN (tidyN g)).getD x 0 := by
  obtain ⟨c, hc, e⟩ := rev_came (tree2 h0).dfs (i := x) hx
  exact ⟨c, hc, by rw [e, ord_getD hx]⟩
theorem ord_inj (h0 : 0 < g.length) {x y : Nat} (hx : x < (orderN (tidyN g)).length) (hy : y < (orderN (tidyN g)).length) (e : (orderN (tidyN g)).getD x 0 = (orderN (tidyN g)).getD y 0) : x = y := by
  have hd := (tree2 h0).dfs
  rw [ord_getD hx, ord_getD hy] at e
  rcases Nat.lt_trichotomy x y with h | h | h
  · exact absurd e (rev_ne hd h hy)
  · exact h
  · exact absurd e.symm (rev_ne hd h hx)
theorem ord_zero (h0 : 0 < g.length) : ∃ h : 0 < (orderN (tidyN g)).length, (orderN (tidyN g)).getD 0 0 = 0 := by
  obtain ⟨h, e⟩ := rev_zero (tree2 h0).dfs
  exact ⟨h, by rw [ord_getD h]; exact e⟩
/-- What stands above a block stands ahead of it. -/
theorem ord_up (h0 : 0 < g.length) {x : Nat} (h1 : 0 < x) (hx : x < (orderN (tidyN g)).length) : ∃ c, 0 < c ∧ c < (walkN (tidyN g)).came.length ∧ (walkN (tidyN g)).came.getD c 0 = (orderN (tidyN g)).getD x 0 ∧
    (idomN (tidyN g)).getD ((orderN (tidyN g)).getD x 0) 0 = ((walkN (tidyN g)).came.getD ((aboveN (tidyN g)).getD c 0) 0 : Nat) ∧ (orderN (tidyN g)).getD (aboveO g x) 0 = (walkN (tidyN g)).came.getD ((aboveN (tidyN g)).getD c 0) 0 ∧ aboveO g x < x := by
  have t := tree2 h0
  obtain ⟨c, hc, ec⟩ := ord_came h0 hx
  obtain ⟨hz, ez⟩ := ord_zero h0
  have hc0 : 0 < c := by
    rcases Nat.eq_zero_or_pos c with e | e
    · subst e
      rw [t.dfs.zero] at ec
      have := ord_inj h0 hx hz (by rw [ez, ← ec])
      omega
    · exact e
  have ha := above_lt h0 hc0 hc
  have hid : (idomN (tidyN g)).getD ((orderN (tidyN g)).getD x 0) 0 = ((walkN (tidyN g)).came.getD ((aboveN (tidyN g)).getD c 0) 0 : Nat) := by
    rw [← ec, idom_zero _ (by rw [idom_len]; exact came_lt h0 hc)]
    exact idom_at h0 hc0 hc
  obtain ⟨i, hi, ei⟩ := rev_at t.dfs (c := (aboveN (tidyN g)).getD c 0) (by omega)
  have hmem : (walkN (tidyN g)).came.getD ((aboveN (tidyN g)).getD c 0) 0 ∈ orderN (tidyN g) := by rw [← ei]; exact List.getElem_mem hi
  have hlt : aboveO g x < (orderN (tidyN g)).length := by
    unfold aboveO
    rw [hid]
    exact List.idxOf_lt_length_of_mem hmem
  have hget : (orderN (tidyN g)).getD (aboveO g x) 0 = (walkN (tidyN g)).came.getD ((aboveN (tidyN g)).getD c 0) 0 := by
    rw [List.getD_eq_getElem?_getD, List.getElem?_eq_getElem hlt]
    show (orderN (tidyN g))[aboveO g x] = _
    unfold aboveO
    simp only [hid, Int.toNat_natCast]
    exact List.getElem_idxOf (by simpa using List.idxOf_lt_length_of_mem hmem)
  refine ⟨c, hc0, hc, ec, hid, hget, ?_⟩
  rcases Nat.lt_trichotomy (aboveO g x) x with h | h | h
  · exact h
  · exfalso
    rw [h, ← ec] at hget
    have := t.dfs.know.inj hc (by omega) hget
    omega
  · exfalso
    have hd : domB g ((orderN (tidyN g)).getD (aboveO g x) 0 : Nat) ((orderN (tidyN g)).getD x 0 : Nat) = false := by
      rw [ord_getD hlt, ord_getD hx]; exact rev_dom t.dfs h0 h hlt
    rw [hget, ← ec] at hd
    have := (da_dom t (x := (aboveN (tidyN g)).getD c 0) (w := c) (by omega) hc).1 (.step hc0 (.refl _))
    rw [this] at hd
    cases hd
theorem row3_order (h0 : 0 < g.length) : Row3 (orderN (tidyN g)) (idomN (tidyN g)) (aboveO g) := by
  refine ⟨fun x hx => ?_, fun x y hx hy e => ord_inj h0 hx hy e, fun _ => (ord_zero h0).2, fun x h1 hx => ?_⟩
  · obtain ⟨c, hc, e⟩ := ord_came h0 hx
    rw [idom_len, ← e]; exact came_lt h0 hc
  · obtain ⟨c, _, _, _, h4, h5, h6⟩ := ord_up h0 h1 hx
    exact ⟨by rw [h4, h5], h6⟩
theorem order_le (g : List (List Int)) : (orderN (tidyN g)).length ≤ g.length := by
  by_cases h0 : 0 < g.length
  · have hd := (tree2 h0).dfs
    show (walkN (tidyN g)).left.reverse.length ≤ _
    rw [List.length_reverse, left_count hd h0]
    exact Nat.le_trans (List.length_filter_le _ _) (by simp)
  · have e : g = [] := List.length_eq_zero_iff.1 (by omega)
    subst e
    decide +kernel
theorem order_spanned (hs : g.length ≤ 1000) : Spanned (orderN (tidyN g)) (idomN (tidyN g)) := by
  have hc := order_le g
  by_cases h0 : 0 < g.length
  · exact spanned_all (row3_order h0) (by omega)
  · have e : g = [] := List.length_eq_zero_iff.1 (by omega)
    subst e
    exact spanned_of (by decide +kernel)
theorem up_dom (h0 : 0 < g.length) {j : Nat} (hj : j < (orderN (tidyN g)).length) : ∀ {i : Nat}, i < (orderN (tidyN g)).length → (Up (aboveO g) j i ↔ domB g ((orderN (tidyN g)).getD j 0 : Nat) ((orderN (tidyN g)).getD i 0 : Nat) = true) := by
  have t := tree2 h0
  have r := row3_order h0
  obtain ⟨cj, hcj, ecj⟩ := ord_came h0 hj
  intro i
  induction i using Nat.strongRecOn with
  | ind i ih =>
    intro hi
    by_cases hi0 : i = 0
    · subst hi0
      constructor
      · intro h
        have := (Up.in_ r.lows hi h).2.2.2
        have : j = 0 := by omega
        subst this
        rw [(ord_zero h0).2]
        have := (da_dom t t.dfs.some t.dfs.some).1 (.refl _)
        rw [t.dfs.zero] at this
        exact this
      · intro h
        rw [(ord_zero h0).2, ← ecj] at h
        have hz := t.dfs.zero
        have := (da_dom t hcj t.dfs.some).2 (by rw [hz]; exact h)
        have := this.zero
        subst this
        rw [hz] at ecj
        have := ord_inj h0 hj hi (by rw [(ord_zero h0).2, ← ecj])
        subst this
        exact .refl _
    · obtain ⟨c, hc0, hc, ec, _, h5, h6⟩ := ord_up h0 (x := i) (by omega) hi
      have ih' := ih _ h6 (by omega)
      have hac := above_lt h0 hc0 hc
      rw [h5] at ih'
      constructor
      · intro h
        cases h with
        | refl =>
          rw [← ec]
          exact (da_dom t hc hc).1 (.refl _)
        | step h7 h8 =>
          have := ih'.1 h8
          rw [← ecj] at this
          have := (da_dom t hcj (by omega)).2 this
          rw [← ecj, ← ec]
          exact (da_dom t hcj hc).1 (.step hc0 this)
      · intro h
        rw [← ecj, ← ec] at h
        have hda := (da_dom t hcj hc).2 h
        cases hda with
        | refl =>
          have : j = i := ord_inj h0 hj hi (by rw [← ecj, ← ec])
          subst this
          exact .refl _
        | step h7 h8 =>
          refine .step (by omega) (ih'.2 ?_)
          rw [← ecj]
          exact (da_dom t hcj (by omega)).1 h8
/-- Spans along the order tell who dominates whom. -/
theorem span_dom (h0 : 0 < g.length) {a b : Nat} (ha : a ∈ orderN (tidyN g)) (hb : b ∈ orderN (tidyN g)) : backS (spansN (orderN (tidyN g)) (idomN (tidyN g))) a b = domB g (b : Nat) (a : Nat) := by
  obtain ⟨i, hi, ei⟩ := List.mem_iff_getElem.1 ha
  obtain ⟨j, hj, ej⟩ := List.mem_iff_getElem.1 hb
  have e1 : (orderN (tidyN g)).getD i 0 = a := by rw [List.getD_eq_getElem?_getD, List.getElem?_eq_getElem hi]; exact ei
  have e2 : (orderN (tidyN g)).getD j 0 = b := by rw [List.getD_eq_getElem?_getD, List.getElem?_eq_getElem hj]; exact ej
  rw [Bool.eq_iff_iff, ← e1, ← e2, back_up (row3_order h0) hi hj]
  exact up_dom h0 hj hi
theorem mem_order (h0 : 0 < g.length) {b : Nat} : b ∈ orderN (tidyN g) ↔ Way g (-1) b := by
  have hd := (tree2 h0).dfs
  rw [way_came hd h0]
  show b ∈ (walkN (tidyN g)).left.reverse ↔ _
  rw [List.mem_reverse]
  exact hd.left.1 b
/-- Below 0 stands the immediate dominator of just those that are not reached, and of block 0. -/
theorem idom_neg (h0 : 0 < g.length) {b : Nat} (hb : b < g.length) : (idomN (tidyN g)).getD b 0 < 0 ↔ b = 0 ∨ ¬ Way g (-1) b := by
  have t := tree2 h0
  rw [idom_zero _ (by rw [idom_len]; exact hb)]
  constructor
  · intro h
    by_cases hw : Way g (-1) b
    · left
      obtain ⟨c, hc, e⟩ := (way_came t.dfs h0).1 hw
      rcases Nat.eq_zero_or_pos c with hc0 | hc0
      · subst hc0; rw [t.dfs.zero] at e; exact e.symm
      · rw [← e, idom_at h0 hc0 hc] at h; omega
    · exact Or.inr hw
  · intro h
    rw [idom_none h0 hb]
    · decide
    · intro w h1 hw e
      rcases h with rfl | h
      · have := t.dfs.know.inj hw t.dfs.some (by rw [e, t.dfs.zero])
        omega
      · exact h ((way_came t.dfs h0).2 ⟨w, hw, e⟩)
end
end Go.Proofs.Ytdfehpcbcgbidaa.Gl
