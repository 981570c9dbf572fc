/- Plain mathematics: a walk's numbers and ways; what an order has. -/
import Derived.Test.YthanbedmiaacdaaWays
namespace Go.Proofs.Ythanbedmiaacdaa.Gl
open Go.ChangeShapes Go.WideShapes Go.ChangeAt Go.RowKit Go.Proofs.Ythanbedmiaacdaa.Mem Go.Proofs.Ythanbedmiaacdaa.Gr Go.Proofs.Ythanbedmiaacdaa.Gn Go.Proofs.Ythanbedmiaacdaa.Gc
set_option linter.unusedVariables false

theorem edge_T {g : List (List Int)} {a b : Nat} : edgeB g a b = true ↔ b ∈ (tidyN g).getD a [] := by
  rw [← edge_lii_tidy, edgeB_lii, Bool.and_eq_true, decide_eq_true_eq, List.contains_iff_mem]
  refine ⟨fun h => h.2, fun h => ⟨⟨by have := Neat.src h; rw [tidyN_len] at this ⊢; exact this, ((tidyN_neat g).row a).2 b h⟩, h⟩⟩
section
variable {g : List (List Int)} {s : St}
theorem Know.num {T : G} (h : Know T s) {i : Nat} (hi : i < s.came.length) : s.number.getD (s.came.getD i 0) (-1) = (i : Int) := (h.came i hi).2
theorem way_came (h : Dfs (tidyN g) s) (h0 : 0 < g.length) {b : Nat} : Way g (-1) b ↔ ∃ i, i < s.came.length ∧ s.came.getD i 0 = b := by
  constructor
  · intro hw
    induction hw with
    | root _ _ => exact ⟨0, h.some, h.zero⟩
    | step _ he _ ih =>
      obtain ⟨i, hi, rfl⟩ := ih
      obtain ⟨j, hj, _, e, _⟩ := h.goes i hi _ (edge_T.1 he)
      exact ⟨j, hj, e⟩
  · rintro ⟨i, hi, rfl⟩
    induction i using Nat.strongRecOn with
    | ind i ih =>
      by_cases hi0 : i = 0
      · subst hi0; rw [h.zero]; exact .root h0 (by decide)
      · obtain ⟨q, _, hq, he, _⟩ := h.up i (by omega) hi
        exact .step (ih q hq (by omega)) (edge_T.2 he) (by omega)
/-- A way down the tree leaves out what does not stand above. -/
theorem way_avoid (h : Dfs (tidyN g) s) (h0 : 0 < g.length) {c : Nat} (hc : c < s.came.length) {i : Nat} : i < s.came.length → ¬ Anc s.parent c i → Way g (s.came.getD c 0 : Nat) (s.came.getD i 0) := by
  induction i using Nat.strongRecOn with
  | ind i ih =>
    intro hi hn
    have hne : ∀ {j : Nat}, j < s.came.length → c ≠ j → ((s.came.getD j 0 : Nat) : Int) ≠ ((s.came.getD c 0 : Nat) : Int) := fun hj hcj e => hcj (h.know.inj hc hj (by omega))
    by_cases hi0 : i = 0
    · subst hi0
      have hc0 : c ≠ 0 := fun e => hn (by rw [e]; exact .refl _)
      have := hne hi hc0
      rw [h.zero] at this ⊢
      exact .root h0 (fun e => this (by rw [e]; rfl))
    · obtain ⟨q, hq1, hq, he, _⟩ := h.up i (by omega) hi
      have hnq : ¬ Anc s.parent c q := fun a => hn (.step hq1 a)
      exact .step (ih q hq (by omega) hnq) (edge_T.2 he) (hne hi (fun e => hn (by rw [e]; exact .refl _)))
theorem dom_anc (h : Dfs (tidyN g) s) (h0 : 0 < g.length) {c i : Nat} (hc : c < s.came.length) (hi : i < s.came.length) (hd : domB g (s.came.getD c 0 : Nat) (s.came.getD i 0 : Nat) = true) : Anc s.parent c i := by
  obtain ⟨_, _, h3⟩ := domB_iff.1 hd
  rcases h3 with h3 | h3
  · rw [h.know.inj hc hi h3]; exact .refl _
  · exact Classical.byContradiction fun hn => h3 (way_avoid h h0 hc hi hn)
theorem before_irrefl {x y : Nat} (hb : Before s x y) : x ≠ y := by
  obtain ⟨i, j, h1, h2, hne, _⟩ := hb
  intro e
  subst e
  rw [h1] at h2
  exact hne (by omega)
theorem left_nodup (h : Dfs (tidyN g) s) : s.left.Nodup := h.left.2.imp fun hb => before_irrefl hb
/-- How many are reached. -/
theorem left_count (h : Dfs (tidyN g) s) (h0 : 0 < g.length) : s.left.length = ((List.range g.length).filter fun i => (withoutL g (-1)).getD i false).length := by
  refine List.Perm.length_eq ((List.perm_ext_iff_of_nodup (left_nodup h) (List.Pairwise.filter _ List.nodup_range)).2 fun b => ?_)
  rw [h.left.1 b, ← way_came h h0, List.mem_filter, List.mem_range, ← without_iff]
  exact ⟨fun hb => ⟨(without_iff.1 hb).lt, hb⟩, fun hb => hb.2⟩
theorem pairwise_get {α : Type} {R : α → α → Prop} {l : List α} (h : l.Pairwise R) {i j : Nat} (hij : i < j) (hj : j < l.length) : R (l[i]'(by omega)) l[j] := List.pairwise_iff_getElem.1 h i j (by omega) hj hij
theorem anc_zero (h : Dfs (tidyN g) s) : ∀ {i : Nat}, i < s.came.length → Anc s.parent 0 i := by
  intro i
  induction i using Nat.strongRecOn with
  | ind i ih =>
    intro hi
    by_cases hi0 : i = 0
    · subst hi0; exact .refl _
    · obtain ⟨q, hq1, hq, _⟩ := h.up i (by omega) hi
      exact .step hq1 (ih q hq (by omega))
theorem rev_before (h : Dfs (tidyN g) s) {k i : Nat} (hk : k < i) (hi : i < s.left.reverse.length) : Before s s.left.reverse[i] (s.left.reverse[k]'(by omega)) := by
  have hl : s.left.reverse.length = s.left.length := List.length_reverse
  rw [List.getElem_reverse, List.getElem_reverse]
  exact pairwise_get h.left.2 (by omega) (by omega)
theorem rev_came (h : Dfs (tidyN g) s) {i : Nat} (hi : i < s.left.reverse.length) : ∃ c, c < s.came.length ∧ s.came.getD c 0 = s.left.reverse[i] :=
  (h.left.1 _).1 (List.mem_reverse.1 (List.getElem_mem hi))
theorem rev_at (h : Dfs (tidyN g) s) {c : Nat} (hc : c < s.came.length) : ∃ i, ∃ hi : i < s.left.reverse.length, s.left.reverse[i] = s.came.getD c 0 := by
  obtain ⟨i, hi, e⟩ := List.mem_iff_getElem.1 (List.mem_reverse.2 ((h.left.1 _).2 ⟨c, hc, rfl⟩))
  exact ⟨i, hi, e⟩
/-- What is left later does not stand below. -/
theorem rev_anc (h : Dfs (tidyN g) s) {k i : Nat} (hk : k < i) (hi : i < s.left.reverse.length) {c d : Nat} (hc : c < s.came.length) (hd : d < s.came.length) (ec : s.came.getD c 0 = s.left.reverse[i]) (ed : s.came.getD d 0 = s.left.reverse[k]'(by omega)) : c ≠ d ∧ ¬ Anc s.parent c d := by
  obtain ⟨x, y, h1, h2, hne, _, h4⟩ := rev_before h hk hi
  have e1 := Know.num h.know hc
  have e2 := Know.num h.know hd
  rw [ec, h1] at e1
  rw [ed, h2] at e2
  have : x = c := by omega
  subst this
  have : y = d := by omega
  subst this
  refine ⟨hne, fun ha => h4 ?_ ha⟩
  have := ha.le h.know.ups
  omega
theorem rev_ne (h : Dfs (tidyN g) s) {k i : Nat} (hk : k < i) (hi : i < s.left.reverse.length) : s.left.reverse[k]'(by omega) ≠ s.left.reverse[i] := fun e => before_irrefl (rev_before h hk hi) e.symm
theorem rev_dom (h : Dfs (tidyN g) s) (h0 : 0 < g.length) {k i : Nat} (hk : k < i) (hi : i < s.left.reverse.length) : domB g (s.left.reverse[i] : Nat) (s.left.reverse[k]'(by omega) : Nat) = false := by
  obtain ⟨c, hc, ec⟩ := rev_came h hi
  obtain ⟨d, hd, ed⟩ := rev_came (i := k) h (by omega)
  obtain ⟨_, hn⟩ := rev_anc h hk hi hc hd ec ed
  rw [← Bool.not_eq_true]
  intro hdom
  rw [← ec, ← ed] at hdom
  exact hn (dom_anc h h0 hc hd hdom)
theorem rev_zero (h : Dfs (tidyN g) s) : ∃ hi : 0 < s.left.reverse.length, s.left.reverse[0] = 0 := by
  obtain ⟨i, hi, e⟩ := rev_at h h.some
  rw [h.zero] at e
  by_cases hi0 : i = 0
  · subst hi0; exact ⟨hi, e⟩
  · exfalso
    obtain ⟨d, hd, ed⟩ := rev_came (i := 0) h (by omega)
    exact (rev_anc h (k := 0) (by omega) hi h.some hd (by rw [h.zero, e]) ed).2 (anc_zero h hd)
theorem rev_edge (h : Dfs (tidyN g) s) {i : Nat} (h1 : 0 < i) (hi : i < s.left.reverse.length) : ∃ k, ∃ hk : k < i, edgeB g (s.left.reverse[k]'(by omega) : Nat) (s.left.reverse[i] : Nat) = true := by
  obtain ⟨c, hc, ec⟩ := rev_came h hi
  obtain ⟨hz, ez⟩ := rev_zero h
  have hc0 : c ≠ 0 := by
    intro e
    subst e
    rw [h.zero] at ec
    exact rev_ne h h1 hi (by rw [ez, ec])
  obtain ⟨q, hq1, hq, he, _⟩ := h.up c (by omega) hc
  obtain ⟨k, hk, ek⟩ := rev_at (c := q) h (by omega)
  refine ⟨k, ?_, by rw [ek, ← ec]; exact edge_T.2 he⟩
  rcases Nat.lt_trichotomy k i with h3 | h3 | h3
  · exact h3
  · exfalso
    subst h3
    have := h.know.inj hc (by omega) (ec.trans ek)
    omega
  · exact absurd (.step hq1 (.refl _)) (rev_anc h h3 hk (by omega) hc ek.symm ec).2
end
end Go.Proofs.Ythanbedmiaacdaa.Gl
