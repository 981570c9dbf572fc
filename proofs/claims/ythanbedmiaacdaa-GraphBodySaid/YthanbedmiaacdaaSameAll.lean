/- Plain mathematics: what package graph tells is what the document says: spans, headers, reducibility, immediate dominators, bodies; trees; a block put on an edge. -/
import Derived.Test.YthanbedmiaacdaaDomAll
import Derived.Test.YthanbedmiaacdaaFlow
import Derived.Test.YthanbedmiaacdaaBack
import Derived.Test.YthanbedmiaacdaaReducC
import Derived.Test.YthanbedmiaacdaaRefLoops
import Derived.Test.YthanbedmiaacdaaPreds
import Derived.Test.YthanbedmiaacdaaMarkC
/- Plain mathematics: what package graph tells is what the document says: spans, headers, reducibility, immediate dominators, bodies; trees. -/
/- Plain mathematics: the spans of numbers nest as dominators do; no count is beyond the number of blocks. -/
namespace Go.Proofs.Ythanbedmiaacdaa.Gl
open Go.ChangeShapes Go.WideShapes Go.ChangeAt Go.RowKit Go.Proofs.Ythanbedmiaacdaa.Mem Go.Proofs.Ythanbedmiaacdaa.Gr Go.Proofs.Ythanbedmiaacdaa.Gn Go.Proofs.Ythanbedmiaacdaa.Gc
set_option linter.unusedVariables false

/-- The counts after k numbers, the greatest first. -/
def cntK (N : Nat) (D : Nat → Nat) : Nat → Nat → Nat
  | 0, _ => 0
  | k + 1, x => if x = N - 1 - k then cntK N D k x + 1 else if N - 1 - k ≠ 0 ∧ x = D (N - 1 - k) then cntK N D k x + (cntK N D k (N - 1 - k) + 1) else cntK N D k x
def cntA (N : Nat) (D : Nat → Nat) (x : Nat) : Nat := cntK N D N x
/-- What comes next after k numbers, the least first. -/
def nxtK (N : Nat) (D : Nat → Nat) : Nat → Nat → Nat
  | 0, _ => 0
  | k + 1, x => if x = k then (if k = 0 then 0 else nxtK N D k (D k)) + 1 else if k ≠ 0 ∧ x = D k then nxtK N D k x + cntA N D k else nxtK N D k x
def frK (N : Nat) (D : Nat → Nat) (k : Nat) : Nat := if k = 0 then 0 else nxtK N D k (D k)
def sumTo (f : Nat → Nat) : Nat → Nat
  | 0 => 0
  | n + 1 => sumTo f n + f n
theorem sumTo_congr {f h : Nat → Nat} : ∀ {n : Nat}, (∀ x, x < n → f x = h x) → sumTo f n = sumTo h n
  | 0, _ => rfl
  | n + 1, e => by unfold sumTo; rw [sumTo_congr (fun x hx => e x (by omega)), e n (by omega)]
theorem sumTo_bump {f h : Nat → Nat} {p v : Nat} (hp : h p = f p + v) (hr : ∀ x, x ≠ p → h x = f x) : ∀ {n : Nat}, p < n → sumTo h n = sumTo f n + v
  | 0, e => absurd e (Nat.not_lt_zero _)
  | n + 1, e => by
    unfold sumTo
    by_cases hn : n = p
    · subst hn
      rw [hp, sumTo_congr (fun x hx => hr x (by omega))]; omega
    · rw [hr n hn, sumTo_bump hp hr (n := n) (by omega)]; omega
theorem sumTo_le (f : Nat → Nat) : ∀ {n x : Nat}, x < n → f x ≤ sumTo f n
  | 0, _, e => absurd e (Nat.not_lt_zero _)
  | n + 1, x, e => by
    unfold sumTo
    by_cases hn : x = n
    · subst hn; omega
    · have := sumTo_le f (n := n) (x := x) (by omega); omega
section
variable {N : Nat} {D : Nat → Nat}
theorem cnt_sum (hD : ∀ x, 0 < x → x < N → D x < x) : ∀ k, k ≤ N → sumTo (cntK N D k) (N - k) = if k = N ∧ 0 < N then 0 else k := by
  intro k
  induction k with
  | zero =>
    intro _
    have : ∀ n, sumTo (cntK N D 0) n = 0 := by
      intro n
      induction n with
      | zero => rfl
      | succ n ih => unfold sumTo; rw [ih]; rfl
    rw [this]; split <;> rfl
  | succ k ih =>
    intro hk
    have h := ih (by omega)
    rw [if_neg (by omega)] at h
    by_cases h0 : N - 1 - k = 0
    · rw [show N - (k + 1) = 0 by omega]
      rw [if_pos (by omega)]; rfl
    · rw [if_neg (by omega)]
      rw [show N - k = (N - 1 - k) + 1 by omega] at h
      unfold sumTo at h
      rw [show N - (k + 1) = N - 1 - k by omega]
      have hd := hD (N - 1 - k) (by omega) (by omega)
      have h1 : sumTo (cntK N D (k + 1)) (N - 1 - k) = sumTo (fun x => if x = D (N - 1 - k) then cntK N D k x + (cntK N D k (N - 1 - k) + 1) else cntK N D k x) (N - 1 - k) := by
        refine sumTo_congr fun x hx => ?_
        show (if x = N - 1 - k then _ else _) = _
        rw [if_neg (by omega)]
        by_cases e : x = D (N - 1 - k)
        · rw [if_pos ⟨h0, e⟩, if_pos e]
        · rw [if_neg (fun hh => e hh.2), if_neg e]
      rw [h1, sumTo_bump (f := cntK N D k) (p := D (N - 1 - k)) (v := cntK N D k (N - 1 - k) + 1) (by rw [if_pos rfl]) (fun x hx => by rw [if_neg hx]) hd]
      omega
/-- A number's count no longer changes once it is counted. -/
theorem cnt_done (hD : ∀ x, 0 < x → x < N → D x < x) {x : Nat} (hx : x < N) : ∀ k, N - x ≤ k → k ≤ N → cntK N D k x = cntK N D (N - 1 - x) x + 1 := by
  intro k
  induction k with
  | zero => intro h _; omega
  | succ k ih =>
    intro h hk
    show (if x = N - 1 - k then _ else _) = _
    by_cases e : x = N - 1 - k
    · rw [if_pos e, show N - 1 - x = k by omega]
    · rw [if_neg e]
      by_cases e2 : N - 1 - k ≠ 0 ∧ x = D (N - 1 - k)
      · have := hD (N - 1 - k) (by omega) (by omega)
        omega
      · rw [if_neg e2]; exact ih (by omega) (by omega)
theorem cnt_is (hD : ∀ x, 0 < x → x < N → D x < x) {x : Nat} (hx : x < N) : cntA N D x = cntK N D (N - 1 - x) x + 1 := cnt_done hD hx N (by omega) (Nat.le_refl _)
theorem cnt_pre (hD : ∀ x, 0 < x → x < N → D x < x) {x : Nat} (hx : x < N) : cntK N D (N - x) x = cntA N D x := by rw [cnt_is hD hx, cnt_done hD hx _ (Nat.le_refl _) (by omega)]
theorem cnt_le (hD : ∀ x, 0 < x → x < N → D x < x) : ∀ k, k ≤ N → ∀ x, x < N → cntK N D k x ≤ N := by
  have low : ∀ k, k < N → ∀ x, x < N - k → cntK N D k x ≤ k := by
    intro k hk x hx
    have h := cnt_sum hD k (by omega)
    rw [if_neg (by omega)] at h
    have := sumTo_le (cntK N D k) hx
    omega
  intro k hk x hx
  by_cases h : x < N - k
  · have := low k (by omega) x h; omega
  · rw [cnt_done hD hx k (by omega) hk]
    have := low (N - 1 - x) (by omega) x (by omega)
    omega
/-- A child's part of its parent's count. -/
theorem cnt_child (hD : ∀ x, 0 < x → x < N → D x < x) {k x : Nat} (hk : k < N) (hx : x < k) : cntK N D (N - k) x = if k ≠ 0 ∧ x = D k then cntK N D (N - (k + 1)) x + cntA N D k else cntK N D (N - (k + 1)) x := by
  rw [show N - k = (N - (k + 1)) + 1 by omega]
  show (if x = N - 1 - (N - (k + 1)) then _ else _) = _
  rw [show N - 1 - (N - (k + 1)) = k by omega, if_neg (by omega), cnt_is hD hk, show N - 1 - k = N - (k + 1) by omega]
theorem nxt_succ (k x : Nat) : nxtK N D (k + 1) x = if x = k then frK N D k + 1 else if k ≠ 0 ∧ x = D k then nxtK N D k x + cntA N D k else nxtK N D k x := rfl
/-- What is laid out and what is still to be laid out make up the whole. -/
theorem nxt_law (hD : ∀ x, 0 < x → x < N → D x < x) : ∀ k, k ≤ N → (∀ x, x < k → nxtK N D k x + cntK N D (N - k) x = frK N D x + cntA N D x ∧ frK N D x + 1 ≤ nxtK N D k x) ∧ (∀ z, 0 < z → z < k → frK N D z + cntA N D z ≤ nxtK N D k (D z)) := by
  intro k
  induction k with
  | zero => intro _; exact ⟨fun x hx => by omega, fun z _ hz => by omega⟩
  | succ k ih =>
    intro hk
    obtain ⟨h1, h2⟩ := ih (by omega)
    refine ⟨fun x hx => ?_, fun z hz0 hz => ?_⟩
    · rw [nxt_succ]
      by_cases e : x = k
      · subst e
        rw [if_pos rfl]
        have := cnt_is hD (x := x) (by omega)
        rw [show N - 1 - x = N - (x + 1) by omega] at this
        exact ⟨by omega, Nat.le_refl _⟩
      · rw [if_neg e]
        have h3 := h1 x (by omega)
        have h4 := cnt_child hD (k := k) (x := x) (by omega) (by omega)
        by_cases e2 : k ≠ 0 ∧ x = D k
        · rw [if_pos e2] at h4 ⊢; exact ⟨by omega, by omega⟩
        · rw [if_neg e2] at h4 ⊢; exact ⟨by omega, by omega⟩
    · rw [nxt_succ]
      have hd := hD z hz0 (by omega)
      rw [if_neg (by omega)]
      by_cases e : z = k
      · subst e
        rw [if_pos ⟨by omega, rfl⟩]
        show (if z = 0 then _ else _) + _ ≤ _
        rw [if_neg (by omega)]; exact Nat.le_refl _
      · have h3 := h2 z hz0 (by omega)
        split <;> omega
theorem fr_in (hD : ∀ x, 0 < x → x < N → D x < x) {k : Nat} (h0 : 0 < k) (hk : k < N) : frK N D (D k) + 1 ≤ frK N D k ∧ frK N D k + cntA N D k ≤ frK N D (D k) + cntA N D (D k) := by
  have hd := hD k h0 hk
  have h1 := (nxt_law hD k (by omega)).1 (D k) hd
  have h2 := cnt_child hD (k := k) (x := D k) hk hd
  rw [if_pos ⟨by omega, rfl⟩] at h2
  have h3 : frK N D k = nxtK N D k (D k) := by show (if k = 0 then _ else _) = _; rw [if_neg (by omega)]
  rw [h3]
  exact ⟨h1.2, by omega⟩
theorem cnt_pos (hD : ∀ x, 0 < x → x < N → D x < x) {x : Nat} (hx : x < N) : 0 < cntA N D x := by rw [cnt_is hD hx]; omega
theorem fr_end (hD : ∀ x, 0 < x → x < N → D x < x) : ∀ x, x < N → frK N D x + cntA N D x ≤ N := by
  intro x
  induction x using Nat.strongRecOn with
  | ind x ih =>
    intro hx
    by_cases h0 : x = 0
    · subst h0
      show 0 + cntK N D N 0 ≤ N
      have := cnt_le hD N (Nat.le_refl _) 0 hx; omega
    · have h1 := fr_in hD (k := x) (by omega) hx
      have hd := hD x (by omega) hx
      have := ih _ hd (by omega)
      omega
theorem nxt_le (hD : ∀ x, 0 < x → x < N → D x < x) {k x : Nat} (hk : k ≤ N) (hx : x < k) : nxtK N D k x ≤ N := by
  have h1 := (nxt_law hD k hk).1 x hx
  have h2 := fr_end hD x (by omega)
  omega
theorem nxt_zero (hD : ∀ x, 0 < x → x < N → D x < x) : ∀ {k x : Nat}, k ≤ N → k ≤ x → nxtK N D k x = 0
  | 0, _, _, _ => rfl
  | k + 1, x, hk, h => by
    rw [nxt_succ, if_neg (by omega)]
    by_cases e2 : k ≠ 0 ∧ x = D k
    · have := hD k (by omega) (by omega); omega
    · rw [if_neg e2, nxt_zero hD (by omega) (by omega)]
/-- x is y, or comes of it by going up. -/
inductive Up (D : Nat → Nat) : Nat → Nat → Prop
  | refl (x : Nat) : Up D x x
  | step {x y : Nat} : 0 < y → Up D x (D y) → Up D x y
theorem Up.in_ (hD : ∀ x, 0 < x → x < N → D x < x) {x : Nat} : ∀ {y : Nat}, y < N → Up D x y → frK N D x ≤ frK N D y ∧ frK N D y + cntA N D y ≤ frK N D x + cntA N D x ∧ (x ≠ y → frK N D x < frK N D y) ∧ x ≤ y := by
  intro y
  induction y using Nat.strongRecOn with
  | ind y ih =>
    intro hy h
    cases h with
    | refl => exact ⟨Nat.le_refl _, Nat.le_refl _, fun e => absurd rfl e, Nat.le_refl _⟩
    | step h0 h =>
      have hd := hD y h0 hy
      have h1 := fr_in hD h0 hy
      have h2 := ih _ hd (by omega) h
      exact ⟨by omega, by omega, fun _ => by omega, by omega⟩
/-- The child of p on the way down to x. -/
theorem Up.child (hD : ∀ x, 0 < x → x < N → D x < x) {p : Nat} : ∀ {x : Nat}, x < N → Up D p x → p ≠ x → ∃ z, 0 < z ∧ z ≤ x ∧ D z = p ∧ Up D z x := by
  intro x
  induction x using Nat.strongRecOn with
  | ind x ih =>
    intro hx h hne
    cases h with
    | refl => exact absurd rfl hne
    | step h0 h =>
      have hd := hD x h0 hx
      by_cases e : p = D x
      · exact ⟨x, h0, Nat.le_refl _, e.symm, .refl _⟩
      · obtain ⟨z, a, b, c, d⟩ := ih _ hd (by omega) h e
        exact ⟨z, a, by omega, c, .step h0 d⟩
theorem Up.trans {x y z : Nat} (h : Up D x y) (k : Up D y z) : Up D x z := by
  induction k with
  | refl => exact h
  | step h0 _ ih => exact .step h0 ih
theorem apart (hD : ∀ x, 0 < x → x < N → D x < x) : ∀ (y x : Nat), y < N → x < y → ¬ Up D x y → frK N D x + cntA N D x ≤ frK N D y ∨ frK N D y + cntA N D y ≤ frK N D x := by
  intro y
  induction y using Nat.strongRecOn with
  | ind y ih =>
    intro x hy hxy hn
    have hd := hD y (by omega) hy
    have hin := fr_in hD (k := y) (by omega) hy
    have hxp : ¬ Up D x (D y) := fun h => hn (.step (by omega) h)
    have hne : x ≠ D y := fun e => hxp (e ▸ .refl _)
    by_cases hp : Up D (D y) x
    · obtain ⟨z, a, b, c, d⟩ := Up.child hD (x := x) (by omega) hp (fun e => hne e.symm)
      have h1 := (nxt_law hD y (by omega)).2 z a (by omega)
      have h2 := Up.in_ hD (x := z) (y := x) (by omega) d
      have h3 : frK N D y = nxtK N D y (D y) := by show (if y = 0 then _ else _) = _; rw [if_neg (by omega)]
      rw [c] at h1
      exact Or.inl (by omega)
    · by_cases hlt : x < D y
      · rcases ih _ hd x (by omega) hlt hxp with h | h
        · exact Or.inl (by omega)
        · exact Or.inr (by omega)
      · rcases ih x hxy (D y) (by omega) (by omega) hp with h | h
        · exact Or.inr (by omega)
        · exact Or.inl (by omega)
theorem span_iff (hD : ∀ x, 0 < x → x < N → D x < x) {i j : Nat} (hi : i < N) (hj : j < N) : (frK N D j ≤ frK N D i ∧ frK N D i < frK N D j + cntA N D j) ↔ Up D j i := by
  have hpi := cnt_pos hD hi
  have hpj := cnt_pos hD hj
  constructor
  · rintro ⟨h1, h2⟩
    by_cases e : i = j
    · subst e; exact .refl _
    by_cases hlt : j < i
    · by_cases hu : Up D j i
      · exact hu
      · rcases apart hD i j hi hlt hu with h | h <;> omega
    · by_cases hu : Up D i j
      · have := (Up.in_ hD hj hu).2.2.1 e; omega
      · rcases apart hD j i hj (by omega) hu with h | h <;> omega
  · intro h
    have h1 := Up.in_ hD hi h
    exact ⟨h1.1, by omega⟩
end

/-- Rows laid out as Idom's are. -/
structure Row3 (came : List Nat) (idom : List Int) (D : Nat → Nat) : Prop where
  lt : ∀ x, x < came.length → came.getD x 0 < idom.length
  inj : ∀ x y, x < came.length → y < came.length → came.getD x 0 = came.getD y 0 → x = y
  zero : 0 < came.length → came.getD 0 0 = 0
  up : ∀ x, 0 < x → x < came.length → idom.getD (came.getD x 0) 0 = (came.getD (D x) 0 : Nat) ∧ D x < x
section
variable {came : List Nat} {idom : List Int} {D : Nat → Nat}
theorem Row3.lows (h : Row3 came idom D) : ∀ x, 0 < x → x < came.length → D x < x := fun x h0 hx => (h.up x h0 hx).2
theorem Row3.block (h : Row3 came idom D) {x : Nat} (hx : x < came.length) : came.getD x 0 = 0 ↔ x = 0 := by
  constructor
  · intro e; exact h.inj x 0 hx (by omega) (by rw [e, h.zero (by omega)])
  · rintro rfl; exact h.zero hx
theorem rep_getD {α : Type} (n i : Nat) (a d : α) : (List.replicate n a).getD i d = if i < n then a else d := by
  rw [List.getD_eq_getElem?_getD, List.getElem?_replicate]
  split <;> rfl
theorem count_link (h : Row3 came idom D) : ∀ k, k ≤ came.length → (∀ x, x < came.length → (countL idom (came.reverse.take k)).getD (came.getD x 0) 0 = cntK came.length D k x) ∧ (∀ b, (∀ x, x < came.length → came.getD x 0 ≠ b) → (countL idom (came.reverse.take k)).getD b 0 = 0) := by
  intro k
  induction k with
  | zero =>
    intro _
    have : ∀ b, (countL idom (came.reverse.take 0)).getD b 0 = 0 := by
      intro b
      show (List.replicate _ 0).getD b 0 = 0
      rw [rep_getD]; split <;> rfl
    exact ⟨fun x _ => this _, fun b _ => this b⟩
  | succ k ih =>
    intro hk
    obtain ⟨h1, h2⟩ := ih (by omega)
    have hr : k < came.reverse.length := by rw [List.length_reverse]; omega
    rw [List.take_succ_eq_append_getElem hr, countL_snoc]
    have hb : came.reverse[k] = came.getD (came.length - 1 - k) 0 := by
      rw [List.getElem_reverse, getD_at (by omega)]
    rw [hb]
    have hl := countL_len idom (came.reverse.take k)
    have hm : came.length - 1 - k < came.length := by omega
    generalize hM : came.length - 1 - k = m at *
    have hmb := h.lt m hm
    have em := h1 m hm
    generalize countL idom (came.reverse.take k) = c at *
    have hc1 : ∀ j, (c.set (came.getD m 0) (c.getD (came.getD m 0) 0 + 1)).getD j 0 = if came.getD m 0 = j then cntK came.length D k m + 1 else c.getD j 0 := by
      intro j
      rw [getD_set, em]
      by_cases e : came.getD m 0 = j
      · rw [if_pos ⟨e, by omega⟩, if_pos e]
      · rw [if_neg (fun hh => e hh.1), if_neg e]
    by_cases hz : m = 0
    · have hst : countStep idom c (came.getD m 0) = c.set (came.getD m 0) (c.getD (came.getD m 0) 0 + 1) := by
        unfold countStep
        rw [if_pos ((h.block hm).2 hz)]
      rw [hst]
      refine ⟨fun x hx => ?_, fun b hb => ?_⟩
      · rw [hc1]
        show _ = if x = came.length - 1 - k then _ else _
        rw [hM]
        by_cases e : x = m
        · subst e; rw [if_pos rfl, if_pos rfl]
        · rw [if_neg (fun hh => e (h.inj x m hx hm hh.symm)), if_neg e, if_neg (fun hh => hh.1 hz)]
          exact h1 x hx
      · rw [hc1, if_neg (hb m hm)]
        exact h2 b hb
    · obtain ⟨hu, hd⟩ := h.up m (by omega) hm
      have hdl := h.lt (D m) (by omega)
      have hst : countStep idom c (came.getD m 0) = (c.set (came.getD m 0) (c.getD (came.getD m 0) 0 + 1)).set (came.getD (D m) 0) (cntK came.length D k (D m) + (cntK came.length D k m + 1)) := by
        unfold countStep
        rw [if_neg (fun e => hz ((h.block hm).1 e))]
        rw [hu, Int.toNat_natCast, hc1, hc1, if_pos rfl, if_neg (fun e => by have := h.inj m (D m) hm (by omega) e; omega), h1 (D m) (by omega)]
      rw [hst]
      refine ⟨fun x hx => ?_, fun b hb => ?_⟩
      · rw [getD_set, hc1]
        show _ = if x = came.length - 1 - k then _ else _
        rw [hM]
        by_cases e : x = m
        · subst e
          rw [if_neg (fun hh => by have := h.inj (D x) x (by omega) hx hh.1; omega), if_pos rfl, if_pos rfl]
        · rw [if_neg (c := x = m) e]
          by_cases e2 : x = D m
          · subst e2
            rw [if_pos ⟨rfl, by rw [List.length_set]; omega⟩, if_pos ⟨hz, rfl⟩]
          · rw [if_neg (fun hh => e2 (h.inj (D m) x (by omega) hx hh.1).symm), if_neg (fun hh => e (h.inj m x hm hx hh).symm), if_neg (fun hh => e2 hh.2)]
            exact h1 x hx
      · rw [getD_set, hc1, if_neg (fun hh => hb (D m) (by omega) hh.1), if_neg (hb m hm)]
        exact h2 b hb
theorem count_all (h : Row3 came idom D) {x : Nat} (hx : x < came.length) : (countN came idom).getD (came.getD x 0) 0 = cntA came.length D x := by
  have h1 := (count_link h came.length (Nat.le_refl _)).1 x hx
  rw [List.take_of_length_le (by rw [List.length_reverse]; exact Nat.le_refl _)] at h1
  exact h1
theorem next_link (h : Row3 came idom D) : ∀ k, k ≤ came.length → (∀ x, x < came.length → (spanTo came idom k).1.getD (came.getD x 0) 0 = nxtK came.length D k x) ∧ (∀ b, (∀ x, x < came.length → came.getD x 0 ≠ b) → (spanTo came idom k).1.getD b 0 = 0) ∧
    (∀ x, x < k → (spanTo came idom k).2.getD (came.getD x 0) (0, 0) = ((frK came.length D x : Int), ((frK came.length D x + cntA came.length D x : Nat) : Int))) ∧ (∀ b, b < idom.length → (∀ x, x < k → came.getD x 0 ≠ b) → (spanTo came idom k).2.getD b (0, 0) = (-1, -1)) := by
  intro k
  induction k with
  | zero =>
    intro _
    have : ∀ b, (spanTo came idom 0).1.getD b 0 = 0 := by
      intro b
      show (List.replicate _ 0).getD b 0 = 0
      rw [rep_getD]; split <;> rfl
    refine ⟨fun x _ => this _, fun b _ => this b, fun x hx => absurd hx (Nat.not_lt_zero _), fun b hb _ => ?_⟩
    show (List.replicate _ ((-1 : Int), (-1 : Int))).getD b (0, 0) = _
    rw [rep_getD, if_pos hb]
  | succ k ih =>
    intro hk
    obtain ⟨h1, h2, h3, h4⟩ := ih (by omega)
    obtain ⟨l1, l2⟩ := spanTo_len came idom k
    rw [spanTo_succ (by omega)]
    have hb : came[k] = came.getD k 0 := (getD_at (by omega) 0).symm
    rw [hb]
    have hkb := h.lt k (by omega)
    have ec := count_all h (x := k) (by omega)
    generalize hS : spanTo came idom k = st at *
    have hfr : (if came.getD k 0 = 0 then 0 else st.1.getD (idom.getD (came.getD k 0) 0).toNat 0) = frK came.length D k := by
      unfold frK
      by_cases hz : k = 0
      · rw [if_pos ((h.block (by omega)).2 hz), if_pos hz]
      · obtain ⟨hu, hd⟩ := h.up k (by omega) (by omega)
        rw [if_neg (fun e => hz ((h.block (by omega)).1 e)), if_neg hz, hu, Int.toNat_natCast, h1 (D k) (by omega)]
    have hnx : ∀ j, (if came.getD k 0 = 0 then st.1 else st.1.set (idom.getD (came.getD k 0) 0).toNat (st.1.getD (idom.getD (came.getD k 0) 0).toNat 0 + (countN came idom).getD (came.getD k 0) 0)).getD j 0 =
        if k ≠ 0 ∧ came.getD (D k) 0 = j then nxtK came.length D k (D k) + cntA came.length D k else st.1.getD j 0 := by
      intro j
      by_cases hz : k = 0
      · rw [if_pos ((h.block (by omega)).2 hz), if_neg (fun hh => hh.1 hz)]
      · obtain ⟨hu, hd⟩ := h.up k (by omega) (by omega)
        have hdl := h.lt (D k) (by omega)
        rw [if_neg (fun e => hz ((h.block (by omega)).1 e)), hu, Int.toNat_natCast, h1 (D k) (by omega), ec, getD_set]
        by_cases e : came.getD (D k) 0 = j
        · rw [if_pos ⟨e, by omega⟩, if_pos ⟨hz, e⟩]
        · rw [if_neg (fun hh => e hh.1), if_neg (fun hh => e hh.2)]
    have hnl : (if came.getD k 0 = 0 then st.1 else st.1.set (idom.getD (came.getD k 0) 0).toNat (st.1.getD (idom.getD (came.getD k 0) 0).toNat 0 + (countN came idom).getD (came.getD k 0) 0)).length = idom.length := by
      split
      · exact l1
      · rw [List.length_set]; exact l1
    have e1 : (spanStep idom (countN came idom) st (came.getD k 0)).1 = (if came.getD k 0 = 0 then st.1 else st.1.set (idom.getD (came.getD k 0) 0).toNat (st.1.getD (idom.getD (came.getD k 0) 0).toNat 0 + (countN came idom).getD (came.getD k 0) 0)).set (came.getD k 0) (frK came.length D k + 1) := by
      rw [← hfr]; rfl
    have e2 : (spanStep idom (countN came idom) st (came.getD k 0)).2 = st.2.set (came.getD k 0) ((frK came.length D k : Int), ((frK came.length D k + cntA came.length D k : Nat) : Int)) := by
      rw [← hfr, ← ec]; rfl
    rw [e1, e2]
    generalize (if came.getD k 0 = 0 then st.1 else st.1.set (idom.getD (came.getD k 0) 0).toNat (st.1.getD (idom.getD (came.getD k 0) 0).toNat 0 + (countN came idom).getD (came.getD k 0) 0)) = nx at hnx hnl
    refine ⟨fun x hx => ?_, fun b hb => ?_, fun x hx => ?_, fun b hbl hb => ?_⟩
    · rw [getD_set, hnx, nxt_succ]
      by_cases e : x = k
      · subst e; rw [if_pos ⟨rfl, by omega⟩, if_pos rfl]
      · rw [if_neg (fun hh => e (h.inj k x (by omega) hx hh.1).symm), if_neg e]
        by_cases e3 : k ≠ 0 ∧ x = D k
        · obtain ⟨ez, e3⟩ := e3
          subst e3
          rw [if_pos ⟨ez, rfl⟩, if_pos ⟨ez, rfl⟩]
        · rw [if_neg (fun hh => e3 ⟨hh.1, by
            have hd := h.lows k (by omega) (by omega)
            exact (h.inj (D k) x (by omega) hx hh.2).symm⟩), if_neg e3]
          exact h1 x hx
    · rw [getD_set, hnx, if_neg (fun hh => hb k (by omega) hh.1), if_neg (fun hh => by
        have hd := h.lows k (by omega) (by omega)
        exact hb (D k) (by omega) hh.2)]
      exact h2 b hb
    · rw [getD_set]
      by_cases e : x = k
      · subst e; rw [if_pos ⟨rfl, by omega⟩]
      · rw [if_neg (fun hh => e (h.inj k x (by omega) (by omega) hh.1).symm)]
        exact h3 x (by omega)
    · rw [getD_set, if_neg (fun hh => hb k (by omega) hh.1)]
      exact h4 b hbl (fun x hx => hb x (by omega))
theorem Row3.some (h : Row3 came idom D) (b : Nat) : (∃ x, x < came.length ∧ came.getD x 0 = b) ∨ ∀ x, x < came.length → came.getD x 0 ≠ b := by
  by_cases e : ∃ x, x < came.length ∧ came.getD x 0 = b
  · exact Or.inl e
  · exact Or.inr fun x hx hh => e ⟨x, hx, hh⟩
theorem spanned_all (h : Row3 came idom D) (hn : came.length ≤ 1000) : Spanned came idom := by
  have hin : ∀ b, b ∈ came → ∃ x, x < came.length ∧ came.getD x 0 = b := by
    intro b hb
    obtain ⟨x, hx, e⟩ := List.mem_iff_getElem.1 hb
    exact ⟨x, hx, by rw [getD_at hx, e]⟩
  refine ⟨fun b hb => ?_, fun b hb h0 => ?_, fun l hl b => ?_, fun j b => ?_⟩
  · obtain ⟨x, hx, rfl⟩ := hin b hb
    exact h.lt x hx
  · obtain ⟨x, hx, rfl⟩ := hin b hb
    have hx0 : x ≠ 0 := fun e => h0 ((h.block hx).2 e)
    obtain ⟨hu, hd⟩ := h.up x (by omega) hx
    exact ⟨_, hu, h.lt (D x) (by omega)⟩
  · obtain ⟨r, hr⟩ := hl
    have hll : l.length ≤ came.length := by
      have := congrArg List.length hr
      rw [List.length_append, List.length_reverse] at this; omega
    have hl2 : l = came.reverse.take l.length := by rw [← hr, List.take_left']; rfl
    rw [hl2]
    obtain ⟨h1, h2⟩ := count_link h l.length hll
    rcases h.some b with ⟨x, hx, rfl⟩ | hb
    · rw [h1 x hx]
      have := cnt_le h.lows l.length hll x hx; omega
    · rw [h2 b hb]; omega
  · have hj : ∃ k, k ≤ came.length ∧ spanTo came idom j = spanTo came idom k := by
      by_cases hj : j ≤ came.length
      · exact ⟨j, hj, rfl⟩
      · refine ⟨came.length, Nat.le_refl _, ?_⟩
        unfold spanTo
        rw [List.take_of_length_le (by omega), List.take_of_length_le (Nat.le_refl _)]
    obtain ⟨k, hk, e⟩ := hj
    rw [e]
    obtain ⟨h1, h2, _, _⟩ := next_link h k hk
    rcases h.some b with ⟨x, hx, rfl⟩ | hb
    · rw [h1 x hx]
      by_cases hxk : x < k
      · have := nxt_le h.lows hk hxk; omega
      · rw [nxt_zero h.lows hk (by omega)]; omega
    · rw [h2 b hb]; omega
theorem back_up (h : Row3 came idom D) {i j : Nat} (hi : i < came.length) (hj : j < came.length) : backS (spansN came idom) (came.getD i 0) (came.getD j 0) = true ↔ Up D j i := by
  obtain ⟨_, _, h3, _⟩ := next_link h came.length (Nat.le_refl _)
  rw [← span_iff h.lows hi hj]
  unfold backS spansN
  rw [h3 i hi, h3 j hj, Bool.and_eq_true, decide_eq_true_eq, decide_eq_true_eq]
  constructor
  · rintro ⟨a, b⟩; exact ⟨by omega, by omega⟩
  · rintro ⟨a, b⟩; exact ⟨by omega, by omega⟩
theorem back_none (h : Row3 came idom D) {a b : Nat} (ha : a < idom.length) (hb : b < idom.length) (hno : (∀ x, x < came.length → came.getD x 0 ≠ a) ∨ ∀ x, x < came.length → came.getD x 0 ≠ b) : backS (spansN came idom) a b = false := by
  obtain ⟨_, _, h3, h4⟩ := next_link h came.length (Nat.le_refl _)
  have key : ∀ c, c < idom.length → ((spansN came idom).getD c (0, 0) = (-1, -1) ∧ ∀ x, x < came.length → came.getD x 0 ≠ c) ∨ (0 ≤ ((spansN came idom).getD c (0, 0)).1 ∧ ∃ x, x < came.length ∧ came.getD x 0 = c) := by
    intro c hc
    rcases h.some c with ⟨x, hx, rfl⟩ | hn
    · refine Or.inr ⟨?_, x, hx, rfl⟩
      unfold spansN
      rw [h3 x hx]; show (0 : Int) ≤ (frK _ _ _ : Nat); omega
    · exact Or.inl ⟨h4 c hc hn, hn⟩
  unfold backS
  rw [Bool.and_eq_false_iff, decide_eq_false_iff_not, decide_eq_false_iff_not]
  rcases key a ha with ⟨ea, _⟩ | ⟨ea, xa, hxa, exa⟩ <;> rcases key b hb with ⟨eb, _⟩ | ⟨eb, xb, hxb, exb⟩
  · rw [ea, eb]; right; show ¬ (-1 : Int) < -1; omega
  · rw [ea]; left; show ¬ (_ ≤ (-1 : Int)); omega
  · rw [eb]; right; show ¬ (_ < (-1 : Int)); omega
  · rcases hno with hn | hn
    · exact absurd exa (hn xa hxa)
    · exact absurd exb (hn xb hxb)
end
/-- The rows of a graph's walk are so laid out. -/
theorem row3 {g : List (List Int)} (h0 : 0 < g.length) : Row3 (walkN (tidyN g)).came (idomN (tidyN g)) (fun x => (aboveN (tidyN g)).getD x 0) := by
  have t := tree2 h0
  refine ⟨fun x hx => by rw [idom_len]; exact came_lt h0 hx, fun x y hx hy e => t.dfs.know.inj hx hy e, fun _ => t.dfs.zero, fun x hx0 hx => ⟨?_, above_lt h0 hx0 hx⟩⟩
  rw [idom_zero _ (by rw [idom_len]; exact came_lt h0 hx)]
  exact idom_at h0 hx0 hx
theorem came_le (g : List (List Int)) : (walkN (tidyN g)).came.length ≤ g.length := by
  have := (walk_inv (tidyN_ok g)).came
  rw [tidyN_len] at this; omega
theorem spans_all {g : List (List Int)} (hs : g.length ≤ 1000) : Spans (tidyN g) := by
  have hc := came_le g
  by_cases h0 : 0 < g.length
  · exact spanned_all (row3 h0) (by omega)
  · have e : g = [] := List.length_eq_zero_iff.1 (by omega)
    subst e
    exact spanned_of (by decide +kernel)
theorem up_da {D : List Nat} {x y : Nat} : Up (fun i => D.getD i 0) x y ↔ DA D x y := by
  constructor
  · intro h
    induction h with
    | refl => exact .refl _
    | step h0 _ ih => exact .step h0 ih
  · intro h
    induction h with
    | refl => exact .refl _
    | step h0 _ ih => exact .step h0 ih
theorem back_dom {g : List (List Int)} {a b : Nat} (ha : a < g.length) (hb : b < g.length) : backN (tidyN g) a b = domB g (b : Nat) (a : Nat) := by
  have h0 : 0 < g.length := by omega
  have r := row3 h0
  have t := tree2 h0
  show backS (spansN _ _) a b = _
  rcases r.some a with ⟨i, hi, rfl⟩ | hna
  · rcases r.some b with ⟨j, hj, rfl⟩ | hnb
    · rw [Bool.eq_iff_iff, back_up r hi hj, ← da_dom t hj hi]
      exact up_da
    · rw [back_none r (by rw [idom_len]; exact ha) (by rw [idom_len]; exact hb) (Or.inr hnb)]
      rcases hd : domB g (b : Nat) ((walkN (tidyN g)).came.getD i 0 : Nat) with _ | _
      · rfl
      · obtain ⟨w1, _, _⟩ := domB_iff.1 hd
        obtain ⟨x, hx, e⟩ := (way_came t.dfs h0).1 w1
        exact absurd e (hnb x hx)
  · rw [back_none r (by rw [idom_len]; exact ha) (by rw [idom_len]; exact hb) (Or.inl hna)]
    rcases hd : domB g (b : Nat) (a : Nat) with _ | _
    · rfl
    · obtain ⟨_, w2, _⟩ := domB_iff.1 hd
      obtain ⟨x, hx, e⟩ := (way_came t.dfs h0).1 w2
      exact absurd e (hna x hx)
end Go.Proofs.Ythanbedmiaacdaa.Gl
/- Plain mathematics: headers, reducibility and predecessors, as the document says them. -/
namespace Go.Proofs.Ythanbedmiaacdaa.Gl
open Go.ChangeShapes Go.WideShapes Go.ChangeAt Go.RowKit Go.Proofs.Ythanbedmiaacdaa.Mem Go.Proofs.Ythanbedmiaacdaa.Gr Go.Proofs.Ythanbedmiaacdaa.Gn Go.Proofs.Ythanbedmiaacdaa.Gc
set_option linter.unusedVariables false

theorem mem_edges {T : G} {e : Nat × Nat} : e ∈ edgesN T ↔ e.2 ∈ T.getD e.1 [] := by
  unfold edgesN edgesTo rowEdges
  rw [List.mem_flatten]
  constructor
  · rintro ⟨l, hl, he⟩
    obtain ⟨a, ha, rfl⟩ := List.mem_map.1 hl
    obtain ⟨b, hb, rfl⟩ := List.mem_map.1 he
    exact hb
  · intro h
    have hlt : e.1 < T.length := by
      rcases Nat.lt_or_ge e.1 T.length with h1 | h1
      · exact h1
      · rw [List.getD_eq_getElem?_getD, List.getElem?_eq_none h1] at h; cases h
    exact ⟨_, List.mem_map.2 ⟨e.1, List.mem_range.2 hlt, rfl⟩, List.mem_map.2 ⟨e.2, h, rfl⟩⟩
theorem li_filter (n : Nat) (p : Nat → Bool) : li ((List.range n).filter p) = ((List.range n).filter p).map fun b : Nat => (b : Int) := rfl
theorem filter_same {n : Nat} {p q : Nat → Bool} (h : ∀ i, i < n → p i = q i) : (List.range n).filter p = (List.range n).filter q := List.filter_congr fun i hi => h i (List.mem_range.1 hi)
/- Predecessors. -/
theorem preds_same (g : List (List Int)) : lii (turnN (tidyN g)) = predsL g := by
  unfold lii predsL predsTo
  apply List.ext_getElem
  · rw [List.length_map, List.length_map, List.length_range, turnN_len, tidyN_len]
  · intro b h1 h2
    rw [List.length_map, turnN_len, tidyN_len] at h1
    rw [List.getElem_map, List.getElem_map, List.getElem_range]
    have hb : b < (tidyN g).length := by rw [tidyN_len]; exact h1
    have e := turnN_row (tidyN_neat g) hb
    rw [getD_at (by rw [turnN_len]; exact hb)] at e
    rw [e, tidyN_len, li_filter]
    unfold fromTo
    rw [filter_same (fun a ha => ?_)]
    rw [Bool.eq_iff_iff, List.contains_iff_mem]
    exact edge_T.symm
/- Headers. -/
theorem headFold_get {T : G} : ∀ (es : List (Nat × Nat)) (m : List Bool) (h : Nat), h < m.length → (es.foldl (headStep T) m).getD h false = (m.getD h false || es.any fun e => backN T e.1 e.2 && e.2 == h)
  | [], m, h, _ => by simp
  | e :: es, m, h, hh => by
    have hl : (headStep T m e).length = m.length := by unfold headStep; split <;> simp
    rw [List.foldl_cons, headFold_get es _ h (by rw [hl]; exact hh), List.any_cons, ← Bool.or_assoc]
    congr 1
    unfold headStep
    by_cases hb : backN T e.1 e.2 = true
    · rw [if_pos hb, hb, getD_set, Bool.true_and]
      by_cases he : e.2 = h
      · rw [if_pos ⟨he, by omega⟩]; simp [he]
      · rw [if_neg (fun k => he k.1)]; simp [he]
    · rw [if_neg hb, Bool.eq_false_iff.2 hb]; simp
theorem headFold_len {T : G} : ∀ (es : List (Nat × Nat)) (m : List Bool), (es.foldl (headStep T) m).length = m.length
  | [], m => rfl
  | e :: es, m => by
    rw [List.foldl_cons, headFold_len es]
    unfold headStep; split <;> simp
theorem headers_same (g : List (List Int)) : li (headersN (tidyN g)) = headersL g := by
  unfold headersN thoseN headersL headersTo
  rw [headFold_len, List.length_replicate, tidyN_len, li_filter, filter_same (fun h hh => ?_)]
  rw [headFold_get _ _ _ (by rw [List.length_replicate]; exact hh), rep_getD, Bool.eq_iff_iff]
  unfold backTo
  rw [Bool.or_eq_true, List.any_eq_true, List.any_eq_true]
  constructor
  · rintro (e | ⟨e, he, h1⟩)
    · split at e <;> cases e
    · rw [Bool.and_eq_true, beq_iff_eq] at h1
      obtain ⟨h1, rfl⟩ := h1
      have h2 : edgeB g e.1 e.2 = true := edge_T.2 (mem_edges.1 he)
      obtain ⟨l1, l2⟩ := edge_lt h2
      rw [back_dom l1 l2] at h1
      exact ⟨e.1, List.mem_range.2 l1, by rw [h2, h1]; rfl⟩
  · rintro ⟨a, ha, h1⟩
    rw [Bool.and_eq_true] at h1
    obtain ⟨l1, l2⟩ := edge_lt h1.1
    exact Or.inr ⟨(a, h), mem_edges.2 (edge_T.1 h1.1), by rw [back_dom l1 l2, h1.2]; simp⟩
/- Reducibility. -/
/-- An edge from a reached block that does not go back. -/
def Fwd (g : List (List Int)) (a b : Nat) : Prop := edgeB g a b = true ∧ Way g (-1) a ∧ domB g (b : Nat) (a : Nat) = false
theorem rank_at {left : List Nat} {n : Nat} (hn : left.Nodup) (hl : ∀ b ∈ left, b < n) {i : Nat} (hi : i < left.length) : (rankN left n).getD left[i] 0 = left.length - i := by
  have key : ∀ j, j ≤ left.length → ∀ i (hi : i < left.length), i < j → (rankTo left n j).getD left[i] 0 = left.length - i := by
    intro j
    induction j with
    | zero => intro _ i _ h; omega
    | succ j ih =>
      intro hj i hi hij
      rw [rankTo_succ, getD_set, rankTo_len, getD_at (show j < left.length by omega)]
      by_cases e : j = i
      · subst e; rw [if_pos ⟨rfl, hl _ (List.getElem_mem _)⟩]
      · rw [if_neg (fun hh => e ((List.getElem_inj hn).1 hh.1))]
        exact ih (by omega) i hi (by omega)
  exact key left.length (Nat.le_refl _) i hi hi
theorem way_edge {g : List (List Int)} {gone : Int} {a b : Nat} (h : Way g gone a) (he : edgeB g a b = true) (hb : (b : Int) ≠ gone) : Way g gone b := by
  exact .step h he hb
section
variable {g : List (List Int)}
/-- An edge that goes back in the order goes to what stands above. -/
theorem retreat (h0 : 0 < g.length) {a b : Nat} (he : edgeB g a b = true) (hw : Way g (-1) a) (hr : (rankN (walkN (tidyN g)).left (tidyN g).length).getD b 0 ≤ (rankN (walkN (tidyN g)).left (tidyN g).length).getD a 0) :
    ∃ i j, i < (walkN (tidyN g)).came.length ∧ j < (walkN (tidyN g)).came.length ∧ (walkN (tidyN g)).came.getD i 0 = a ∧ (walkN (tidyN g)).came.getD j 0 = b ∧ Anc (walkN (tidyN g)).parent j i := by
  have d := (tree2 h0).dfs
  obtain ⟨i, hi, ei⟩ := (way_came d h0).1 hw
  have hwb : Way g (-1) b := way_edge hw he (by omega)
  obtain ⟨j, hj, ej⟩ := (way_came d h0).1 hwb
  refine ⟨i, j, hi, hj, ei, ej, ?_⟩
  have hnd := left_nodup d
  have hlt : ∀ c ∈ (walkN (tidyN g)).left, c < (tidyN g).length := fun c hc => by
    obtain ⟨k, hk, rfl⟩ := (d.left.1 c).1 hc
    exact (d.know.came k hk).1
  obtain ⟨p, hp, ep⟩ := List.mem_iff_getElem.1 ((d.left.1 a).2 ⟨i, hi, ei⟩)
  obtain ⟨q, hq, eq⟩ := List.mem_iff_getElem.1 ((d.left.1 b).2 ⟨j, hj, ej⟩)
  have r1 := rank_at hnd hlt hp
  have r2 := rank_at hnd hlt hq
  rw [ep] at r1
  rw [eq] at r2
  rw [r1, r2] at hr
  by_cases hpq : p = q
  · subst hpq
    have : a = b := by rw [← ep, ← eq]
    subst this
    have := d.know.inj hi hj (by rw [ei, ej])
    subst this
    exact .refl _
  · obtain ⟨i', j', e1, e2, hne, h1, h2⟩ := pairwise_get d.left.2 (show p < q by omega) hq
    rw [ep, ← ei, Know.num d.know hi] at e1
    rw [eq, ← ej, Know.num d.know hj] at e2
    have : i' = i := by omega
    subst this
    have : j' = j := by omega
    subst this
    rcases Nat.lt_or_ge j' i' with hlt | hge
    · exact h1 hlt
    · have hlt : i' < j' := by omega
      obtain ⟨k, hk, e3, e4, h3⟩ := d.goes i' hi b (by rw [ei]; exact edge_T.1 he)
      have : k = j' := d.know.inj hk hj (by rw [e4, ej])
      subst this
      exact absurd (h3 hlt) (h2 hlt)
/-- Along the tree no edge goes back. -/
theorem tree_fwd (h0 : 0 < g.length) {i q : Nat} (h : 0 < i) (hi : i < (walkN (tidyN g)).came.length) (e : (walkN (tidyN g)).parent.getD i (-1) = (q : Int)) : Fwd g ((walkN (tidyN g)).came.getD q 0) ((walkN (tidyN g)).came.getD i 0) := by
  have d := (tree2 h0).dfs
  obtain ⟨q', e', hq, hm, _⟩ := d.up i h hi
  have : q' = q := by omega
  subst this
  refine ⟨edge_T.2 hm, (way_came d h0).2 ⟨q', by omega, rfl⟩, ?_⟩
  rcases hd : domB g ((walkN (tidyN g)).came.getD i 0 : Nat) ((walkN (tidyN g)).came.getD q' 0 : Nat) with _ | _
  · rfl
  · have ha := dom_anc d h0 hi (by omega) hd
    have := Anc.le d.know.ups ha
    omega
theorem anc_rank (h0 : 0 < g.length) {r : Nat → Nat} (hr : ∀ a b, Fwd g a b → r a < r b) {j : Nat} : ∀ {i : Nat}, i < (walkN (tidyN g)).came.length → Anc (walkN (tidyN g)).parent j i → r ((walkN (tidyN g)).came.getD j 0) ≤ r ((walkN (tidyN g)).came.getD i 0) := by
  have d := (tree2 h0).dfs
  intro i hi ha
  induction ha with
  | refl => exact Nat.le_refl _
  | step e h ih =>
    rename_i y z
    have hz := ups_lt d.know.ups e
    have h1 := ih (by omega)
    have h2 := hr _ _ (tree_fwd h0 (by omega) hi e)
    omega
theorem red_iff : reducibleN (tidyN g) = true ↔ ∃ r : Nat → Nat, ∀ a b, Fwd g a b → r a < r b := by
  constructor
  · intro h
    refine ⟨fun a => (rankN (walkN (tidyN g)).left (tidyN g).length).getD a 0, fun a b hf => ?_⟩
    obtain ⟨he, hw, hd⟩ := hf
    obtain ⟨l1, l2⟩ := edge_lt he
    have d := (tree2 (show 0 < g.length by omega)).dfs
    have hb := List.all_eq_true.1 h (a, b) (mem_edges.2 (edge_T.1 he))
    obtain ⟨i, hi, ei⟩ := (way_came d (by omega)).1 hw
    have hnum := Know.num d.know hi
    rw [ei] at hnum
    unfold badEdge at hb
    simp only [hnum, back_dom l1 l2, hd, Bool.not_false, Bool.and_true, Bool.not_eq_true', Bool.and_eq_false_iff, decide_eq_false_iff_not] at hb
    rcases hb with hb | hb
    · have : ((i : Int) != -1) = true := by rw [bne_iff_ne]; omega
      rw [this] at hb; cases hb
    · show List.getD _ a 0 < List.getD _ b 0
      omega
  · rintro ⟨r, hr⟩
    refine reduc_good fun e he => ?_
    rcases hb : badEdge (tidyN g) e with _ | _
    · rfl
    · exfalso
      have he2 : edgeB g e.1 e.2 = true := edge_T.2 (mem_edges.1 he)
      obtain ⟨l1, l2⟩ := edge_lt he2
      have h0 : 0 < g.length := by omega
      have d := (tree2 h0).dfs
      unfold badEdge at hb
      rw [Bool.and_eq_true, Bool.and_eq_true, decide_eq_true_eq, bne_iff_ne, Bool.not_eq_true', back_dom l1 l2] at hb
      obtain ⟨⟨h1, h2⟩, h3⟩ := hb
      obtain ⟨_, i, hi, ei, ei2⟩ := d.know.at h1
      have hw : Way g (-1) e.1 := (way_came d h0).2 ⟨i, hi, ei2⟩
      obtain ⟨i, j, hi, hj, ei, ej, ha⟩ := retreat h0 he2 hw h2
      have k1 := anc_rank h0 hr hi ha
      have k2 := hr _ _ ⟨he2, hw, h3⟩
      rw [ei, ej] at k1
      omega
end
end Go.Proofs.Ythanbedmiaacdaa.Gl
/- Plain mathematics: reducible by taking away is reducible by an order; immediate dominators, as the document says them. -/
namespace Go.Proofs.Ythanbedmiaacdaa.Gl
open Go.ChangeShapes Go.WideShapes Go.ChangeAt Go.RowKit Go.Proofs.Ythanbedmiaacdaa.Mem Go.Proofs.Ythanbedmiaacdaa.Gr Go.Proofs.Ythanbedmiaacdaa.Gn Go.Proofs.Ythanbedmiaacdaa.Gc
set_option linter.unusedVariables false

section
variable {g : List (List Int)}
theorem someTo_false {S : List Bool} {b : Nat} (h : someTo g S b g.length = false) {a : Nat} (he : edgeB g a b = true) (hd : domB g (b : Nat) (a : Nat) = false) : ¬ In S a := by
  intro hs
  unfold someTo at h
  have := List.any_eq_false.1 h a (List.mem_range.2 (edge_lt he).1)
  rw [he, hs, hd] at this
  exact this rfl
theorem someTo_true {S : List Bool} {b : Nat} (h : someTo g S b g.length = true) : ∃ a : Nat, edgeB g a b = true ∧ In S a ∧ domB g (b : Nat) (a : Nat) = false := by
  unfold someTo at h
  obtain ⟨a, ha, h⟩ := List.any_eq_true.1 h
  rw [Bool.and_eq_true, Bool.and_eq_true, Bool.not_eq_true'] at h
  exact ⟨a, h.1.1, h.1.2, h.2⟩
theorem stripAt_in {S : List Bool} {b c : Nat} (hb : b < S.length) : In (stripAt g S b) c ↔ In S c ∧ (c = b → someTo g S b g.length = true) := by
  unfold stripAt In
  rcases hs : someTo g S b g.length with _ | _
  · rw [if_neg (by decide), getD_set]
    by_cases e : b = c
    · subst e; rw [if_pos ⟨rfl, hb⟩]; simp
    · rw [if_neg (fun h => e h.1)]
      exact ⟨fun h => ⟨h, fun k => absurd k.symm e⟩, fun h => h.1⟩
  · rw [if_pos rfl]
    exact ⟨fun h => ⟨h, fun _ => rfl⟩, fun h => h.1⟩
theorem strip_mono {S : List Bool} (hS : S.length = g.length) {c : Nat} : ∀ k, k ≤ g.length → In (strip g S k) c → In S c
  | 0, _, h => h
  | k + 1, hk, h => by
    rw [strip_succ, stripAt_in (by rw [strip_len, hS]; omega)] at h
    exact strip_mono hS k (by omega) h.1
/-- What is taken away has a place in an order. -/
def Taken (g : List (List Int)) (S : List Bool) : Prop := ∃ (r : Nat → Nat) (m : Nat), (∀ a, Way g (-1) a → ¬ In S a → r a < m) ∧ ∀ a b, Fwd g a b → ¬ In S b → ¬ In S a ∧ r a < r b
theorem taken_step {S : List Bool} {k : Nat} (hk : k < S.length) (h : Taken g S) : Taken g (stripAt g S k) := by
  obtain ⟨r, m, h1, h2⟩ := h
  rcases hs : someTo g S k g.length with _ | _
  · by_cases hin : In S k
    · refine ⟨fun a => if a = k then m else r a, m + 1, fun a hw ha => ?_, fun a b hf hb => ?_⟩
      · show (if a = k then m else r a) < m + 1
        by_cases e : a = k
        · rw [if_pos e]; omega
        · rw [if_neg e]
          have := h1 a hw (fun hh => ha ((stripAt_in hk).2 ⟨hh, fun k => absurd k e⟩)); omega
      · have hsub : ∀ {c}, ¬ In S c → ¬ In (stripAt g S k) c := fun hc hh => hc ((stripAt_in hk).1 hh).1
        show _ ∧ (if a = k then m else r a) < (if b = k then m else r b)
        by_cases e : b = k
        · subst e
          have hna := someTo_false hs hf.1 hf.2.2
          have hne : a ≠ b := fun e => hna (e ▸ hin)
          rw [if_pos rfl, if_neg hne]
          exact ⟨hsub hna, h1 a hf.2.1 hna⟩
        · have hnb : ¬ In S b := fun hh => hb ((stripAt_in hk).2 ⟨hh, fun k => absurd k e⟩)
          obtain ⟨h3, h4⟩ := h2 a b hf hnb
          have hne : a ≠ k := fun e => h3 (e ▸ hin)
          rw [if_neg e, if_neg hne]
          exact ⟨hsub h3, h4⟩
    · have he : ∀ c, In (stripAt g S k) c ↔ In S c := fun c => (stripAt_in hk).trans ⟨fun h => h.1, fun h => ⟨h, fun e => absurd (e ▸ h) hin⟩⟩
      exact ⟨r, m, fun a hw ha => h1 a hw (fun hh => ha ((he a).2 hh)), fun a b hf hb => by
        obtain ⟨h3, h4⟩ := h2 a b hf (fun hh => hb ((he b).2 hh))
        exact ⟨fun hh => h3 ((he a).1 hh), h4⟩⟩
  · have : stripAt g S k = S := by unfold stripAt; rw [hs]; rfl
    rw [this]; exact ⟨r, m, h1, h2⟩
theorem taken_strip {S : List Bool} (hS : S.length = g.length) (h : Taken g S) : ∀ k, k ≤ g.length → Taken g (strip g S k)
  | 0, _ => h
  | k + 1, hk => by
    rw [strip_succ]
    exact taken_step (by rw [strip_len, hS]; omega) (taken_strip hS h k (by omega))
theorem taken_strips : ∀ k, Taken g (strips g k)
  | 0 => ⟨fun _ => 0, 0, fun a hw ha => absurd (without_iff.2 hw) ha, fun a b hf hb => absurd (without_iff.2 (way_edge hf.2.1 hf.1 (by omega))) hb⟩
  | k + 1 => taken_strip (strips_len g k) (taken_strips k) _ (Nat.le_refl _)
theorem least_of {P : Nat → Prop} (r : Nat → Nat) : ∀ m, (∃ b, P b ∧ r b ≤ m) → ∃ b, P b ∧ ∀ a, P a → r b ≤ r a
  | 0, ⟨b, hb, h⟩ => ⟨b, hb, fun a _ => by omega⟩
  | m + 1, ⟨b, hb, h⟩ => by
    by_cases hh : ∃ c, P c ∧ r c ≤ m
    · exact least_of r m hh
    · exact ⟨b, hb, fun a ha => by
        rcases Nat.lt_or_ge (r a) (r b) with h1 | h1
        · exact absurd ⟨a, ha, by omega⟩ hh
        · exact h1⟩
theorem strips_way {c : Nat} : ∀ k, In (strips g k) c → Way g (-1) c
  | 0, h => without_iff.1 h
  | k + 1, h => strips_way k (strip_mono (strips_len g k) _ (Nat.le_refl _) h)
theorem strips_few {r : Nat → Nat} (hr : ∀ a b, Fwd g a b → r a < r b) : ∀ k, (∀ c, ¬ In (strips g k) c) ∨ ((List.range g.length).filter fun i => (strips g k).getD i false).length + k ≤ g.length
  | 0 => by
    right
    have := List.length_filter_le (fun i => (strips g 0).getD i false) (List.range g.length)
    rw [List.length_range] at this; omega
  | k + 1 => by
    have hm : ∀ c, In (strips g (k + 1)) c → In (strips g k) c := fun c h => strip_mono (strips_len g k) _ (Nat.le_refl _) h
    rcases strips_few hr k with h | h
    · exact Or.inl fun c hc => h c (hm c hc)
    · by_cases hs : ∃ c, In (strips g k) c
      · right
        obtain ⟨c, hc⟩ := hs
        obtain ⟨b, hb, hmin⟩ := least_of (P := In (strips g k)) r (r c) ⟨c, hc, Nat.le_refl _⟩
        have hbl := (strips_way k hb).lt
        have hgone : ¬ In (strips g (k + 1)) b := by
          have key : ∀ j, j ≤ g.length → b < j → ¬ In (strip g (strips g k) j) b := by
            intro j
            induction j with
            | zero => intro _ h; omega
            | succ j ih =>
              intro hj hbj hin
              rw [strip_succ, stripAt_in (by rw [strip_len, strips_len]; omega)] at hin
              by_cases e : b = j
              · obtain ⟨a, h1, h2, h3⟩ := someTo_true (hin.2 e)
                have h4 := strip_mono (strips_len g k) j (by omega) h2
                rw [← e] at h1 h3
                have h5 := hr a b ⟨h1, strips_way k h4, h3⟩
                have := hmin a h4; omega
              · exact ih (by omega) (by omega) hin.1
          exact key g.length (Nat.le_refl _) hbl
        have := count_lt (p := fun i => (strips g (k + 1)).getD i false) (q := fun i => (strips g k).getD i false) g.length (fun i _ h => hm i h) ⟨b, hbl, Bool.eq_false_iff.2 hgone, hb⟩
        omega
      · exact Or.inl fun c hc => hs ⟨c, hm c hc⟩
theorem reducB_iff : reducB g = true ↔ ∃ r : Nat → Nat, ∀ a b, Fwd g a b → r a < r b := by
  unfold reducB
  rw [List.all_eq_true]
  have hin : (∀ x ∈ strips g g.length, (!x) = true) ↔ ∀ c, ¬ In (strips g g.length) c := by
    constructor
    · intro h c hc
      have hl : c < (strips g g.length).length := by
        rcases Nat.lt_or_ge c (strips g g.length).length with h1 | h1
        · exact h1
        · unfold In at hc; rw [List.getD_eq_getElem?_getD, List.getElem?_eq_none h1] at hc; cases hc
      have := h _ (List.getElem_mem hl)
      unfold In at hc
      rw [getD_at hl] at hc
      rw [hc] at this; cases this
    · intro h x hx
      obtain ⟨c, hc, e⟩ := List.mem_iff_getElem.1 hx
      have := h c
      unfold In at this
      rw [getD_at hc, e] at this
      rw [Bool.not_eq_true']; exact Bool.eq_false_iff.2 this
  rw [hin]
  constructor
  · intro h
    obtain ⟨r, m, _, h2⟩ := taken_strips (g := g) g.length
    exact ⟨r, fun a b hf => (h2 a b hf (h b)).2⟩
  · rintro ⟨r, hr⟩ c hc
    rcases strips_few hr g.length with h | h
    · exact h c hc
    · have hl := (strips_way g.length hc).lt
      have : 0 < ((List.range g.length).filter fun i => (strips g g.length).getD i false).length := List.length_pos_of_mem (List.mem_filter.2 ⟨List.mem_range.2 hl, hc⟩)
      omega
theorem red_same (g : List (List Int)) : reducibleN (tidyN g) = reducB g := by
  rw [Bool.eq_iff_iff, red_iff, reducB_iff]
/- Immediate dominators. -/
def idomC (g : List (List Int)) (b a : Nat) : Bool := ((a : Int) != (b : Int)) && domB g a b && lastTo g a b g.length
theorem bestTo_one {b a0 : Nat} (hu : ∀ a, idomC g b a = true → a = a0) : ∀ k, bestTo g b k = if a0 < k ∧ idomC g b a0 = true then (a0 : Int) else -1
  | 0 => by rw [if_neg (by omega)]; rfl
  | k + 1 => by
    rw [bestTo_succ, bestTo_one hu k]
    show (if idomC g b k = true then (k : Int) else _) = _
    by_cases h : idomC g b k = true
    · have := hu k h
      subst this
      rw [if_pos h, if_pos ⟨by omega, h⟩]
    · rw [if_neg h]
      by_cases h2 : a0 < k ∧ idomC g b a0 = true
      · rw [if_pos h2, if_pos ⟨by omega, h2.2⟩]
      · rw [if_neg h2, if_neg]
        rintro ⟨h3, h4⟩
        have : a0 ≠ k := fun e => h (e ▸ h4)
        exact h2 ⟨by omega, h4⟩
theorem idomC_iff {b a : Nat} : idomC g b a = true ↔ a ≠ b ∧ domB g a b = true ∧ ∀ c, c < g.length → c = b ∨ domB g (c : Nat) b = false ∨ domB g (c : Nat) a = true := by
  unfold idomC lastTo
  rw [Bool.and_eq_true, Bool.and_eq_true, bne_iff_ne, List.all_eq_true, and_assoc]
  refine and_congr ⟨fun h e => h (by rw [e]), fun h e => h (Int.ofNat.inj e)⟩ (and_congr Iff.rfl ?_)
  constructor
  · intro h c hc
    have := h c (List.mem_range.2 hc)
    rw [Bool.or_eq_true, Bool.or_eq_true, beq_iff_eq, Bool.not_eq_true'] at this
    rcases this with (h | h) | h
    · exact Or.inl (Int.ofNat.inj h)
    · exact Or.inr (Or.inl h)
    · exact Or.inr (Or.inr h)
  · intro h c hc
    rw [Bool.or_eq_true, Bool.or_eq_true, beq_iff_eq, Bool.not_eq_true']
    rcases h c (List.mem_range.1 hc) with h | h | h
    · exact Or.inl (Or.inl (by rw [h]))
    · exact Or.inl (Or.inr h)
    · exact Or.inr h
theorem dom_num (h0 : 0 < g.length) {a b : Nat} (h : domB g (a : Nat) (b : Nat) = true) : ∃ x w, x < (walkN (tidyN g)).came.length ∧ w < (walkN (tidyN g)).came.length ∧ (walkN (tidyN g)).came.getD x 0 = a ∧ (walkN (tidyN g)).came.getD w 0 = b ∧ DA (aboveN (tidyN g)) x w := by
  have t := tree2 h0
  obtain ⟨w1, w2, _⟩ := domB_iff.1 h
  obtain ⟨x, hx, rfl⟩ := (way_came t.dfs h0).1 w1
  obtain ⟨w, hw, rfl⟩ := (way_came t.dfs h0).1 w2
  exact ⟨x, w, hx, hw, rfl, rfl, (da_dom t hx hw).2 h⟩
theorem idomC_two (h0 : 0 < g.length) {b a a' : Nat} (h : idomC g b a = true) (h' : idomC g b a' = true) : a' = a := by
  obtain ⟨n1, d1, l1⟩ := idomC_iff.1 h
  obtain ⟨n2, d2, l2⟩ := idomC_iff.1 h'
  have t := tree2 h0
  have k1 : domB g (a' : Nat) (a : Nat) = true := by
    rcases l1 a' ((domB_iff.1 d2).1.lt) with e | e | e
    · exact absurd e n2
    · rw [d2] at e; cases e
    · exact e
  have k2 : domB g (a : Nat) (a' : Nat) = true := by
    rcases l2 a ((domB_iff.1 d1).1.lt) with e | e | e
    · exact absurd e n1
    · rw [d1] at e; cases e
    · exact e
  obtain ⟨x, w, hx, hw, e1, e2, hd⟩ := dom_num h0 k1
  obtain ⟨x', w', hx', hw', e1', e2', hd'⟩ := dom_num h0 k2
  have i1 : w' = x := t.dfs.know.inj hw' hx (by rw [e2', e1])
  have i2 : x' = w := t.dfs.know.inj hx' hw (by rw [e1', e2])
  subst i1 i2
  have u1 := DA.le t.falls (by rw [t.len]; exact hw) hd
  have u2 := DA.le t.falls (by rw [t.len]; exact hw') hd'
  rw [← e1, ← e2, show w' = x' by omega]
theorem idom_same (g : List (List Int)) : idomN (tidyN g) = idomL g := by
  by_cases h0 : 0 < g.length
  · have t := tree2 h0
    apply List.ext_getElem
    · rw [idom_len]; unfold idomL; rw [idomTo_len]
    · intro b h1 h2
      rw [idom_len] at h1
      have hr : (idomL g)[b] = bestTo g b g.length := by
        have e : (idomL g)[b]? = some (bestTo g b g.length) := by
          unfold idomL idomTo
          rw [List.getElem?_map, List.getElem?_range h1]; rfl
        exact (List.getElem?_eq_some_iff.1 e).2
      rw [hr, ← getD_at (by rw [idom_len]; exact h1) (-1)]
      have r := row3 h0
      by_cases hw : ∃ w, 0 < w ∧ w < (walkN (tidyN g)).came.length ∧ (walkN (tidyN g)).came.getD w 0 = b
      · obtain ⟨w, hw0, hw, rfl⟩ := hw
        rw [idom_at h0 hw0 hw]
        have hab := above_lt h0 hw0 hw
        have hc : idomC g ((walkN (tidyN g)).came.getD w 0) ((walkN (tidyN g)).came.getD ((aboveN (tidyN g)).getD w 0) 0) = true := by
          refine idomC_iff.2 ⟨fun e => ?_, (da_dom t (by omega) hw).1 (.step hw0 (.refl _)), fun c hc => ?_⟩
          · have := t.dfs.know.inj (by omega) hw e; omega
          · by_cases e : c = (walkN (tidyN g)).came.getD w 0
            · exact Or.inl e
            · right
              rcases hd : domB g (c : Nat) ((walkN (tidyN g)).came.getD w 0 : Nat) with _ | _
              · exact Or.inl rfl
              · right
                obtain ⟨x, w', hx, hw', e1, e2, hda⟩ := dom_num h0 hd
                have : w' = w := t.dfs.know.inj hw' hw e2
                subst this
                obtain ⟨_, hd2⟩ := da_cases hda (fun ee => e (by rw [← e1, ee]))
                rw [← e1]
                exact (da_dom t hx (by omega)).1 hd2
        rw [bestTo_one (fun a ha => idomC_two h0 hc ha), if_pos ⟨came_lt h0 (by omega), hc⟩]
      · rw [idom_none h0 h1 (fun w h1 h2 h3 => hw ⟨w, h1, h2, h3⟩)]
        rw [bestTo_one (a0 := 0) (fun a ha => ?_), if_neg]
        · rintro ⟨_, hc⟩
          obtain ⟨n1, d1, _⟩ := idomC_iff.1 hc
          obtain ⟨x, w, hx, hw', e1, e2, hd⟩ := dom_num h0 d1
          by_cases hwz : w = 0
          · subst hwz
            have := DA.zero hd
            subst this
            exact n1 (by rw [← e1, ← e2])
          · exact hw ⟨w, by omega, hw', e2⟩
        · obtain ⟨n1, d1, _⟩ := idomC_iff.1 ha
          obtain ⟨x, w, hx, hw', e1, e2, hd⟩ := dom_num h0 d1
          by_cases hwz : w = 0
          · subst hwz
            have := DA.zero hd
            subst this
            exact absurd (by rw [← e1, ← e2]) n1
          · exact absurd ⟨w, by omega, hw', e2⟩ hw
  · have e : g = [] := List.length_eq_zero_iff.1 (by omega)
    subst e
    decide +kernel
end
end Go.Proofs.Ythanbedmiaacdaa.Gl
/- Plain mathematics: a loop's body, as the document says it. -/
namespace Go.Proofs.Ythanbedmiaacdaa.Gl
open Go.ChangeShapes Go.WideShapes Go.ChangeAt Go.RowKit Go.Proofs.Ythanbedmiaacdaa.Mem Go.Proofs.Ythanbedmiaacdaa.Gr Go.Proofs.Ythanbedmiaacdaa.Gn Go.Proofs.Ythanbedmiaacdaa.Gc
set_option linter.unusedVariables false

/-- What a loop's body holds. -/
inductive Loop (g : List (List Int)) (h : Nat) : Nat → Prop
  | src {a : Nat} : edgeB g a h = true → domB g (h : Nat) (a : Nat) = true → Loop g h a
  | head {a : Nat} : edgeB g a h = true → domB g (h : Nat) (a : Nat) = true → Loop g h h
  | step {a b : Nat} : Way g (-1) a → edgeB g a b = true → b ≠ h → Loop g h b → Loop g h a
theorem Loop.way {g : List (List Int)} {h x : Nat} (l : Loop g h x) : Way g (-1) x := by
  cases l with
  | src _ h => exact (domB_iff.1 h).2.1
  | head _ h => exact (domB_iff.1 h).1
  | step h _ _ _ => exact h
theorem Loop.some {g : List (List Int)} {h x : Nat} (l : Loop g h x) : ∃ a : Nat, edgeB g a h = true ∧ domB g (h : Nat) (a : Nat) = true := by
  induction l with
  | src h k => exact ⟨_, h, k⟩
  | head h k => exact ⟨_, h, k⟩
  | step _ _ _ _ ih => exact ih
/- The mark. -/
structure MarkOk (P : G) (num : List Int) (m m' : List Bool) (l : List Nat) : Prop where
  len : m'.length = m.length
  count : m'.count false ≤ m.count false
  sub : ∀ c, In m c → In m' c
  hit : ∀ b ∈ l, b < m.length → num.getD b (-1) ≠ -1 → In m' b
  clo : ∀ c, In m' c → ¬ In m c → ∀ a ∈ P.getD c [], num.getD a (-1) ≠ -1 → In m' a
  snd : ∀ Q : Nat → Prop, (∀ b ∈ l, num.getD b (-1) ≠ -1 → Q b) → (∀ c a, Q c → ¬ In m c → a ∈ P.getD c [] → num.getD a (-1) ≠ -1 → Q a) → ∀ c, In m' c → In m c ∨ Q c
theorem in_set {m : List Bool} {b c : Nat} (hb : b < m.length) : In (m.set b true) c ↔ In m c ∨ c = b := by
  unfold In
  rw [getD_set]
  by_cases e : b = c
  · subst e; rw [if_pos ⟨rfl, hb⟩]; simp
  · rw [if_neg (fun h => e h.1)]
    exact ⟨Or.inl, fun h => h.elim id (fun k => absurd k.symm e)⟩
theorem in_lt {m : List Bool} {c : Nat} (h : In m c) : c < m.length := by
  rcases Nat.lt_or_ge c m.length with h1 | h1
  · exact h1
  · unfold In at h; rw [List.getD_eq_getElem?_getD, List.getElem?_eq_none h1] at h; cases h
theorem markRow_ok {P : G} {num : List Int} {n f : Nat} (hP : ∀ c, ∀ a ∈ P.getD c [], a < n) (ih : ∀ b m, m.length = n → m.count false < f → b < n → MarkOk P num m (markB P num f b m) [b]) : ∀ (l : List Nat) (m : List Bool), m.length = n → m.count false < f → (∀ a ∈ l, a < n) → MarkOk P num m (markRow P num f l m) l
  | [], m, _, _, _ => ⟨rfl, Nat.le_refl _, fun _ h => h, (fun b hb => by cases hb), fun c h k => absurd h k, fun Q _ _ c h => Or.inl h⟩
  | b :: l, m, hm, hc, hl => by
    have h1 := ih b m hm hc (hl b List.mem_cons_self)
    have h2 := markRow_ok hP ih l (markB P num f b m) (h1.len.trans hm) (Nat.lt_of_le_of_lt h1.count hc) (fun a ha => hl a (List.mem_cons_of_mem _ ha))
    have e : markRow P num f (b :: l) m = markRow P num f l (markB P num f b m) := rfl
    rw [e]
    refine ⟨h2.len.trans h1.len, Nat.le_trans h2.count h1.count, fun c h => h2.sub c (h1.sub c h), fun a ha hlt hn => ?_, fun c h k a ha hn => ?_, fun Q hq hs c h => ?_⟩
    · rcases List.mem_cons.1 ha with rfl | ha
      · exact h2.sub _ (h1.hit _ List.mem_cons_self hlt hn)
      · exact h2.hit a ha (by rw [h1.len]; exact hlt) hn
    · by_cases h3 : In (markB P num f b m) c
      · exact h2.sub _ (h1.clo c h3 k a ha hn)
      · exact h2.clo c h h3 a ha hn
    · rcases h2.snd Q (fun a ha hn => hq a (List.mem_cons_of_mem _ ha) hn) (fun c a hqc hnc ha hn => hs c a hqc (fun hh => hnc (h1.sub c hh)) ha hn) c h with h3 | h3
      · exact h1.snd Q (fun a ha hn => hq a (by rw [List.mem_singleton.1 ha]; exact List.mem_cons_self) hn) hs c h3
      · exact Or.inr h3
theorem markB_ok {P : G} {num : List Int} {n : Nat} (hP : ∀ c, ∀ a ∈ P.getD c [], a < n) : ∀ (f b : Nat) (m : List Bool), m.length = n → m.count false < f → b < n → MarkOk P num m (markB P num f b m) [b]
  | 0, b, m, _, hc, _ => absurd hc (Nat.not_lt_zero _)
  | f + 1, b, m, hm, hc, hb => by
    by_cases h : m.getD b true = true ∨ num.getD b (-1) = -1
    · rw [markB_in h]
      refine ⟨rfl, Nat.le_refl _, fun _ h => h, fun a ha hlt hn => ?_, fun c h k => absurd h k, fun Q _ _ c h => Or.inl h⟩
      rw [List.mem_singleton.1 ha] at hn ⊢
      rcases h with h | h
      · unfold In
        rw [getD_at (by omega)] at h ⊢
        exact h
      · exact absurd h hn
    · have h1 : m.getD b true = false := by rcases hb : m.getD b true with _ | _ <;> simp_all
      have hcs := count_set_true h1
      have hnb : ¬ In m b := by
        unfold In
        rw [getD_at (by omega)] at h1 ⊢
        rw [h1]; decide
      rw [markB_out h1 (fun e => h (Or.inr e))]
      have h2 := markRow_ok hP (fun b m hm hc hb => markB_ok (P := P) (num := num) hP f b m hm hc hb) (P.getD b []) (m.set b true) (by rw [List.length_set]; exact hm) (by omega) (hP b)
      have hs : ∀ c, In (m.set b true) c ↔ In m c ∨ c = b := fun c => in_set (show b < m.length by omega)
      refine ⟨h2.len.trans (List.length_set ..), by have := h2.count; omega, fun c h => h2.sub c ((hs _).2 (Or.inl h)), fun a ha hlt hn => ?_, fun c h k a ha hn => ?_, fun Q hq hst c h => ?_⟩
      · rw [List.mem_singleton.1 ha]
        exact h2.sub _ ((hs _).2 (Or.inr rfl))
      · by_cases e : c = b
        · subst e
          exact h2.hit a ha (by rw [List.length_set, hm]; exact hP c a ha) hn
        · exact h2.clo c h (fun hh => ((hs _).1 hh).elim k e) a ha hn
      · have hqb : Q b := hq b (List.mem_singleton.2 rfl) (fun e => ‹¬ (m.getD b true = true ∨ num.getD b (-1) = -1)› (Or.inr e))
        rcases h2.snd Q (fun a ha hn => hst b a hqb hnb ha hn) (fun c a hqc hnc ha hn => hst c a hqc (fun hh => hnc ((hs _).2 (Or.inl hh))) ha hn) c h with h3 | h3
        · rcases (hs _).1 h3 with h4 | rfl
          · exact Or.inl h4
          · exact Or.inr hqb
        · exact Or.inr h3
section
variable {g : List (List Int)}
theorem num_way {a : Nat} : (walkN (tidyN g)).number.getD a (-1) ≠ -1 ↔ Way g (-1) a := by
  constructor
  · intro h
    have hl : a < (walkN (tidyN g)).number.length := getD_lt h
    rw [(walk_inv (tidyN_ok g)).number, tidyN_len] at hl
    have d := (tree2 (show 0 < g.length by omega)).dfs
    obtain ⟨_, i, hi, _, e⟩ := d.know.at h
    exact (way_came d (by omega)).2 ⟨i, hi, e⟩
  · intro h
    have hl := h.lt
    have d := (tree2 (show 0 < g.length by omega)).dfs
    obtain ⟨i, hi, e⟩ := (way_came d (by omega)).1 h
    have := Know.num d.know hi
    rw [e] at this
    omega
theorem pred_edge {a b : Nat} : a ∈ (turnN (tidyN g)).getD b [] ↔ edgeB g a b = true := by rw [mem_turnN (tidyN_neat g)]; exact edge_T.symm
structure BodyOk (g : List (List Int)) (h : Nat) (l : List Nat) (m : List Bool) : Prop where
  len : m.length = g.length
  snd : ∀ c, In m c → Loop g h c
  clo : ∀ c, In m c → c ≠ h → ∀ a : Nat, edgeB g a c = true → Way g (-1) a → In m a
  hit : ∀ a ∈ l, domB g (h : Nat) (a : Nat) = true → In m a ∧ In m h
theorem body_step {h : Nat} (hh : h < g.length) {l : List Nat} {m : List Bool} {a : Nat} (ha : edgeB g a h = true) (hm : BodyOk g h l m) : BodyOk g h (l ++ [a]) (bodyStep (tidyN g) h m a) := by
  obtain ⟨l1, l2⟩ := edge_lt ha
  unfold bodyStep
  rw [back_dom l1 l2]
  rcases hd : domB g (h : Nat) (a : Nat) with _ | _
  · rw [if_neg (by decide)]
    refine ⟨hm.len, hm.snd, hm.clo, fun b hb hdb => ?_⟩
    rcases List.mem_append.1 hb with hb | hb
    · exact hm.hit b hb hdb
    · rw [List.mem_singleton.1 hb, hd] at hdb; cases hdb
  · rw [if_pos rfl]
    have hP : ∀ c, ∀ a ∈ (turnN (tidyN g)).getD c [], a < g.length := fun c a ha => (edge_lt (pred_edge.1 ha)).1
    have hl0 := hm.len
    have hs : ∀ c, In (m.set h true) c ↔ In m c ∨ c = h := fun c => in_set (by omega)
    have hc : (m.set h true).count false < (tidyN g).length + 1 := by
      have := List.count_le_length (a := false) (l := m.set h true)
      rw [List.length_set] at this
      rw [tidyN_len]; omega
    have k := markB_ok (num := (walkN (tidyN g)).number) hP ((tidyN g).length + 1) a (m.set h true) (by rw [List.length_set]; exact hl0) hc l1
    refine ⟨k.len.trans (by rw [List.length_set]; exact hl0), fun c hc => ?_, fun c hc hne x hx hw => ?_, fun b hb hdb => ?_⟩
    · rcases k.snd (Loop g h) (fun b hb _ => by rw [List.mem_singleton.1 hb]; exact .src ha hd) (fun c x hq hn hx hnum => by
        have hne : c ≠ h := fun e => hn ((hs _).2 (Or.inr e))
        exact .step (num_way.1 hnum) (pred_edge.1 hx) hne hq) c hc with h1 | h1
      · rcases (hs _).1 h1 with h2 | rfl
        · exact hm.snd c h2
        · exact .head ha hd
      · exact h1
    · by_cases h1 : In (m.set h true) c
      · rcases (hs _).1 h1 with h2 | h2
        · exact k.sub _ ((hs _).2 (Or.inl (hm.clo c h2 hne x hx hw)))
        · exact absurd h2 hne
      · exact k.clo c hc h1 x (pred_edge.2 hx) (num_way.2 hw)
    · have hin : In (markB (turnN (tidyN g)) (walkN (tidyN g)).number ((tidyN g).length + 1) a (m.set h true)) h := k.sub _ ((hs _).2 (Or.inr rfl))
      refine ⟨?_, hin⟩
      rcases List.mem_append.1 hb with hb | hb
      · exact k.sub _ ((hs _).2 (Or.inl (hm.hit b hb hdb).1))
      · rw [List.mem_singleton.1 hb]
        exact k.hit a (List.mem_singleton.2 rfl) (by rw [List.length_set]; omega) (num_way.2 ((domB_iff.1 hd).2.1))
theorem body_fold {h : Nat} (hh : h < g.length) : ∀ (l p : List Nat) (m : List Bool), (∀ a ∈ l, edgeB g a h = true) → BodyOk g h p m → BodyOk g h (p ++ l) (l.foldl (bodyStep (tidyN g) h) m)
  | [], p, m, _, hm => by rw [List.append_nil]; exact hm
  | a :: l, p, m, hl, hm => by
    have := body_fold hh l (p ++ [a]) _ (fun x hx => hl x (List.mem_cons_of_mem _ hx)) (body_step hh (hl a List.mem_cons_self) hm)
    rw [List.append_assoc] at this
    exact this
/-- The marks of a body. -/
def bodyM (T : G) (h : Nat) : List Bool := ((turnN T).getD h []).foldl (bodyStep T h) (List.replicate T.length false)
theorem not_in_rep {n c : Nat} : ¬ In (List.replicate n false) c := by
  unfold In
  rw [rep_getD]; split <;> decide
theorem bodyM_ok {h : Nat} (hh : h < g.length) : BodyOk g h ((turnN (tidyN g)).getD h []) (bodyM (tidyN g) h) := by
  have := body_fold hh ((turnN (tidyN g)).getD h []) [] (List.replicate (tidyN g).length false) (fun a ha => pred_edge.1 ha) ⟨by rw [List.length_replicate, tidyN_len], fun c h => absurd h not_in_rep, fun c h => absurd h not_in_rep, fun a ha => by cases ha⟩
  exact this
theorem bodyM_iff {h : Nat} (hh : h < g.length) {x : Nat} : In (bodyM (tidyN g) h) x ↔ Loop g h x := by
  have k := bodyM_ok hh
  refine ⟨k.snd x, fun l => ?_⟩
  induction l with
  | src h1 h2 => exact (k.hit _ (pred_edge.2 h1) h2).1
  | head h1 h2 => exact (k.hit _ (pred_edge.2 h1) h2).2
  | step h1 h2 h3 h4 ih => exact k.clo _ ih h3 _ h2 h1
theorem bodyN_is {h : Nat} (hh : h < g.length) : bodyN (tidyN g) (h : Nat) = (List.range g.length).filter fun x => (bodyM (tidyN g) h).getD x false := by
  unfold bodyN thoseN
  rw [if_neg (by rw [tidyN_len]; omega), Int.toNat_natCast]
  show (List.range (bodyM (tidyN g) h).length).filter _ = _
  rw [(bodyM_ok hh).len]
  rfl
theorem mem_bodyN {h : Nat} (hh : h < g.length) {x : Nat} : x ∈ bodyN (tidyN g) (h : Nat) ↔ Loop g h x := by
  rw [bodyN_is hh, List.mem_filter, List.mem_range]
  exact ⟨fun k => (bodyM_iff hh).1 k.2, fun k => ⟨k.way.lt, (bodyM_iff hh).2 k⟩⟩
/- The document's rounds. -/
theorem grow_in {h a : Nat} {c : Nat} : ∀ (l : List Int) (S : List Bool), a < S.length → (∀ x ∈ l, ∃ b : Nat, x = (b : Int)) → (In (l.foldl (growAt g h a) S) c ↔ In S c ∨ (c = a ∧ Way g (-1) a ∧ ∃ b : Nat, (b : Int) ∈ l ∧ b ≠ h ∧ In S b))
  | [], S, _, _ => ⟨Or.inl, fun k => k.elim id (fun k => by obtain ⟨_, _, b, hb, _⟩ := k; cases hb)⟩
  | x :: l, S, ha, hl => by
    obtain ⟨y, rfl⟩ := hl x List.mem_cons_self
    have h1 : ∀ c, In (growAt g h a S (y : Int)) c ↔ In S c ∨ (c = a ∧ Way g (-1) a ∧ y ≠ h ∧ In S y) := by
      intro c
      unfold growAt
      rw [Int.toNat_natCast]
      have hcond : ((withoutL g (-1)).getD a false && (y : Int) != (h : Int) && S.getD y false) = true ↔ Way g (-1) a ∧ y ≠ h ∧ In S y := by
        rw [Bool.and_eq_true, Bool.and_eq_true, bne_iff_ne, and_assoc]
        exact and_congr without_iff (and_congr ⟨fun k e => k (by rw [e]), fun k e => k (Int.ofNat.inj e)⟩ Iff.rfl)
      by_cases hc : ((withoutL g (-1)).getD a false && (y : Int) != (h : Int) && S.getD y false) = true
      · rw [if_pos hc, in_set ha]
        have := hcond.1 hc
        exact ⟨fun k => k.imp id (fun k => ⟨k, this⟩), fun k => k.imp id (fun k => k.1)⟩
      · rw [if_neg hc]
        exact ⟨Or.inl, fun k => k.elim id (fun k => absurd (hcond.2 k.2) hc)⟩
    rw [List.foldl_cons, grow_in l _ (by rw [growAt_len]; exact ha) (fun x hx => hl x (List.mem_cons_of_mem _ hx)), h1]
    constructor
    · rintro ((k | ⟨k1, k2, k3, k4⟩) | ⟨k1, k2, b, k3, k4, k5⟩)
      · exact Or.inl k
      · exact Or.inr ⟨k1, k2, y, List.mem_cons_self, k3, k4⟩
      · rcases (h1 b).1 k5 with k6 | ⟨_, _, k7, k8⟩
        · exact Or.inr ⟨k1, k2, b, List.mem_cons_of_mem _ k3, k4, k6⟩
        · exact Or.inr ⟨k1, k2, y, List.mem_cons_self, k7, k8⟩
    · rintro (k | ⟨k1, k2, b, k3, k4, k5⟩)
      · exact Or.inl (Or.inl k)
      · rcases List.mem_cons.1 k3 with k6 | k6
        · have : b = y := Int.ofNat.inj k6
          subst this
          exact Or.inl (Or.inr ⟨k1, k2, k4, k5⟩)
        · exact Or.inr ⟨k1, k2, b, k6, k4, (h1 b).2 (Or.inl k5)⟩
theorem grows_in {h a : Nat} {c : Nat} {S : List Bool} (ha : a < S.length) : In (grows g h a S (nextL g a).length) c ↔ In S c ∨ (c = a ∧ Way g (-1) a ∧ ∃ b : Nat, edgeB g a b = true ∧ b ≠ h ∧ In S b) := by
  unfold grows
  rw [List.take_length, grow_in _ _ ha (fun x hx => by obtain ⟨b, e, _⟩ := mem_nextL.1 hx; exact ⟨b, e⟩)]
  refine or_congr Iff.rfl (and_congr Iff.rfl (and_congr Iff.rfl (exists_congr fun b => and_congr ?_ Iff.rfl)))
  rw [mem_nextL]
  exact ⟨fun ⟨d, e, k⟩ => by have : b = d := Int.ofNat.inj e; subst this; exact k, fun k => ⟨b, rfl, k⟩⟩
theorem growTo_mono {h : Nat} {S : List Bool} (hS : S.length = g.length) {c : Nat} (hc : In S c) : ∀ k, k ≤ g.length → In (growTo g h S k) c
  | 0, _ => hc
  | k + 1, hk => by
    rw [growTo_succ, grows_in (by rw [growTo_len]; omega)]
    exact Or.inl (growTo_mono hS hc k (by omega))
theorem growTo_keep {h : Nat} {S : List Bool} (hS : S.length = g.length) {Q : Nat → Prop} (hQ : ∀ a b : Nat, Way g (-1) a → edgeB g a b = true → b ≠ h → Q b → Q a) (h0 : ∀ c, In S c → Q c) : ∀ k, k ≤ g.length → ∀ c, In (growTo g h S k) c → Q c
  | 0, _, c, hc => h0 c hc
  | k + 1, hk, c, hc => by
    rw [growTo_succ, grows_in (by rw [growTo_len]; omega)] at hc
    rcases hc with hc | ⟨e, hw, b, he, hne, hb⟩
    · exact growTo_keep hS hQ h0 k (by omega) c hc
    · rw [e]; exact hQ _ b hw he hne (growTo_keep hS hQ h0 k (by omega) b hb)
def closedR (g : List (List Int)) (h : Nat) (S : List Bool) : Prop := ∀ a b : Nat, Way g (-1) a → edgeB g a b = true → b ≠ h → In S b → In S a
theorem rounds_grow {h : Nat} (hh : h < g.length) : ∀ k, closedR g h (rounds g h k) ∨ k + 1 ≤ ((List.range g.length).filter fun i => (rounds g h k).getD i false).length
  | 0 => by
    right
    have hin : In (rounds g h 0) h := by
      show In (List.set _ _ _) _
      rw [Int.toNat_natCast]
      exact (in_set (by rw [hitTo_len]; exact hh)).2 (Or.inr rfl)
    exact List.length_pos_of_mem (List.mem_filter.2 ⟨List.mem_range.2 hh, hin⟩)
  | k + 1 => by
    have hl := rounds_len g (h : Int) k
    by_cases hc : closedR g h (rounds g h k)
    · left
      intro a b hw he hne hb
      have hb' : In (rounds g h k) b := growTo_keep hl (Q := In (rounds g h k)) hc (fun c hc => hc) _ (Nat.le_refl _) b hb
      exact growTo_mono hl (hc a b hw he hne hb') _ (Nat.le_refl _)
    · right
      have hk := (rounds_grow hh k).resolve_left hc
      have hex : ∃ a b : Nat, Way g (-1) a ∧ edgeB g a b = true ∧ b ≠ h ∧ In (rounds g h k) b ∧ ¬ In (rounds g h k) a := by
        refine Classical.byContradiction fun hno => hc fun a b hw he hne hb => ?_
        exact Classical.byContradiction fun hna => hno ⟨a, b, hw, he, hne, hb, hna⟩
      obtain ⟨a, b, hw, he, hne, hb, hna⟩ := hex
      have hal := (edge_lt he).1
      have hin : In (rounds g h (k + 1)) a := by
        have key : ∀ j, j ≤ g.length → a < j → In (growTo g h (rounds g h k) j) a := by
          intro j
          induction j with
          | zero => intro _ h; omega
          | succ j ih =>
            intro hj haj
            rw [growTo_succ, grows_in (by rw [growTo_len]; omega)]
            by_cases e : a = j
            · subst e
              exact Or.inr ⟨rfl, hw, b, he, hne, growTo_mono hl hb _ (by omega)⟩
            · exact Or.inl (ih (by omega) (by omega))
        exact key _ (Nat.le_refl _) hal
      have := count_lt (p := fun i => (rounds g h k).getD i false) (q := fun i => (rounds g h (k + 1)).getD i false) g.length (fun i _ hi => growTo_mono hl hi _ (Nat.le_refl _)) ⟨a, hal, Bool.eq_false_iff.2 hna, hin⟩
      omega
theorem hit_is {h a : Nat} : hit g h a = true ↔ edgeB g a h = true ∧ domB g (h : Nat) (a : Nat) = true := by unfold hit; rw [Bool.and_eq_true]
theorem hitTo_in {h : Nat} {c : Nat} : ∀ k, k ≤ g.length → (In (hitTo g h k) c ↔ c < k ∧ hit g h c = true)
  | 0, _ => ⟨fun k => absurd k not_in_rep, fun k => absurd k.1 (Nat.not_lt_zero _)⟩
  | k + 1, hk => by
    rw [hitTo_succ]
    unfold hitAt
    by_cases hc : hit g h k = true
    · rw [if_pos hc, in_set (by rw [hitTo_len]; omega), hitTo_in k (by omega)]
      exact ⟨fun j => j.elim (fun j => ⟨by omega, j.2⟩) (fun j => ⟨by omega, by rw [j]; exact hc⟩), fun j => by
        by_cases e : c = k
        · exact Or.inr e
        · exact Or.inl ⟨by omega, j.2⟩⟩
    · rw [if_neg hc, hitTo_in k (by omega)]
      exact ⟨fun j => ⟨by omega, j.2⟩, fun j => ⟨by
        have : c ≠ k := fun e => hc (by rw [← e]; exact j.2)
        omega, j.2⟩⟩
theorem rounds_iff {h : Nat} (hh : h < g.length) (hs : hitB g h g.length = true) {x : Nat} : In (rounds g h g.length) x ↔ Loop g h x := by
  unfold hitB at hs
  obtain ⟨s, _, hs⟩ := List.any_eq_true.1 hs
  obtain ⟨s1, s2⟩ := hit_is.1 hs
  have h0 : ∀ c, In (rounds g h 0) c ↔ hit g h c = true ∧ c < g.length ∨ c = h := by
    intro c
    show In (List.set _ _ _) _ ↔ _
    rw [Int.toNat_natCast, in_set (by rw [hitTo_len]; exact hh), hitTo_in _ (Nat.le_refl _)]
    exact or_congr ⟨fun k => ⟨k.2, k.1⟩, fun k => ⟨k.2, k.1⟩⟩ Iff.rfl
  constructor
  · have key : ∀ k, ∀ c, In (rounds g h k) c → Loop g h c := by
      intro k
      induction k with
      | zero =>
        intro c hc
        rcases (h0 c).1 hc with ⟨k, _⟩ | rfl
        · exact .src (hit_is.1 k).1 (hit_is.1 k).2
        · exact .head s1 s2
      | succ k ih => exact growTo_keep (rounds_len g (h : Int) k) (fun a b hw he hne hb => .step hw he hne hb) ih _ (Nat.le_refl _)
    exact key _ x
  · have hc : closedR g h (rounds g h g.length) := by
      rcases rounds_grow hh g.length with k | k
      · exact k
      · have := List.length_filter_le (fun i => (rounds g h g.length).getD i false) (List.range g.length)
        rw [List.length_range] at this; omega
    have up : ∀ k c, In (rounds g h 0) c → In (rounds g h k) c := by
      intro k c hc
      induction k with
      | zero => exact hc
      | succ k ih => exact growTo_mono (rounds_len g (h : Int) k) ih _ (Nat.le_refl _)
    intro l
    induction l with
    | src h1 h2 => exact up _ _ ((h0 _).2 (Or.inl ⟨hit_is.2 ⟨h1, h2⟩, (edge_lt h1).1⟩))
    | head h1 h2 => exact up _ _ ((h0 _).2 (Or.inr rfl))
    | step h1 h2 h3 h4 ih => exact hc _ _ h1 h2 h3 ih
theorem body_same (g : List (List Int)) (h : Int) : li (bodyN (tidyN g) h) = bodyL g h := by
  by_cases hr : h < 0 ∨ (g.length : Int) ≤ h
  · have e1 : bodyN (tidyN g) h = [] := by unfold bodyN; rw [if_pos (by rw [tidyN_len]; exact hr)]
    have e2 : bodyL g h = [] := by
      unfold bodyL
      rw [if_neg (fun k => by have := hitB_in k; omega)]
    rw [e1, e2]; rfl
  · obtain ⟨k, rfl⟩ := Int.eq_ofNat_of_zero_le (show 0 ≤ h by omega)
    have hk : k < g.length := by omega
    unfold bodyL
    by_cases hs : hitB g (k : Int) g.length = true
    · rw [if_pos hs]
      show li (bodyN (tidyN g) (k : Nat)) = outTo (rounds g (k : Nat) g.length) g.length
      rw [bodyN_is hk, li_filter]
      unfold outTo
      rw [filter_same fun i hi => ?_]
      rw [Bool.eq_iff_iff]
      exact (bodyM_iff hk).trans (rounds_iff hk hs).symm
    · rw [if_neg hs]
      have : bodyN (tidyN g) ((k : Nat) : Int) = [] := by
        rw [List.eq_nil_iff_forall_not_mem]
        intro x hx
        obtain ⟨a, h1, h2⟩ := ((mem_bodyN hk).1 hx).some
        refine hs ?_
        unfold hitB
        exact List.any_eq_true.2 ⟨a, List.mem_range.2 (edge_lt h1).1, hit_is.2 ⟨h1, h2⟩⟩
      show li (bodyN (tidyN g) ((k : Nat) : Int)) = []
      rw [this]; rfl
end
end Go.Proofs.Ythanbedmiaacdaa.Gl
/- Plain mathematics: a graph whose edges go up alone, and one with an edge back to 0. -/
namespace Go.Proofs.Ythanbedmiaacdaa.Gl
open Go.ChangeShapes Go.WideShapes Go.ChangeAt Go.RowKit Go.Proofs.Ythanbedmiaacdaa.Mem Go.Proofs.Ythanbedmiaacdaa.Gr Go.Proofs.Ythanbedmiaacdaa.Gn Go.Proofs.Ythanbedmiaacdaa.Gc
set_option linter.unusedVariables false

def treeA (n i : Nat) : List Int := if i + 1 < n then [(i : Int) + 1] else []
def treeB (s : List Int) (n i : Nat) : List Int := if i < s.length then (if (i : Int) + 1 + s.getD i 0 % (n : Int) < n then [(i : Int) + 1 + s.getD i 0 % (n : Int)] else []) else []
def treeRow (s : List Int) (n i : Nat) : List Int := treeA n i ++ treeB s n i
def treeTo (s : List Int) (n k : Nat) : List (List Int) := (List.range k).map fun i : Nat => treeRow s n i
def treeL (s : List Int) (n : Nat) : List (List Int) := treeTo s n n
def backL (s : List Int) (n : Nat) : List (List Int) := (treeL s n).set (n - 1) ((treeL s n).getD (n - 1) [] ++ [0])
theorem treeTo_succ (s : List Int) (n k : Nat) : treeTo s n (k + 1) = treeTo s n k ++ [treeRow s n k] := by
  unfold treeTo; rw [List.range_succ, List.map_append]; rfl
theorem treeTo_len (s : List Int) (n k : Nat) : (treeTo s n k).length = k := by simp [treeTo]
theorem treeL_len (s : List Int) (n : Nat) : (treeL s n).length = n := treeTo_len s n n
theorem backL_len (s : List Int) (n : Nat) : (backL s n).length = n := by unfold backL; rw [List.length_set, treeL_len]
theorem treeA_len (n i : Nat) : (treeA n i).length ≤ 1 := by unfold treeA; split <;> simp
theorem treeRow_len (s : List Int) (n i : Nat) : (treeRow s n i).length ≤ 2 := by
  unfold treeRow
  rw [List.length_append]
  have h1 := treeA_len n i
  have h2 : (treeB s n i).length ≤ 1 := by
    unfold treeB
    split
    · split <;> simp
    · simp
  omega
theorem treeL_row (s : List Int) {n i : Nat} (h : i < n) : (treeL s n).getD i [] = treeRow s n i := by
  rw [List.getD_eq_getElem?_getD]
  unfold treeL treeTo
  rw [List.getElem?_map, List.getElem?_range h]; rfl
theorem treeL_small (s : List Int) {n : Nat} (h : n ≤ 1000) : Small (treeL s n) := by
  refine ⟨by rw [treeL_len]; exact h, fun i hi => ?_⟩
  rw [treeL_len] at hi
  have e := treeL_row s hi
  rw [getD_at (by rw [treeL_len]; exact hi)] at e
  rw [e]
  have := treeRow_len s n i; omega
theorem backL_row (s : List Int) {n i : Nat} (h : i < n) : (backL s n).getD i [] = if n - 1 = i then treeRow s n i ++ [0] else treeRow s n i := by
  unfold backL
  rw [getD_set, treeL_row s h]
  by_cases e : n - 1 = i
  · subst e; rw [if_pos ⟨rfl, by rw [treeL_len]; exact h⟩, if_pos rfl, treeL_row s h]
  · rw [if_neg (fun k => e k.1), if_neg e]
theorem backL_small (s : List Int) {n : Nat} (h : n ≤ 1000) : Small (backL s n) := by
  refine ⟨by rw [backL_len]; exact h, fun i hi => ?_⟩
  rw [backL_len] at hi
  have e := backL_row s hi
  rw [getD_at (by rw [backL_len]; exact hi)] at e
  rw [e]
  have := treeRow_len s n i
  split
  · rw [List.length_append, List.length_singleton]; omega
  · omega
theorem tree_mem {s : List Int} {n i : Nat} (hn : 0 < n) {b : Nat} (h : (b : Int) ∈ treeRow s n i) : i < b := by
  unfold treeRow at h
  rcases List.mem_append.1 h with h | h
  · unfold treeA at h
    split at h
    · rw [List.mem_singleton] at h; omega
    · cases h
  · unfold treeB at h
    split at h
    · split at h
      · rw [List.mem_singleton] at h
        have := Int.emod_nonneg (s.getD i 0) (show (n : Int) ≠ 0 by omega)
        omega
      · cases h
    · cases h
theorem tree_next (s : List Int) {n i : Nat} (h : i + 1 < n) : ((i + 1 : Nat) : Int) ∈ treeRow s n i := by
  unfold treeRow treeA
  rw [if_pos h]
  exact List.mem_append_left _ (by rw [List.mem_singleton]; omega)
theorem edge_row {g : List (List Int)} {a b : Nat} : edgeB g a b = true ↔ a < g.length ∧ b < g.length ∧ (b : Int) ∈ g.getD a [] := by
  rw [edgeB_nat, Bool.and_eq_true, decide_eq_true_eq, List.contains_iff_mem, and_assoc]
theorem tree_edge {s : List Int} {n a b : Nat} (h : edgeB (treeL s n) a b = true) : a < b := by
  obtain ⟨h1, h2, h3⟩ := edge_row.1 h
  rw [treeL_len] at h1 h2
  rw [treeL_row s h1] at h3
  exact tree_mem (by omega) h3
theorem back_edge {s : List Int} {n a b : Nat} (h : edgeB (backL s n) a b = true) : a < b ∨ (a = n - 1 ∧ b = 0) := by
  obtain ⟨h1, h2, h3⟩ := edge_row.1 h
  rw [backL_len] at h1 h2
  rw [backL_row s h1] at h3
  split at h3
  · rcases List.mem_append.1 h3 with h3 | h3
    · exact Or.inl (tree_mem (by omega) h3)
    · rw [List.mem_singleton] at h3; right; omega
  · exact Or.inl (tree_mem (by omega) h3)
theorem tree_up (s : List Int) {n a : Nat} (h : a + 1 < n) : edgeB (treeL s n) a (a + 1 : Nat) = true :=
  edge_row.2 ⟨by rw [treeL_len]; omega, by rw [treeL_len]; omega, by rw [treeL_row s (by omega)]; exact tree_next s h⟩
theorem back_upw (s : List Int) {n a : Nat} (h : a + 1 < n) : edgeB (backL s n) a (a + 1 : Nat) = true :=
  edge_row.2 ⟨by rw [backL_len]; omega, by rw [backL_len]; omega, by rw [backL_row s (by omega), if_neg (by omega)]; exact tree_next s h⟩
theorem back_last (s : List Int) {n : Nat} (h : 0 < n) : edgeB (backL s n) (n - 1 : Nat) (0 : Nat) = true :=
  edge_row.2 ⟨by rw [backL_len]; omega, by rw [backL_len]; omega, by rw [backL_row s (by omega), if_pos rfl]; exact List.mem_append_right _ (by simp)⟩
section
variable {g : List (List Int)}
theorem chain_way (h0 : 0 < g.length) (hc : ∀ a, a + 1 < g.length → edgeB g a (a + 1 : Nat) = true) {gone : Int} (hg0 : gone ≠ 0) : ∀ a, a < g.length → (∀ b : Nat, b ≤ a → (b : Int) ≠ gone) → Way g gone a
  | 0, _, _ => .root h0 hg0
  | a + 1, h, hne => .step (chain_way h0 hc hg0 a (by omega) (fun b hb => hne b (by omega))) (hc a h) (hne _ (Nat.le_refl _))
theorem chain_all (hc : ∀ a, a + 1 < g.length → edgeB g a (a + 1 : Nat) = true) {a : Nat} (h : a < g.length) : Way g (-1) a := chain_way (by omega) hc (by decide) a h (fun b _ => by omega)
theorem chain_dom (hc : ∀ a, a + 1 < g.length → edgeB g a (a + 1 : Nat) = true) {a b : Nat} (h : a < b) (hb : b < g.length) : domB g (b : Nat) (a : Nat) = false := by
  rcases hd : domB g (b : Nat) (a : Nat) with _ | _
  · rfl
  · rcases (domB_iff.1 hd).2.2 with e | e
    · omega
    · exact absurd (chain_way (gone := (b : Int)) (by omega) hc (by omega) a (by omega) (fun c hc => by omega)) e
theorem no_way {b : Nat} : ¬ Way g ((0 : Nat) : Int) b := by
  intro h
  induction h with
  | root _ h => exact h rfl
  | step _ _ _ ih => exact ih
theorem zero_dom (hc : ∀ a, a + 1 < g.length → edgeB g a (a + 1 : Nat) = true) {a : Nat} (h : a < g.length) : domB g ((0 : Nat) : Int) (a : Nat) = true :=
  domB_iff.2 ⟨chain_all hc (by omega), chain_all hc h, Or.inr no_way⟩
end
theorem tree_chain (s : List Int) (n : Nat) : ∀ a, a + 1 < (treeL s n).length → edgeB (treeL s n) a (a + 1 : Nat) = true := fun a h => tree_up s (by rw [treeL_len] at h; exact h)
theorem back_chain (s : List Int) (n : Nat) : ∀ a, a + 1 < (backL s n).length → edgeB (backL s n) a (a + 1 : Nat) = true := fun a h => back_upw s (by rw [backL_len] at h; exact h)
theorem tree_red (s : List Int) (n : Nat) : reducibleN (tidyN (treeL s n)) = true := red_iff.2 ⟨fun a => a, fun a b h => tree_edge h.1⟩
theorem back_red (s : List Int) (n : Nat) : reducibleN (tidyN (backL s n)) = true := red_iff.2 ⟨fun a => a, fun a b h => by
  rcases back_edge h.1 with k | ⟨rfl, rfl⟩
  · exact k
  · have h1 := (edge_lt h.1).1
    have := zero_dom (back_chain s n) h1
    rw [h.2.2] at this; cases this⟩
theorem tree_head (s : List Int) (n : Nat) : headersN (tidyN (treeL s n)) = [] := by
  have e : li (headersN (tidyN (treeL s n))) = [] := by
    rw [headers_same]
    unfold headersL headersTo
    rw [filter_same (q := fun _ => false) fun h hh => ?_]
    · simp
    · unfold backTo
      rw [List.any_eq_false]
      intro a ha hh2
      rw [Bool.and_eq_true] at hh2
      have k := tree_edge hh2.1
      rw [chain_dom (tree_chain s n) k hh] at hh2
      exact absurd hh2.2 (by decide)
  unfold li at e
  exact List.map_eq_nil_iff.1 e
theorem back_head (s : List Int) {n : Nat} (hn : 0 < n) : li (headersN (tidyN (backL s n))) = [0] := by
  rw [headers_same]
  unfold headersL headersTo
  rw [filter_same (q := fun x => x == 0) fun h hh => ?_]
  · rw [filter_one List.pairwise_lt_range, if_pos (List.mem_range.2 (by rw [backL_len]; exact hn))]; rfl
  · rw [Bool.eq_iff_iff, beq_iff_eq]
    unfold backTo
    rw [List.any_eq_true]
    constructor
    · rintro ⟨a, ha, hh2⟩
      rw [Bool.and_eq_true] at hh2
      rcases back_edge hh2.1 with k | ⟨_, k⟩
      · rw [chain_dom (back_chain s n) k hh] at hh2
        exact absurd hh2.2 (by decide)
      · exact k
    · rintro rfl
      refine ⟨n - 1, List.mem_range.2 (by rw [backL_len]; omega), ?_⟩
      rw [Bool.and_eq_true]
      exact ⟨back_last s hn, zero_dom (back_chain s n) (by rw [backL_len]; omega)⟩
theorem back_body (s : List Int) {n : Nat} (hn : 0 < n) : (bodyN (tidyN (backL s n)) 0).length = n := by
  have h0 : 0 < (backL s n).length := by rw [backL_len]; exact hn
  have all : ∀ d x, d + x = n - 1 → Loop (backL s n) 0 x := by
    intro d
    induction d with
    | zero => intro x hx; rw [show x = n - 1 by omega]; exact .src (back_last s hn) (zero_dom (back_chain s n) (by rw [backL_len]; omega))
    | succ d ih =>
      intro x hx
      exact .step (b := x + 1) (chain_all (back_chain s n) (by rw [backL_len]; omega)) (back_chain s n x (by rw [backL_len]; omega)) (by omega) (ih (x + 1) (by omega))
  have e : bodyN (tidyN (backL s n)) ((0 : Nat) : Int) = List.range n := by
    rw [bodyN_is h0, filter_same (q := fun _ => true) fun x hx => ?_]
    · rw [List.filter_eq_self.2 (fun _ _ => rfl), backL_len]
    · rw [backL_len] at hx
      exact (bodyM_iff h0).2 (all (n - 1 - x) x (by omega))
  show (bodyN (tidyN (backL s n)) ((0 : Nat) : Int)).length = n
  rw [e, List.length_range]
end Go.Proofs.Ythanbedmiaacdaa.Gl
/- Plain mathematics: a block put on an edge changes nothing of who dominates whom. -/
namespace Go.Proofs.Ythanbedmiaacdaa.Gl
open Go.ChangeShapes Go.WideShapes Go.ChangeAt Go.RowKit Go.Proofs.Ythanbedmiaacdaa.Mem Go.Proofs.Ythanbedmiaacdaa.Gr Go.Proofs.Ythanbedmiaacdaa.Gn Go.Proofs.Ythanbedmiaacdaa.Gc
set_option linter.unusedVariables false

def putRow (g : List (List Int)) (a b i : Nat) : List Int := (g.getD i []).map fun x => if i = a ∧ x = (b : Int) then (g.length : Int) else x
def putTo (g : List (List Int)) (a b k : Nat) : List (List Int) := (List.range k).map fun i => putRow g a b i
def putL (g : List (List Int)) (a b : Nat) : List (List Int) := putTo g a b g.length ++ [[(b : Int)]]
theorem putTo_succ (g : List (List Int)) (a b k : Nat) : putTo g a b (k + 1) = putTo g a b k ++ [putRow g a b k] := by
  unfold putTo; rw [List.range_succ, List.map_append]; rfl
theorem putTo_len (g : List (List Int)) (a b k : Nat) : (putTo g a b k).length = k := by simp [putTo]
theorem putL_len (g : List (List Int)) (a b : Nat) : (putL g a b).length = g.length + 1 := by unfold putL; rw [List.length_append, putTo_len]; rfl
theorem putL_row {g : List (List Int)} {a b i : Nat} (h : i < g.length) : (putL g a b).getD i [] = putRow g a b i := by
  unfold putL
  rw [getD_append_left _ (by rw [putTo_len]; exact h), List.getD_eq_getElem?_getD]
  unfold putTo
  rw [List.getElem?_map, List.getElem?_range h]; rfl
theorem putL_last (g : List (List Int)) (a b : Nat) : (putL g a b).getD g.length [] = [(b : Int)] := by
  unfold putL
  rw [List.getD_eq_getElem?_getD, List.getElem?_append_right (by rw [putTo_len]; exact Nat.le_refl _), putTo_len, Nat.sub_self]; rfl
/-- An edge, in a graph that goes nowhere else. -/
structure Put (g : List (List Int)) (a b : Nat) : Prop where
  edge : edgeB g a b = true
  out : ∀ i, ∀ x ∈ g.getD i [], x < (g.length : Int)
section
variable {g : List (List Int)} {a b : Nat}
theorem Put.lt (p : Put g a b) : a < g.length ∧ b < g.length := edge_lt p.edge
theorem put_edge (p : Put g a b) {x y : Nat} (hx : x < g.length) (hy : y < g.length) : edgeB (putL g a b) x y = true ↔ edgeB g x y = true ∧ ¬ (x = a ∧ y = b) := by
  rw [edge_row, edge_row, putL_len, putL_row hx]
  unfold putRow
  rw [List.mem_map]
  constructor
  · rintro ⟨_, _, z, hz, e⟩
    split at e
    · omega
    · rename_i hn
      subst e
      exact ⟨⟨hx, hy, hz⟩, fun h => hn ⟨h.1, by rw [h.2]⟩⟩
  · rintro ⟨⟨_, _, hz⟩, hn⟩
    refine ⟨by omega, by omega, y, hz, ?_⟩
    rw [if_neg]
    exact fun h => hn ⟨h.1, Int.ofNat.inj h.2⟩
theorem put_to (p : Put g a b) {x : Nat} (hx : x < g.length) : edgeB (putL g a b) x (g.length : Nat) = true ↔ x = a := by
  rw [edge_row, putL_len, putL_row hx]
  unfold putRow
  rw [List.mem_map]
  constructor
  · rintro ⟨_, _, z, hz, e⟩
    split at e
    · rename_i h; exact h.1
    · have := p.out x z hz; omega
  · rintro rfl
    obtain ⟨_, _, hb⟩ := edge_row.1 p.edge
    exact ⟨by omega, by omega, _, hb, by rw [if_pos ⟨rfl, rfl⟩]⟩
theorem put_from (p : Put g a b) {y : Nat} : edgeB (putL g a b) (g.length : Nat) y = true ↔ y = b := by
  have h := p.lt
  rw [edge_row, putL_len, putL_last, List.mem_singleton]
  exact ⟨fun k => Int.ofNat.inj k.2.2, fun k => ⟨by omega, by omega, by rw [k]⟩⟩
theorem put_to2 (p : Put g a b) {x : Nat} (h : edgeB (putL g a b) x (g.length : Nat) = true) : x = a := by
  have hl := (edge_lt h).1
  rw [putL_len] at hl
  by_cases hx : x < g.length
  · exact (put_to p hx).1 h
  · obtain rfl : x = g.length := by omega
    have := (put_from p).1 h
    have := p.lt; omega
theorem way_put (p : Put g a b) {gone : Int} (hg : gone ≠ (g.length : Int)) {x : Nat} (h : Way g gone x) : Way (putL g a b) gone x := by
  induction h with
  | root h0 h1 => exact .root (by rw [putL_len]; omega) h1
  | step h1 he hne ih =>
    rename_i c d
    obtain ⟨l1, l2⟩ := edge_lt he
    by_cases e : c = a ∧ d = b
    · obtain ⟨rfl, rfl⟩ := e
      exact .step (.step ih ((put_to p l1).2 rfl) (fun h => hg h.symm)) ((put_from p).2 rfl) hne
    · exact .step ih ((put_edge p l1 l2).2 ⟨he, e⟩) hne
theorem put_way (p : Put g a b) {gone : Int} {x : Nat} (h : Way (putL g a b) gone x) : (x < g.length ∧ Way g gone x) ∨ (x = g.length ∧ Way g gone a) := by
  have hp := p.lt
  induction h with
  | root h0 h1 => exact Or.inl ⟨by omega, .root (by omega) h1⟩
  | step h1 he hne ih =>
    rename_i c d
    have hd := (edge_lt he).2
    rw [putL_len] at hd
    rcases ih with ⟨hc, hw⟩ | ⟨rfl, hw⟩
    · by_cases hdl : d < g.length
      · exact Or.inl ⟨hdl, .step hw ((put_edge p hc hdl).1 he).1 hne⟩
      · obtain rfl : d = g.length := by omega
        have := (put_to p hc).1 he
        subst this
        exact Or.inr ⟨rfl, hw⟩
    · have := (put_from p).1 he
      subst this
      exact Or.inl ⟨hp.2, .step hw p.edge hne⟩
theorem way_iff (p : Put g a b) {gone : Int} (hg : gone ≠ (g.length : Int)) {x : Nat} (hx : x < g.length) : Way (putL g a b) gone x ↔ Way g gone x :=
  ⟨fun h => (put_way p h).elim (fun k => k.2) (fun k => absurd k.1 (by omega)), way_put p hg⟩
theorem dom_put (p : Put g a b) {x y : Nat} (hx : x < g.length) (hy : y < g.length) : domB (putL g a b) (x : Nat) (y : Nat) = domB g (x : Nat) (y : Nat) := by
  rw [Bool.eq_iff_iff, domB_iff, domB_iff, way_iff p (by omega) hx, way_iff p (by omega) hy, way_iff p (by omega) hy]
theorem way_new (p : Put g a b) {gone : Int} (hg : gone ≠ (g.length : Int)) : Way (putL g a b) gone g.length ↔ Way g gone a :=
  ⟨fun h => (put_way p h).elim (fun k => absurd k.1 (by omega)) (fun k => k.2), fun h => .step (way_put p hg h) ((put_to p p.lt.1).2 rfl) (fun h => hg h.symm)⟩
theorem dom_new (p : Put g a b) : domB (putL g a b) (b : Nat) (g.length : Nat) = domB g (b : Nat) (a : Nat) := by
  obtain ⟨la, lb⟩ := p.lt
  rw [Bool.eq_iff_iff, domB_iff, domB_iff, way_iff p (by omega) lb, way_new p (by omega), way_new p (by omega)]
  refine and_congr Iff.rfl (and_congr Iff.rfl ⟨fun h => h.elim (fun k => by omega) Or.inr, fun h => h.elim (fun k => ?_) Or.inr⟩)
  right
  intro hw
  have : b = a := by omega
  exact hw.ne (by rw [this])
theorem way_past (p : Put g a b) {x : Nat} (h : Way (putL g a b) (-1) x) : Way (putL g a b) (g.length : Nat) a ∨ (x ≠ g.length ∧ Way (putL g a b) (g.length : Nat) x) := by
  have hp := p.lt
  induction h with
  | root h0 h1 => exact Or.inr ⟨by omega, .root h0 (by omega)⟩
  | step h1 he hne ih =>
    rename_i c d
    rcases ih with k | ⟨k1, k2⟩
    · exact Or.inl k
    · by_cases hd : d = g.length
      · subst hd
        have := put_to2 p he
        subst this
        exact Or.inl k2
      · exact Or.inr ⟨hd, .step k2 he (by omega)⟩
theorem new_dom (p : Put g a b) : domB (putL g a b) (g.length : Nat) (a : Nat) = false := by
  have hp := p.lt
  rcases hd : domB (putL g a b) (g.length : Nat) (a : Nat) with _ | _
  · rfl
  · obtain ⟨_, w2, w3⟩ := domB_iff.1 hd
    rcases w3 with e | e
    · omega
    · rcases way_past p w2 with k | k
      · exact absurd k e
      · exact absurd k.2 e
theorem red_put (p : Put g a b) : reducibleN (tidyN g) = reducibleN (tidyN (putL g a b)) := by
  obtain ⟨la, lb⟩ := p.lt
  have hw := fun {x : Nat} (hx : x < g.length) => way_iff (x := x) p (gone := -1) (by omega) hx
  rw [Bool.eq_iff_iff, red_iff, red_iff]
  constructor
  · rintro ⟨r, hr⟩
    refine ⟨fun x => if x = g.length then 2 * r a + 1 else 2 * r x, fun x y hf => ?_⟩
    obtain ⟨he, hwx, hd⟩ := hf
    obtain ⟨l1, l2⟩ := edge_lt he
    rw [putL_len] at l1 l2
    show (if x = g.length then _ else _) < (if y = g.length then _ else _)
    by_cases hx : x = g.length
    · subst hx
      have := (put_from p).1 he
      subst this
      rw [dom_new p] at hd
      have hr2 := hr a y ⟨p.edge, (way_new p (by omega)).1 hwx, hd⟩
      rw [if_pos rfl, if_neg (by omega)]; omega
    · by_cases hy : y = g.length
      · subst hy
        have := (put_to p (by omega)).1 he
        subst this
        rw [if_neg hx, if_pos rfl]; omega
      · rw [if_neg hx, if_neg hy]
        rw [dom_put p (by omega) (by omega)] at hd
        have := hr x y ⟨((put_edge p (by omega) (by omega)).1 he).1, (hw (by omega)).1 hwx, hd⟩
        omega
  · rintro ⟨r, hr⟩
    refine ⟨r, fun x y hf => ?_⟩
    obtain ⟨he, hwx, hd⟩ := hf
    obtain ⟨l1, l2⟩ := edge_lt he
    by_cases e : x = a ∧ y = b
    · obtain ⟨rfl, rfl⟩ := e
      have h1 := hr x g.length ⟨(put_to p la).2 rfl, (hw la).2 hwx, new_dom p⟩
      have h2 := hr g.length y ⟨(put_from p).2 rfl, (way_new p (by omega)).2 hwx, by rw [dom_new p]; exact hd⟩
      omega
    · exact hr x y ⟨(put_edge p l1 l2).2 ⟨he, e⟩, (hw l1).2 hwx, by rw [dom_put p l2 l1]; exact hd⟩
theorem one_len {l : List Nat} (hp : l.Pairwise (· < ·)) {c : Nat} (h : ∀ x ∈ l, x = c) : l.length ≤ 1 := by
  match l, hp, h with
  | [], _, _ => exact Nat.zero_le _
  | [_], _, _ => exact Nat.le_refl _
  | x :: y :: l, hp, h =>
    have h1 := h x List.mem_cons_self
    have h2 := h y (List.mem_cons_of_mem _ List.mem_cons_self)
    have h3 := (List.pairwise_cons.1 hp).1 y List.mem_cons_self
    omega
theorem crit_put (p : Put g a b) {e : Nat × Nat} (he : e ∈ criticalN (tidyN (putL g a b))) : e.1 ≠ g.length ∧ e.2 ≠ g.length := by
  have hT := tidyN_neat (putL g a b)
  obtain ⟨h1, h2⟩ := List.mem_filter.1 he
  rw [Bool.and_eq_true, decide_eq_true_eq, decide_eq_true_eq] at h2
  constructor
  · intro e1
    have := one_len (hT.row e.1).1 (c := b) (fun x hx => by
      have := edge_T.2 hx
      rw [e1] at this
      exact (put_from p).1 this)
    omega
  · intro e2
    have := one_len ((turnN_neat hT).row e.2).1 (c := a) (fun x hx => by
      have := pred_edge.1 hx
      rw [e2] at this
      exact put_to2 p this)
    omega
theorem dominates_put (p : Put g a b) {x y : Nat} (hx : x < g.length) (hy : y < g.length) : dominatesN (idomN (tidyN g)) (x : Nat) (y : Nat) = dominatesN (idomN (tidyN (putL g a b))) (x : Nat) (y : Nat) := by
  have h0 : 0 < g.length := by omega
  have h0' : 0 < (putL g a b).length := by rw [putL_len]; omega
  have wx := way_iff (x := x) p (gone := -1) (by omega) hx
  have wy := way_iff (x := y) p (gone := -1) (by omega) hy
  by_cases hr : Way g (-1) x ∧ Way g (-1) y
  · rw [dominates_dom h0 hr.1 hr.2, dominates_dom h0' (wx.2 hr.1) (wy.2 hr.2), dom_put p hx hy]
  · by_cases e : x = y
    · subst e
      rw [dominates_self ⟨by omega, by rw [idom_len]; omega⟩, dominates_self ⟨by omega, by rw [idom_len, putL_len]; omega⟩]
    · have hr1 : ¬ Way g (-1) x ∨ ¬ Way g (-1) y := by
        by_cases k : Way g (-1) x
        · exact Or.inr fun k2 => hr ⟨k, k2⟩
        · exact Or.inl k
      rw [dominates_out h0 hx hy e hr1, dominates_out h0' (by rw [putL_len]; omega) (by rw [putL_len]; omega) e (hr1.imp (fun k k2 => k (wx.1 k2)) (fun k k2 => k (wy.1 k2)))]
end
end Go.Proofs.Ythanbedmiaacdaa.Gl
