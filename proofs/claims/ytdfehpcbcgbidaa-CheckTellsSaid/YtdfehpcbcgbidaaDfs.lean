/- A walk through a graph, depth first: who stands above whom. Plain mathematics. -/
import Derived.Test.YtdfehpcbcgbidaaVisitP
import Derived.Test.YtdfehpcbcgbidaaClimbP
namespace Go.Proofs.Ytdfehpcbcgbidaa.Gn
open Go.Proofs.Ytdfehpcbcgbidaa.Gc
set_option linter.unusedVariables false

/-- x is y, or stands above it. -/
inductive Anc (u : List Int) : Nat → Nat → Prop
  | refl (x : Nat) : Anc u x x
  | step {x y z : Nat} : u.getD y (-1) = (z : Int) → Anc u x z → Anc u x y
theorem Anc.trans {u : List Int} {x y z : Nat} (h : Anc u x y) (k : Anc u y z) : Anc u x z := by
  induction k with
  | refl => exact h
  | step e _ ih => exact .step e ih
theorem getD_lt {u : List Int} {i : Nat} (h : u.getD i (-1) ≠ -1) : i < u.length := by
  by_cases hi : i < u.length
  · exact hi
  · rw [List.getD_eq_getElem?_getD, List.getElem?_eq_none (by omega)] at h; exact absurd rfl h
theorem ups_lt {u : List Int} (hu : Ups u) {y z : Nat} (e : u.getD y (-1) = (z : Int)) : z < y := by
  have h1 := getD_lt (u := u) (i := y) (by rw [e]; omega)
  have := hu y h1
  omega
theorem Anc.le {u : List Int} (hu : Ups u) {x y : Nat} (h : Anc u x y) : x ≤ y := by
  induction h with
  | refl => exact Nat.le_refl _
  | step e _ ih => have := ups_lt hu e; omega
theorem getD_append_left {α : Type} {l r : List α} {i : Nat} (d : α) (h : i < l.length) : (l ++ r).getD i d = l.getD i d := by
  rw [List.getD_eq_getElem?_getD, List.getD_eq_getElem?_getD, List.getElem?_append_left h]
theorem Anc.append {u : List Int} (v : List Int) {x y : Nat} (h : Anc u x y) : Anc (u ++ v) x y := by
  induction h with
  | refl => exact .refl _
  | step e _ ih =>
    have h1 := getD_lt (u := u) (by rw [e]; omega)
    exact .step (by rw [getD_append_left _ h1]; exact e) ih
theorem Anc.of_append {u v : List Int} (hu : Ups (u ++ v)) {x y : Nat} (h : Anc (u ++ v) x y) (hy : y < u.length) : Anc u x y := by
  induction h with
  | refl => exact .refl _
  | step e _ ih =>
    have h2 := ups_lt hu e
    rw [getD_append_left _ hy] at e
    exact .step e (ih (by omega))
/-- What is known of a walk at any time. -/
structure Know (T : G) (s : St) : Prop where
  inv : Inv T.length s
  came : ∀ i, i < s.came.length → s.came.getD i 0 < T.length ∧ s.number.getD (s.came.getD i 0) (-1) = (i : Int)
  number : ∀ b, b < T.length → s.number.getD b (-1) = -1 ∨ ∃ i : Nat, i < s.came.length ∧ s.number.getD b (-1) = (i : Int) ∧ s.came.getD i 0 = b
  ups : Ups s.parent
  low : ∀ i, -1 ≤ s.parent.getD i (-1)
theorem number_zero {T : G} {s : St} (h : Inv T.length s) {b : Nat} (hb : b < T.length) : s.number.getD b 0 = s.number.getD b (-1) := by
  rw [List.getD_eq_getElem?_getD, List.getD_eq_getElem?_getD, List.getElem?_eq_getElem (by rw [h.number]; exact hb)]; rfl
theorem Know.out {T : G} {s : St} (h : Know T s) {b : Nat} (hb : ¬ b < T.length) : s.number.getD b (-1) = -1 := by
  rw [List.getD_eq_getElem?_getD, List.getElem?_eq_none (by rw [h.inv.number]; omega)]; rfl
theorem Know.at {T : G} {s : St} (h : Know T s) {b : Nat} (hb : s.number.getD b (-1) ≠ -1) : b < T.length ∧ ∃ i : Nat, i < s.came.length ∧ s.number.getD b (-1) = (i : Int) ∧ s.came.getD i 0 = b := by
  by_cases hl : b < T.length
  · exact ⟨hl, (h.number b hl).resolve_left hb⟩
  · exact absurd (h.out hl) hb
theorem Know.inj {T : G} {s : St} (h : Know T s) {i j : Nat} (hi : i < s.came.length) (hj : j < s.came.length) (e : s.came.getD i 0 = s.came.getD j 0) : i = j := by
  have h1 := (h.came i hi).2
  have h2 := (h.came j hj).2
  rw [e] at h1
  omega
theorem Know.enter {T : G} {s : St} {b : Nat} {p : Int} (h : Know T s) (hb : b < T.length) (h0 : s.number.getD b (-1) = -1) (hp : p < s.came.length) (hp1 : -1 ≤ p) : Know T (s.enter b p) := by
  have hc : (s.enter b p).came.length = s.came.length + 1 := by unfold St.enter; simp
  have hI := h.inv.enter (p := p) hb (by rw [number_zero h.inv hb]; exact h0)
  have hbn : b < s.number.length := by rw [h.inv.number]; exact hb
  have hnum : ∀ c, (s.enter b p).number.getD c (-1) = if b = c then (s.came.length : Int) else s.number.getD c (-1) := by
    intro c
    show (s.number.set b _).getD c (-1) = _
    rw [getD_set]
    by_cases e : b = c
    · rw [if_pos ⟨e, hbn⟩, if_pos e]
    · rw [if_neg (fun h => e h.1), if_neg e]
  have hold : ∀ i, i < s.came.length → (s.enter b p).came.getD i 0 = s.came.getD i 0 := fun i hi => getD_append_left 0 hi
  have hnew : (s.enter b p).came.getD s.came.length 0 = b := by
    show (s.came ++ [b]).getD _ 0 = b
    rw [List.getD_eq_getElem?_getD, List.getElem?_append_right (Nat.le_refl _), Nat.sub_self]; rfl
  refine ⟨hI, ?_, ?_, ?_, ?_⟩
  · intro i hi
    rw [hc] at hi
    by_cases e : i = s.came.length
    · subst e
      rw [hnew]
      exact ⟨hb, by rw [hnum, if_pos rfl]⟩
    · have hi2 : i < s.came.length := by omega
      rw [hold i hi2]
      obtain ⟨h1, h2⟩ := h.came i hi2
      refine ⟨h1, ?_⟩
      rw [hnum]
      by_cases e2 : b = s.came.getD i 0
      · rw [← e2, h0] at h2; omega
      · rw [if_neg e2]; exact h2
  · intro c hcl
    rw [hnum]
    by_cases e : b = c
    · rw [if_pos e]
      exact Or.inr ⟨s.came.length, by omega, rfl, by rw [hnew]; exact e⟩
    · rw [if_neg e]
      rcases h.number c hcl with h1 | ⟨i, hi, h1, h2⟩
      · exact Or.inl h1
      · exact Or.inr ⟨i, by omega, h1, by rw [hold i hi]; exact h2⟩
  · intro i hi
    show (s.parent ++ [p]).getD i (-1) < i
    have hl : (s.enter b p).parent.length = s.parent.length + 1 := by unfold St.enter; simp
    rw [hl] at hi
    by_cases e : i = s.parent.length
    · subst e
      rw [List.getD_eq_getElem?_getD, List.getElem?_append_right (Nat.le_refl _), Nat.sub_self]
      show p < _
      rw [h.inv.parent]; exact hp
    · rw [getD_append_left _ (by omega)]
      exact h.ups i (by omega)
  · intro i
    show -1 ≤ (s.parent ++ [p]).getD i (-1)
    by_cases e : i < s.parent.length
    · rw [getD_append_left _ e]; exact h.low i
    · rw [List.getD_eq_getElem?_getD, List.getElem?_append_right (by omega)]
      by_cases e2 : i - s.parent.length = 0
      · rw [e2]; exact hp1
      · rw [List.getElem?_eq_none (by simp; omega)]; exact Int.le_refl _
theorem Know.leave {T : G} {s : St} {b : Nat} (h : Know T s) (hl : s.left.length < s.came.length) : Know T (s.leave b) := ⟨h.inv.leave hl, h.came, h.number, h.ups, h.low⟩
/-- x may be left before y. -/
def Before (s : St) (x y : Nat) : Prop := ∃ i j : Nat, s.number.getD x (-1) = (i : Int) ∧ s.number.getD y (-1) = (j : Int) ∧ i ≠ j ∧ (j < i → Anc s.parent j i) ∧ (i < j → ¬ Anc s.parent i j)
/-- Whole trees that were gone over, below p. -/
structure Forest (T : G) (p : Int) (s s' : St) : Prop where
  know : Know T s'
  came : ∃ c, s'.came = s.came ++ c
  par : ∃ q, s'.parent = s.parent ++ q
  num : ∀ b, s.number.getD b (-1) ≠ -1 → s'.number.getD b (-1) = s.number.getD b (-1)
  up : ∀ i, s.came.length ≤ i → i < s'.came.length → s'.parent.getD i (-1) = p ∨ (s.came.length : Int) ≤ s'.parent.getD i (-1)
  edge : ∀ i, s.came.length ≤ i → i < s'.came.length → ∀ q : Nat, s'.parent.getD i (-1) = (q : Int) → s'.came.getD i 0 ∈ T.getD (s'.came.getD q 0) []
  prev : ∀ i, s.came.length ≤ i → i < s'.came.length → ∀ q : Nat, s'.parent.getD i (-1) = (q : Int) → Anc s'.parent q (i - 1)
  last : ∀ q : Nat, p = (q : Int) → Anc s'.parent q (s'.came.length - 1)
  goes : ∀ i, s.came.length ≤ i → i < s'.came.length → ∀ c ∈ T.getD (s'.came.getD i 0) [], ∃ j : Nat, s'.number.getD c (-1) = (j : Int) ∧ (i < j → Anc s'.parent i j)
  left : ∃ l, s'.left = s.left ++ l ∧ (∀ b, b ∈ l ↔ ∃ i, s.came.length ≤ i ∧ i < s'.came.length ∧ s'.came.getD i 0 = b) ∧ l.Pairwise (Before s')
theorem Forest.refl {T : G} {p : Int} {s : St} (h : Know T s) (hl : ∀ q : Nat, p = (q : Int) → Anc s.parent q (s.came.length - 1)) : Forest T p s s :=
  ⟨h, ⟨[], (List.append_nil _).symm⟩, ⟨[], (List.append_nil _).symm⟩, fun _ _ => rfl, fun _ _ _ => by omega, fun _ _ _ => by omega, fun _ _ _ => by omega, hl, fun _ _ _ => by omega,
    ⟨[], (List.append_nil _).symm, fun b => ⟨fun h => by simp at h, fun ⟨i, h1, h2, _⟩ => by omega⟩, List.Pairwise.nil⟩⟩
theorem Forest.size {T : G} {p : Int} {s s' : St} (h : Forest T p s s') : s.came.length ≤ s'.came.length := by
  obtain ⟨c, e⟩ := h.came
  rw [e, List.length_append]; omega
theorem Forest.cameOld {T : G} {p : Int} {s s' : St} (h : Forest T p s s') {i : Nat} (hi : i < s.came.length) : s'.came.getD i 0 = s.came.getD i 0 := by
  obtain ⟨c, e⟩ := h.came
  rw [e, getD_append_left 0 hi]
theorem Forest.parOld {T : G} {p : Int} {s s' : St} (h : Forest T p s s') {i : Nat} (hi : i < s.parent.length) : s'.parent.getD i (-1) = s.parent.getD i (-1) := by
  obtain ⟨c, e⟩ := h.par
  rw [e, getD_append_left _ hi]
theorem Forest.anc {T : G} {p : Int} {s s' : St} (h : Forest T p s s') {i j : Nat} (ha : Anc s.parent i j) : Anc s'.parent i j := by
  obtain ⟨c, e⟩ := h.par
  rw [e]; exact ha.append c
theorem Forest.ancOld {T : G} {p : Int} {s s' : St} (h : Forest T p s s') {i j : Nat} (ha : Anc s'.parent i j) (hj : j < s.parent.length) : Anc s.parent i j := by
  obtain ⟨c, e⟩ := h.par
  have hu := h.know.ups
  rw [e] at ha hu
  exact ha.of_append hu hj
theorem Forest.before {T : G} {p : Int} {s s' : St} (h : Forest T p s s') (hI : Know T s) {x y : Nat} (hb : Before s x y) : Before s' x y := by
  obtain ⟨i, j, h1, h2, h3, h4, h5⟩ := hb
  refine ⟨i, j, by rw [h.num x (by rw [h1]; omega), h1], by rw [h.num y (by rw [h2]; omega), h2], h3, fun hl => h.anc (h4 hl), fun hl ha => h5 hl (h.ancOld ha ?_)⟩
  obtain ⟨_, k, hk, e, _⟩ := hI.at (b := y) (by rw [h2]; omega)
  rw [h2] at e
  rw [hI.inv.parent]
  omega
/-- Nobody of before stands above those who came later, but p and who stands above it. -/
theorem Forest.apart {T : G} {p : Int} {s s' : St} (h : Forest T p s s') {i : Nat} (hi : i < s.came.length) (hp : p < i) : ∀ {j : Nat}, s.came.length ≤ j → j < s'.came.length → ¬ Anc s'.parent i j := by
  intro j h1 h2 ha
  induction ha with
  | refl => omega
  | step e ha ih =>
    rename_i y z
    have h3 := ups_lt h.know.ups e
    rcases h.up y h1 h2 with h4 | h4
    · have := ha.le h.know.ups
      rw [e] at h4
      omega
    · rw [e] at h4
      exact ih (by omega) (by omega)
theorem Forest.trans {T : G} {p : Int} {a b c : St} (h : Forest T p a b) (k : Forest T p b c) (ha : Know T a) (hp : p < a.came.length) : Forest T p a c := by
  have hs := h.size
  have ks := k.size
  have hbp := h.know.inv.parent
  refine ⟨k.know, ?_, ?_, ?_, ?_, ?_, ?_, k.last, ?_, ?_⟩
  · obtain ⟨x, e⟩ := h.came; obtain ⟨y, f⟩ := k.came
    exact ⟨x ++ y, by rw [f, e, List.append_assoc]⟩
  · obtain ⟨x, e⟩ := h.par; obtain ⟨y, f⟩ := k.par
    exact ⟨x ++ y, by rw [f, e, List.append_assoc]⟩
  · intro x hx
    rw [k.num x (by rw [h.num x hx]; exact hx), h.num x hx]
  · intro i h1 h2
    by_cases hi : i < b.came.length
    · rw [k.parOld (by rw [hbp]; exact hi)]
      exact h.up i h1 hi
    · rcases k.up i (by omega) h2 with h3 | h3
      · exact Or.inl h3
      · exact Or.inr (by omega)
  · intro i h1 h2 q hq
    by_cases hi : i < b.came.length
    · rw [k.parOld (by rw [hbp]; exact hi)] at hq
      have hql := ups_lt h.know.ups hq
      rw [k.cameOld hi, k.cameOld (by omega)]
      exact h.edge i h1 hi q hq
    · exact k.edge i (by omega) h2 q hq
  · intro i h1 h2 q hq
    by_cases hi : i < b.came.length
    · rw [k.parOld (by rw [hbp]; exact hi)] at hq
      exact k.anc (h.prev i h1 hi q hq)
    · exact k.prev i (by omega) h2 q hq
  · intro i h1 h2 x hx
    by_cases hi : i < b.came.length
    · rw [k.cameOld hi] at hx
      obtain ⟨j, h3, h4⟩ := h.goes i h1 hi x hx
      exact ⟨j, by rw [k.num x (by rw [h3]; omega), h3], fun hl => k.anc (h4 hl)⟩
    · exact k.goes i (by omega) h2 x hx
  · obtain ⟨l, e1, m1, w1⟩ := h.left
    obtain ⟨r, e2, m2, w2⟩ := k.left
    refine ⟨l ++ r, by rw [e2, e1, List.append_assoc], ?_, ?_⟩
    · intro x
      rw [List.mem_append, m1, m2]
      constructor
      · rintro (⟨i, h1, h2, h3⟩ | ⟨i, h1, h2, h3⟩)
        · exact ⟨i, h1, by omega, by rw [k.cameOld h2]; exact h3⟩
        · exact ⟨i, by omega, h2, h3⟩
      · rintro ⟨i, h1, h2, h3⟩
        by_cases hi : i < b.came.length
        · exact Or.inl ⟨i, h1, hi, by rw [← k.cameOld hi]; exact h3⟩
        · exact Or.inr ⟨i, by omega, h2, h3⟩
    · rw [List.pairwise_append]
      refine ⟨w1.imp (fun hb => k.before h.know hb), w2, ?_⟩
      intro x hx y hy
      obtain ⟨i, h1, h2, h3⟩ := (m1 x).1 hx
      obtain ⟨j, h4, h5, h6⟩ := (m2 y).1 hy
      refine ⟨i, j, ?_, ?_, by omega, fun hl => by omega, fun hl => k.apart h2 (by omega) h4 h5⟩
      · have := (k.know.came i (by omega)).2
        rw [k.cameOld h2, h3] at this
        exact this
      · have := (k.know.came j h5).2
        rw [h6] at this
        exact this
/-- One tree, from b on. -/
structure Tree (T : G) (b : Nat) (p : Int) (s s' : St) : Prop where
  forest : Forest T p s s'
  some : s.came.length < s'.came.length
  root : s'.came.getD s.came.length 0 = b
  rootUp : s'.parent.getD s.came.length (-1) = p
  below : ∀ i, s.came.length < i → i < s'.came.length → (s.came.length : Int) ≤ s'.parent.getD i (-1)
/-- All that came below n. -/
theorem Forest.under {T : G} {n : Nat} {s s' : St} (h : Forest T n s s') (hn : s.came.length = n + 1) : ∀ {i : Nat}, n < i → i < s'.came.length → Anc s'.parent n i := by
  intro i
  induction i using Nat.strongRecOn with
  | ind i ih =>
    intro h1 h2
    obtain ⟨z, hz⟩ := Int.eq_ofNat_of_zero_le (show 0 ≤ s'.parent.getD i (-1) by rcases h.up i (by omega) h2 with h3 | h3 <;> omega)
    have h4 := ups_lt h.know.ups hz
    refine .step hz ?_
    rcases h.up i (by omega) h2 with h3 | h3
    · rw [hz] at h3
      have : z = n := by omega
      rw [this]; exact .refl _
    · rw [hz] at h3
      exact ih z h4 (by omega) (by omega)
theorem visit_tree (T : G) (hT : Ok T) : ∀ (f b : Nat) (p : Int) (s : St), Know T s → b < T.length → s.number.getD b (-1) = -1 → unv s ≤ f → p < s.came.length → -1 ≤ p → (∀ q : Nat, p = (q : Int) → Anc s.parent q (s.came.length - 1)) →
    (∀ q : Nat, p = (q : Int) → b ∈ T.getD (s.came.getD q 0) []) → Tree T b p s (visit T f b p s) := by
  intro f
  induction f with
  | zero =>
    intro b p s hK hb h0 hf _ _ _ _
    have := unv_enter (p := p) (by rw [hK.inv.number]; exact hb) (by rw [number_zero hK.inv hb]; exact h0)
    omega
  | succ f ih =>
    intro b p s hK hb h0 hf hp hp1 hlast hedge
    rw [visit_succ]
    have hu := unv_enter (p := p) (by rw [hK.inv.number]; exact hb) (by rw [number_zero hK.inv hb]; exact h0)
    have hE := hK.enter (p := p) hb h0 hp hp1
    have hc : (s.enter b p).came.length = s.came.length + 1 := by unfold St.enter; simp
    have hrow : ∀ c ∈ T.getD b [], c < T.length := fun c hc => by
      rw [List.getD_eq_getElem?_getD, List.getElem?_eq_getElem hb] at hc; exact hT b hb c hc
    have hroot : (s.enter b p).came.getD s.came.length 0 = b := by
      show (s.came ++ [b]).getD _ 0 = b
      rw [List.getD_eq_getElem?_getD, List.getElem?_append_right (Nat.le_refl _), Nat.sub_self]; rfl
    have hvs : ∀ (l : List Nat) (s' : St), (∀ x ∈ l, x ∈ T.getD b []) → Know T s' → s.came.length < s'.came.length → s'.came.getD s.came.length 0 = b → unv s' ≤ f → Anc s'.parent s.came.length (s'.came.length - 1) →
        Forest T s.came.length s' (visits T f s.came.length l s') ∧ ∀ x ∈ l, (visits T f s.came.length l s').number.getD x (-1) ≠ -1 := by
      intro l
      induction l with
      | nil => intro s' _ hI' _ _ _ ha; exact ⟨Forest.refl hI' (fun q e => (Int.ofNat.inj e) ▸ ha), by simp⟩
      | cons x l ihl =>
        intro s' hl hI' hlt hb' hu' ha
        rw [visits_cons]
        have hxT := hl x (List.mem_cons_self ..)
        have hxl := hrow x hxT
        rw [number_zero hI'.inv hxl]
        by_cases hx : s'.number.getD x (-1) = -1
        · rw [if_pos hx]
          have hv := ih x s.came.length s' hI' hxl hx hu' (by omega) (by omega) (fun q e => (Int.ofNat.inj e) ▸ ha) (fun q e => by rw [← Int.ofNat.inj e, hb']; exact hxT)
          have hsz := hv.forest.size
          have hun : unv (visit T f x s.came.length s') ≤ f := by
            have := (visit_inv T hT f x s.came.length s' hI'.inv hxl (by rw [number_zero hI'.inv hxl]; exact hx) hu').2.unv
            omega
          obtain ⟨h1, h2⟩ := ihl _ (fun y hy => hl y (List.mem_cons_of_mem _ hy)) hv.forest.know (by omega) (by rw [hv.forest.cameOld hlt]; exact hb') hun (hv.forest.last _ rfl)
          refine ⟨hv.forest.trans h1 hI' (by omega), fun y hy => ?_⟩
          rcases List.mem_cons.1 hy with e | e
          · subst e
            have h3 := (hv.forest.know.came s'.came.length hv.some).2
            rw [hv.root] at h3
            rw [h1.num y (by rw [h3]; omega), h3]; omega
          · exact h2 y e
        · rw [if_neg hx]
          obtain ⟨h1, h2⟩ := ihl s' (fun y hy => hl y (List.mem_cons_of_mem _ hy)) hI' hlt hb' hu' ha
          refine ⟨h1, fun y hy => ?_⟩
          rcases List.mem_cons.1 hy with e | e
          · subst e; rw [h1.num y hx]; exact hx
          · exact h2 y e
    obtain ⟨hF, hall⟩ := hvs (T.getD b []) (s.enter b p) (fun _ h => h) hE (by omega) hroot (by omega) (by rw [hc]; exact .refl _)
    have hsz := hF.size
    have hup0 : (visits T f s.came.length (T.getD b []) (s.enter b p)).parent.getD s.came.length (-1) = p := by
      rw [hF.parOld (by rw [hE.inv.parent]; omega)]
      show (s.parent ++ [p]).getD _ (-1) = p
      rw [List.getD_eq_getElem?_getD, List.getElem?_append_right (by rw [hK.inv.parent]; exact Nat.le_refl _), hK.inv.parent, Nat.sub_self]; rfl
    have hcam0 : (visits T f s.came.length (T.getD b []) (s.enter b p)).came.getD s.came.length 0 = b := by rw [hF.cameOld (by omega)]; exact hroot
    have hsub : ∀ i, s.came.length < i → i < (visits T f s.came.length (T.getD b []) (s.enter b p)).came.length → (s.came.length : Int) ≤ (visits T f s.came.length (T.getD b []) (s.enter b p)).parent.getD i (-1) := by
      intro i h1 h2
      rcases hF.up i (by omega) h2 with h3 | h3
      · omega
      · omega
    have hold : ∀ q : Nat, q < s.came.length → (visits T f s.came.length (T.getD b []) (s.enter b p)).came.getD q 0 = s.came.getD q 0 := by
      intro q hq
      rw [hF.cameOld (by omega)]
      exact getD_append_left 0 hq
    have hlen := (visits_inv T hT f s.came.length (T.getD b []) (s.enter b p) hrow hE.inv (by omega)).2.left
    have hll : (s.enter b p).left.length = s.left.length := rfl
    have hil := hK.inv.left
    generalize hs2 : visits T f s.came.length (T.getD b []) (s.enter b p) = s2 at *
    have hnumb : s2.number.getD b (-1) = (s.came.length : Int) := by
      have := (hF.know.came s.came.length (by omega)).2
      rw [hcam0] at this; exact this
    have hancp : ∀ q : Nat, p = (q : Int) → Anc s2.parent q s.came.length := fun q e => .step (by rw [hup0, e]) (.refl _)
    have hpre : ∀ {x y : Nat}, Anc s.parent x y → Anc s2.parent x y := fun ha => hF.anc (ha.append [p])
    have hund : ∀ {i : Nat}, s.came.length < i → i < s2.came.length → Anc s2.parent s.came.length i := fun h1 h2 => hF.under hc h1 h2
    have hkn : Know T (s2.leave b) := hF.know.leave (by omega)
    refine ⟨⟨hkn, ?_, ?_, ?_, ?_, ?_, ?_, ?_, ?_, ?_⟩, by show _ < s2.came.length; omega, hcam0, hup0, hsub⟩
    · obtain ⟨c, e⟩ := hF.came
      exact ⟨[b] ++ c, by show s2.came = _; rw [e]; show s.came ++ [b] ++ c = _; rw [List.append_assoc]⟩
    · obtain ⟨q, e⟩ := hF.par
      exact ⟨[p] ++ q, by show s2.parent = _; rw [e]; show s.parent ++ [p] ++ q = _; rw [List.append_assoc]⟩
    · intro x hx
      have hxb : b ≠ x := fun e => by rw [← e] at hx; exact hx h0
      have h1 : (s.enter b p).number.getD x (-1) = s.number.getD x (-1) := by
        show (s.number.set b _).getD x (-1) = _
        rw [getD_set, if_neg (fun h => hxb h.1)]
      show s2.number.getD x (-1) = _
      rw [hF.num x (by rw [h1]; exact hx), h1]
    · intro i h1 h2
      by_cases e : i = s.came.length
      · exact Or.inl (by rw [e]; exact hup0)
      · exact Or.inr (hsub i (by omega) h2)
    · intro i h1 h2 q hq
      by_cases e : i = s.came.length
      · subst e
        have hq2 : p = (q : Int) := by rw [← hup0]; exact hq
        show s2.came.getD _ 0 ∈ T.getD (s2.came.getD q 0) []
        rw [hcam0, hold q (by omega)]
        exact hedge q hq2
      · exact hF.edge i (by omega) h2 q hq
    · intro i h1 h2 q hq
      by_cases e : i = s.came.length
      · subst e
        exact hpre (hlast q (by rw [← hup0]; exact hq))
      · exact hF.prev i (by omega) h2 q hq
    · intro q hq
      exact (hancp q hq).trans (hF.last s.came.length rfl)
    · intro i h1 h2 c hcT
      by_cases e : i = s.came.length
      · subst e
        change c ∈ T.getD (s2.came.getD s.came.length 0) [] at hcT
        rw [hcam0] at hcT
        obtain ⟨_, j, hj, hnj, _⟩ := hF.know.at (hall c hcT)
        exact ⟨j, hnj, fun hl => hund hl hj⟩
      · exact hF.goes i (by omega) h2 c hcT
    · obtain ⟨l, e1, m1, w1⟩ := hF.left
      refine ⟨l ++ [b], ?_, ?_, ?_⟩
      · show s2.left ++ [b] = _
        rw [e1]
        show s.left ++ l ++ [b] = _
        rw [List.append_assoc]
      · intro x
        rw [List.mem_append, m1, List.mem_singleton]
        constructor
        · rintro (⟨i, h1, h2, h3⟩ | rfl)
          · exact ⟨i, by omega, h2, h3⟩
          · exact ⟨s.came.length, Nat.le_refl _, by show _ < s2.came.length; omega, hcam0⟩
        · rintro ⟨i, h1, h2, h3⟩
          by_cases e : i = s.came.length
          · right; rw [← h3, e]; exact hcam0
          · exact Or.inl ⟨i, by omega, h2, h3⟩
      · rw [List.pairwise_append]
        refine ⟨w1, List.pairwise_singleton _ _, ?_⟩
        intro x hx y hy
        rw [List.mem_singleton] at hy
        subst hy
        obtain ⟨i, h1, h2, h3⟩ := (m1 x).1 hx
        refine ⟨i, s.came.length, ?_, hnumb, by omega, fun hl => hund (by omega) h2, fun hl => by omega⟩
        have := (hF.know.came i h2).2
        rw [h3] at this; exact this
/-- What a whole walk tells. -/
structure Dfs (T : G) (s : St) : Prop where
  know : Know T s
  some : 0 < s.came.length
  zero : s.came.getD 0 0 = 0
  top : s.parent.getD 0 (-1) = -1
  up : ∀ i, 0 < i → i < s.came.length → ∃ q : Nat, s.parent.getD i (-1) = (q : Int) ∧ q < i ∧ s.came.getD i 0 ∈ T.getD (s.came.getD q 0) [] ∧ Anc s.parent q (i - 1)
  goes : ∀ i, i < s.came.length → ∀ c ∈ T.getD (s.came.getD i 0) [], ∃ j : Nat, j < s.came.length ∧ s.number.getD c (-1) = (j : Int) ∧ s.came.getD j 0 = c ∧ (i < j → Anc s.parent i j)
  left : (∀ b, b ∈ s.left ↔ ∃ i, i < s.came.length ∧ s.came.getD i 0 = b) ∧ s.left.Pairwise (Before s)
theorem walkN_dfs {T : G} (hT : Ok T) (h0 : 0 < T.length) : Dfs T (walkN T) := by
  have hK : Know T (St.none T.length) := by
    refine ⟨⟨by simp [St.none], by simp [St.none, unv], rfl, Nat.le_refl _⟩, fun i hi => by simp [St.none] at hi, fun b hb => Or.inl ?_, fun i hi => by simp [St.none] at hi, fun i => by simp [St.none]⟩
    show (List.replicate T.length (-1 : Int)).getD b (-1) = -1
    rw [List.getD_eq_getElem?_getD, List.getElem?_replicate]
    split <;> rfl
  have hv := visit_tree T hT T.length 0 (-1) (St.none T.length) hK h0 (by show (List.replicate T.length (-1 : Int)).getD 0 (-1) = -1; rw [List.getD_eq_getElem?_getD, List.getElem?_replicate]; split <;> rfl) (by simp [unv, St.none])
    (by show (-1 : Int) < ((0 : Nat) : Int); omega) (Int.le_refl _) (fun q e => by omega) (fun q e => by omega)
  have hw : walkN T = visit T T.length 0 (-1) (St.none T.length) := if_pos h0
  rw [← hw] at hv
  have hz : (St.none T.length).came.length = 0 := rfl
  have hF := hv.forest
  refine ⟨hF.know, hv.some, hv.root, hv.rootUp, ?_, ?_, ?_⟩
  · intro i h1 h2
    have h3 := hv.below i (by rw [hz]; exact h1) h2
    rw [hz] at h3
    obtain ⟨q, hq⟩ := Int.eq_ofNat_of_zero_le (show 0 ≤ (walkN T).parent.getD i (-1) by omega)
    exact ⟨q, hq, ups_lt hF.know.ups hq, hF.edge i (by rw [hz]; omega) h2 q hq, hF.prev i (by rw [hz]; omega) h2 q hq⟩
  · intro i h1 c hc
    obtain ⟨j, h3, h4⟩ := hF.goes i (by rw [hz]; omega) h1 c hc
    obtain ⟨_, j', h5, h6, h7⟩ := hF.know.at (b := c) (by rw [h3]; omega)
    have : j' = j := by rw [h3] at h6; omega
    subst this
    exact ⟨j', h5, h3, h7, h4⟩
  · obtain ⟨l, e, m, w⟩ := hF.left
    have e2 : (walkN T).left = l := by rw [e]; rfl
    rw [e2]
    refine ⟨fun b => ?_, w⟩
    rw [m]
    constructor
    · rintro ⟨i, _, h2, h3⟩; exact ⟨i, h2, h3⟩
    · rintro ⟨i, h2, h3⟩; exact ⟨i, by rw [hz]; omega, h2, h3⟩
end Go.Proofs.Ytdfehpcbcgbidaa.Gn
