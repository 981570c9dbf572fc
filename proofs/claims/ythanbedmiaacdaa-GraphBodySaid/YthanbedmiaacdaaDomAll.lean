/- Plain mathematics of dominators: what the climber's halves are; what stands above is what dominates; chains of Idom. -/
import Derived.Test.YthanbedmiaacdaaDfsW
import Derived.Test.YthanbedmiaacdaaDoms
import Derived.Test.YthanbedmiaacdaaIdomC
import Derived.Test.YthanbedmiaacdaaLaws
/- Plain mathematics: what the climber's halves are: reached by a way over greater numbers alone, and as low as any that leads there. -/
namespace Go.Proofs.Ythanbedmiaacdaa.Gl
open Go.ChangeShapes Go.WideShapes Go.ChangeAt Go.RowKit Go.Proofs.Ythanbedmiaacdaa.Mem Go.Proofs.Ythanbedmiaacdaa.Gr Go.Proofs.Ythanbedmiaacdaa.Gn Go.Proofs.Ythanbedmiaacdaa.Gc
set_option linter.unusedVariables false

theorem anc_comp {u : List Int} (hu : Ups u) {a b x : Nat} (ha : Anc u a x) (hb : Anc u b x) (hab : a ≤ b) : Anc u a b := by
  induction hb with
  | refl => exact ha
  | @step y z e hbz ih =>
    have h1 := hbz.le hu
    have h2 := ups_lt hu e
    cases ha with
    | refl => omega
    | @step _ z' e' haz =>
      rw [e] at e'
      have : z = z' := by omega
      subst this
      exact ih haz
theorem anc_between {T : G} {s : St} (h : Dfs T s) {c n : Nat} : ∀ {m : Nat}, Anc s.parent c m → c ≤ n → n ≤ m → m < s.came.length → Anc s.parent c n := by
  intro m
  induction m with
  | zero => intro ha h1 h2 _; have : n = 0 := by omega
            subst this; exact ha
  | succ m ih =>
    intro ha h1 h2 h3
    by_cases hn : n = m + 1
    · subst hn; exact ha
    · obtain ⟨q, hq, _, _, hp⟩ := h.up (m + 1) (by omega) h3
      cases ha with
      | refl => omega
      | @step _ z e haz =>
        rw [hq] at e
        have : q = z := by omega
        subst this
        exact ih (haz.trans hp) h1 (by omega) (by omega)
/-- What the climber's rows say while number n is reckoned. -/
structure Kp (s : St) (n : Nat) (c : Cl) : Prop where
  inr : InR s.came.length c
  fresh : ∀ x, x ≤ n → x < s.came.length → c.up.getD x (-1) = s.parent.getD x (-1) ∧ c.best.getD x 0 = x
  above : ∀ x, 0 < x → x < s.came.length → ∃ z : Nat, c.up.getD x (-1) = (z : Int) ∧ Anc s.parent z x ∧ z < x
  range : ∀ x, x < s.came.length → ∀ u, Anc s.parent u x → c.up.getD x (-1) < u → u = x ∨ n < u
  bestA : ∀ x, x < s.came.length → Anc s.parent (c.best.getD x 0) x ∧ c.up.getD x (-1) < c.best.getD x 0
  bestL : ∀ x, x < s.came.length → ∀ u, Anc s.parent u x → c.up.getD x (-1) < u → c.half.getD (c.best.getD x 0) 0 ≤ c.half.getD u 0
theorem kp_squash {s : St} {n : Nat} {c : Cl} (hu : Ups s.parent) (h : Kp s n c) {m b : Nat} (hb : b < s.came.length) (hm : n < m) (e : c.up.getD b (-1) = (m : Int)) (hb0 : 0 < b) : Kp s n (squash c m b) := by
  have hmk : m < s.came.length ∧ m < b ∧ Anc s.parent m b := by
    obtain ⟨z, e1, e2, e3⟩ := h.above b hb0 hb
    rw [e] at e1
    have : m = z := by omega
    subst this
    exact ⟨by omega, e3, e2⟩
  obtain ⟨hmk, hmb, hmA⟩ := hmk
  have hul : b < c.up.length := by rw [h.inr.up]; exact hb
  have hbl : b < c.best.length := by rw [h.inr.best]; exact hb
  have hup : ∀ x, (squash c m b).up.getD x (-1) = if b = x then c.up.getD m (-1) else c.up.getD x (-1) := fun x => by
    show (c.up.set b _).getD x (-1) = _
    rw [getD_set]
    by_cases hx : b = x
    · rw [if_pos ⟨hx, hul⟩, if_pos hx]
    · rw [if_neg (fun y => hx y.1), if_neg hx]
  have hbo : ∀ x, b ≠ x → (squash c m b).best.getD x 0 = c.best.getD x 0 := fun x hx => by
    show (if _ then _ else _ : List Nat).getD x 0 = _
    split
    · rw [getD_set, if_neg (fun y => hx y.1)]
    · rfl
  have hbb : ((squash c m b).best.getD b 0 = c.best.getD m 0 ∧ c.half.getD (c.best.getD m 0) 0 < c.half.getD (c.best.getD b 0) 0) ∨ ((squash c m b).best.getD b 0 = c.best.getD b 0 ∧ c.half.getD (c.best.getD b 0) 0 ≤ c.half.getD (c.best.getD m 0) 0) := by
    by_cases hlt : c.half.getD (c.best.getD m 0) 0 < c.half.getD (c.best.getD b 0) 0
    · left
      refine ⟨?_, hlt⟩
      show (if _ then _ else _ : List Nat).getD b 0 = _
      rw [if_pos hlt, getD_set, if_pos ⟨rfl, hbl⟩]
    · right
      refine ⟨?_, by omega⟩
      show (if _ then _ else _ : List Nat).getD b 0 = _
      rw [if_neg hlt]
  have hh : (squash c m b).half = c.half := rfl
  have hum : c.up.getD m (-1) < (m : Int) := by
    obtain ⟨z, e1, _, e3⟩ := h.above m (by omega) hmk
    rw [e1]; omega
  refine ⟨h.inr.squash hmk hb, fun x hx hxk => ?_, fun x hx0 hxk => ?_, fun x hxk u hA hlt => ?_, fun x hxk => ?_, fun x hxk u hA hlt => ?_⟩
  · have hne : b ≠ x := by omega
    rw [hup, if_neg hne, hbo x hne]
    exact h.fresh x hx hxk
  · rw [hup]
    by_cases hx : b = x
    · subst hx
      rw [if_pos rfl]
      obtain ⟨z, e1, e2, e3⟩ := h.above m (by omega) hmk
      exact ⟨z, e1, e2.trans hmA, by omega⟩
    · rw [if_neg hx]; exact h.above x hx0 hxk
  · rw [hup] at hlt
    by_cases hx : b = x
    · subst hx
      rw [if_pos rfl] at hlt
      by_cases hum' : m < u
      · exact h.range b hxk u hA (by rw [e]; omega)
      · rcases h.range m hmk u (anc_comp hu hA hmA (by omega)) hlt with h1 | h1
        · right; omega
        · right; exact h1
    · rw [if_neg hx] at hlt; exact h.range x hxk u hA hlt
  · rw [hup]
    by_cases hx : b = x
    · subst hx
      rw [if_pos rfl]
      rcases hbb with ⟨e1, _⟩ | ⟨e1, _⟩
      · rw [e1]
        obtain ⟨h1, h2⟩ := h.bestA m hmk
        exact ⟨h1.trans hmA, h2⟩
      · rw [e1]
        obtain ⟨h1, h2⟩ := h.bestA b hxk
        rw [e] at h2
        exact ⟨h1, by omega⟩
    · rw [if_neg hx, hbo x hx]; exact h.bestA x hxk
  · rw [hup] at hlt
    rw [hh]
    by_cases hx : b = x
    · subst hx
      rw [if_pos rfl] at hlt
      by_cases hum' : m < u
      · have h1 := h.bestL b hxk u hA (by rw [e]; omega)
        rcases hbb with ⟨e1, h2⟩ | ⟨e1, h2⟩
        · rw [e1]; omega
        · rw [e1]; exact h1
      · have h1 := h.bestL m hmk u (anc_comp hu hA hmA (by omega)) hlt
        rcases hbb with ⟨e1, h2⟩ | ⟨e1, h2⟩
        · rw [e1]; exact h1
        · rw [e1]; omega
    · rw [if_neg hx] at hlt
      rw [hbo x hx]; exact h.bestL x hxk u hA hlt
theorem climb_kp {s : St} {n : Nat} {c : Cl} (hu : Ups s.parent) (h : Kp s n c) : ∀ (f m : Nat), m < s.came.length → n < m → m ≤ f →
    (squashes (climb c.up n f m).1.reverse c (climb c.up n f m).2).2 = m ∧ Kp s n (squashes (climb c.up n f m).1.reverse c (climb c.up n f m).2).1 ∧
    (squashes (climb c.up n f m).1.reverse c (climb c.up n f m).2).1.up.getD m (-1) ≤ n ∧ (∀ x, m < x → (squashes (climb c.up n f m).1.reverse c (climb c.up n f m).2).1.up.getD x (-1) = c.up.getD x (-1))
  | 0, m, _, h1, h2 => by omega
  | f + 1, m, hm, h1, h2 => by
    unfold climb
    by_cases hlt : (n : Int) < c.up.getD m (-1)
    · rw [if_pos hlt]
      obtain ⟨z, e1, e2, e3⟩ := h.above m (by omega) hm
      have hz : (c.up.getD m (-1)).toNat = z := by rw [e1]; rfl
      rw [hz]
      obtain ⟨i1, i2, i3, i4⟩ := climb_kp hu h f z (by omega) (by rw [e1] at hlt; omega) (by omega)
      simp only [List.reverse_cons]
      rw [squashes_snoc, i1]
      have e4 := i4 m e3
      have hsq := kp_squash hu i2 (m := z) (b := m) hm (by rw [e1] at hlt; omega) (by rw [e4, e1]) (by omega)
      refine ⟨rfl, hsq, ?_, fun x hx => ?_⟩
      · show (List.set _ m _).getD m (-1) ≤ _
        rw [getD_set, if_pos ⟨rfl, by rw [i2.inr.up]; exact hm⟩]
        exact i3
      · show (List.set _ m _).getD x (-1) = _
        rw [getD_set, if_neg (fun y => by omega)]
        exact i4 x (by omega)
    · rw [if_neg hlt]
      exact ⟨rfl, h, by simpa [squashes] using Int.not_lt.1 hlt, fun _ _ => rfl⟩
/-- What least does to a number above n. -/
theorem least_kp {s : St} {n : Nat} {c : Cl} (hu : Ups s.parent) (h : Kp s n c) {m : Nat} (hm : m < s.came.length) (hn : n < m) :
    Kp s n (leastC c m n) ∧ leastM c m n = m ∧ Anc s.parent (leastV c m n) m ∧ n < leastV c m n ∧ ∀ u, Anc s.parent u m → n < u → c.half.getD (leastV c m n) 0 ≤ c.half.getD u 0 := by
  obtain ⟨h1, h2, h3, _⟩ := climb_kp hu h m m hm hn (Nat.le_refl _)
  have hM : leastM c m n = m := h1
  have hV : leastV c m n = (leastC c m n).best.getD m 0 := by unfold leastV; rw [hM]
  have hup : (leastC c m n).up.getD m (-1) ≤ n := h3
  have hK : Kp s n (leastC c m n) := h2
  obtain ⟨h4, h5⟩ := hK.bestA m hm
  refine ⟨hK, hM, by rw [hV]; exact h4, ?_, fun u hA hlt => ?_⟩
  · rw [hV]
    rcases hK.range m hm _ h4 h5 with h6 | h6
    · rw [h6]; exact hn
    · exact h6
  · have := hK.bestL m hm u hA (by omega)
    rw [← hV, leastC_half] at this
    exact this
theorem least_low {s : St} {n : Nat} {c : Cl} (hu : Ups s.parent) (h : Kp s n c) {m : Nat} (hm : m < s.came.length) (hn : m ≤ n) : leastC c m n = c ∧ leastM c m n = m ∧ leastV c m n = m := by
  obtain ⟨e1, e2⟩ := h.fresh m hn hm
  have hup : c.up.getD m (-1) < (m : Int) ∨ m = 0 := by
    by_cases h0 : m = 0
    · exact Or.inr h0
    · obtain ⟨z, e3, _, e4⟩ := h.above m (by omega) hm
      left; rw [e3]; omega
  have hc : climb c.up n m m = ([], m) := by
    cases m with
    | zero => rfl
    | succ m =>
      unfold climb
      rw [if_neg (by omega)]
  have h1 : leastC c m n = c := by unfold leastC; rw [hc]; rfl
  have h2 : leastM c m n = m := by unfold leastM; rw [hc]; rfl
  refine ⟨h1, h2, ?_⟩
  unfold leastV
  rw [h1, h2, e2]
end Go.Proofs.Ythanbedmiaacdaa.Gl
/- Plain mathematics: what halves are. -/
namespace Go.Proofs.Ythanbedmiaacdaa.Gl
open Go.ChangeShapes Go.WideShapes Go.ChangeAt Go.RowKit Go.Proofs.Ythanbedmiaacdaa.Mem Go.Proofs.Ythanbedmiaacdaa.Gr Go.Proofs.Ythanbedmiaacdaa.Gn Go.Proofs.Ythanbedmiaacdaa.Gc
set_option linter.unusedVariables false

/-- There is a way from v to n, by numbers, with none but greater ones than n in between. -/
inductive Hop (T : G) (s : St) (n : Nat) : Nat → Prop
  | edge {v : Nat} : v < s.came.length → s.came.getD n 0 ∈ T.getD (s.came.getD v 0) [] → Hop T s n v
  | step {v x : Nat} : v < s.came.length → s.came.getD x 0 ∈ T.getD (s.came.getD v 0) [] → x < s.came.length → n < x → Hop T s n x → Hop T s n v
theorem Hop.trans {T : G} {s : St} {n v x : Nat} (h : Hop T s v x) (hv : v < s.came.length) (hn : n < v) (k : Hop T s n v) : Hop T s n x := by
  induction h with
  | edge hx he => exact .step hx he hv hn k
  | step hx he hy hvy _ ih => exact .step hx he hy (by omega) ih
theorem hop_up {T : G} {s : St} (h : Dfs T s) {n v m : Nat} (ha : Anc s.parent v m) (hm : m < s.came.length) (hn : n < v) (k : Hop T s n m) : Hop T s n v := by
  induction ha with
  | refl => exact k
  | @step y z e hvz ih =>
    have hle := hvz.le h.know.ups
    have hzy := ups_lt h.know.ups e
    obtain ⟨q, hq, _, he, _⟩ := h.up y (by omega) hm
    rw [e] at hq
    have : z = q := by omega
    subst this
    exact ih (by omega) (.step (by omega) he hm (by omega) k)
structure Fin (T P : G) (s : St) (c : Cl) (w : Nat) : Prop where
  lt : c.half.getD w 0 < w
  hop : Hop T s w (c.half.getD w 0)
  anc : Anc s.parent (c.half.getD w 0) w
  le1 : ∀ a ∈ P.getD (s.came.getD w 0) [], ∀ m : Nat, s.number.getD a (-1) = (m : Int) → m < w → c.half.getD w 0 ≤ m
  le2 : ∀ a ∈ P.getD (s.came.getD w 0) [], ∀ m : Nat, s.number.getD a (-1) = (m : Int) → w < m → ∀ u, Anc s.parent u m → w < u → c.half.getD w 0 ≤ c.half.getD u 0
structure Row (T : G) (s : St) (c : Cl) (n : Nat) (l : List Nat) : Prop where
  kp : Kp s n c
  fresh : ∀ x, x < n → x < s.came.length → c.half.getD x 0 = x
  low : c.half.getD n 0 ≤ n
  att : c.half.getD n 0 = n ∨ (Hop T s n (c.half.getD n 0) ∧ Anc s.parent (c.half.getD n 0) n ∧ c.half.getD n 0 < n)
  le1 : ∀ a ∈ l, ∀ m : Nat, s.number.getD a (-1) = (m : Int) → m < n → c.half.getD n 0 ≤ m
  le2 : ∀ a ∈ l, ∀ m : Nat, s.number.getD a (-1) = (m : Int) → n < m → ∀ u, Anc s.parent u m → n < u → c.half.getD n 0 ≤ c.half.getD u 0
theorem half_set {c : Cl} {n v x : Nat} (h : n < c.half.length) : (c.half.set n v).getD x 0 = if n = x then v else c.half.getD x 0 := by
  rw [getD_set]
  by_cases hx : n = x
  · rw [if_pos ⟨hx, h⟩, if_pos hx]
  · rw [if_neg (fun y => hx y.1), if_neg hx]
theorem kp_set {s : St} {n v : Nat} {c : Cl} (hu : Ups s.parent) (h : Kp s n c) (hn : n < s.came.length) : Kp s n { c with half := c.half.set n v } := by
  have hl : n < c.half.length := by rw [h.inr.half]; exact hn
  refine ⟨h.inr.setHalf n v, h.fresh, h.above, h.range, h.bestA, fun x hx u hA hlt => ?_⟩
  obtain ⟨h1, h2⟩ := h.bestA x hx
  have h3 := h.range x hx _ h1 h2
  have h4 := h.range x hx u hA hlt
  have h5 := h.bestL x hx u hA hlt
  have h6 := h1.le hu
  have h7 := hA.le hu
  show (c.half.set n v).getD (c.best.getD x 0) 0 ≤ (c.half.set n v).getD u 0
  rw [half_set hl, half_set hl]
  by_cases hxn : x = n
  · have e1 : c.best.getD x 0 = n := by omega
    have e2 : u = n := by omega
    rw [if_pos e1.symm, if_pos e2.symm]; exact Nat.le_refl _
  · rw [if_neg (by omega), if_neg (by omega)]; exact h5
theorem fin_set {T P : G} {s : St} {c c' : Cl} {n w : Nat} (h : Fin T P s c w) (hw : n < w) (he : ∀ x, n < x → c'.half.getD x 0 = c.half.getD x 0) : Fin T P s c' w := by
  have e := he w hw
  refine ⟨by rw [e]; exact h.lt, by rw [e]; exact h.hop, by rw [e]; exact h.anc, fun a ha m hm hlt => by rw [e]; exact h.le1 a ha m hm hlt, fun a ha m hm hlt u hA hu => ?_⟩
  rw [e, he u (by omega)]
  exact h.le2 a ha m hm hlt u hA hu
theorem halfOne_row {T P : G} {s : St} {c : Cl} {n : Nat} {l : List Nat} (h : Dfs T s) (hr : Row T s c n l) (hf : ∀ w, n < w → w < s.came.length → Fin T P s c w) (hn : n < s.came.length) {a : Nat} (hedge : s.came.getD n 0 ∈ T.getD a []) :
    Row T s (halfOne s.number n c a) n (l ++ [a]) ∧ (∀ x, n < x → (halfOne s.number n c a).half.getD x 0 = c.half.getD x 0) := by
  have hu := h.know.ups
  have hl : n < c.half.length := by rw [hr.kp.inr.half]; exact hn
  by_cases h1 : s.number.getD a (-1) = -1
  · have e : halfOne s.number n c a = c := if_pos h1
    rw [e]
    refine ⟨⟨hr.kp, hr.fresh, hr.low, hr.att, fun b hb m hm hlt => ?_, fun b hb m hm hlt => ?_⟩, fun _ _ => rfl⟩
    · rcases List.mem_append.1 hb with hb | hb
      · exact hr.le1 b hb m hm hlt
      · rw [List.mem_singleton.1 hb, h1] at hm; omega
    · rcases List.mem_append.1 hb with hb | hb
      · exact hr.le2 b hb m hm hlt
      · rw [List.mem_singleton.1 hb, h1] at hm; omega
  · obtain ⟨_, m, hm, em, ea⟩ := h.know.at h1
    have htn : (s.number.getD a (-1)).toNat = m := by rw [em]; rfl
    have e : halfOne s.number n c a = { leastC c m n with half := c.half.set n (min (c.half.getD n 0) (c.half.getD (leastV c m n) 0)) } := by
      unfold halfOne; rw [if_neg h1, htn]
    have hedge' : s.came.getD n 0 ∈ T.getD (s.came.getD m 0) [] := by rw [ea]; exact hedge
    -- the new value v, and what is asked of it
    have main : ∀ (c1 : Cl) (v : Nat), Kp s n c1 → c1.half = c.half → (v = c.half.getD n 0 ∨ (v < c.half.getD n 0 ∧ Hop T s n v ∧ Anc s.parent v n)) → v ≤ c.half.getD n 0 → (m < n → v ≤ m) → (n < m → ∀ u, Anc s.parent u m → n < u → v ≤ c.half.getD u 0) →
        Row T s { c1 with half := c.half.set n v } n (l ++ [a]) ∧ (∀ x, n < x → ({ c1 with half := c.half.set n v } : Cl).half.getD x 0 = c.half.getD x 0) := by
      intro c1 v hk1 hh1 hv hle hl1 hl2
      have hg : ∀ x, ({ c1 with half := c.half.set n v } : Cl).half.getD x 0 = if n = x then v else c.half.getD x 0 := fun x => half_set hl
      have hgn : ({ c1 with half := c.half.set n v } : Cl).half.getD n 0 = v := by rw [hg, if_pos rfl]
      have hlow := hr.low
      refine ⟨⟨?_, fun x hx hxk => ?_, ?_, ?_, fun b hb q hq hlt => ?_, fun b hb q hq hlt u hA hnu => ?_⟩, fun x hx => by rw [hg, if_neg (by omega)]⟩
      · have := kp_set (v := v) hu hk1 hn
        rw [hh1] at this; exact this
      · rw [hg, if_neg (by omega)]; exact hr.fresh x hx hxk
      · rw [hgn]; omega
      · rw [hgn]
        rcases hv with hv | ⟨h2, h3, h4⟩
        · rw [hv]; exact hr.att
        · exact Or.inr ⟨h3, h4, by omega⟩
      · rw [hgn]
        rcases List.mem_append.1 hb with hb | hb
        · have := hr.le1 b hb q hq hlt; omega
        · rw [List.mem_singleton.1 hb, em] at hq
          have : m = q := by omega
          subst this
          exact hl1 hlt
      · rw [hgn, hg, if_neg (by omega)]
        rcases List.mem_append.1 hb with hb | hb
        · have := hr.le2 b hb q hq hlt u hA hnu; omega
        · rw [List.mem_singleton.1 hb, em] at hq
          have : m = q := by omega
          subst this
          exact hl2 hlt u hA hnu
    rw [e]
    by_cases hmn : n < m
    · obtain ⟨k1, _, k3, k4, k5⟩ := least_kp hu hr.kp hm hmn
      refine main _ _ k1 (leastC_half _ _ _) ?_ (Nat.min_le_left _ _) (fun hlt => by omega) (fun _ u hA hnu => Nat.le_trans (Nat.min_le_right _ _) (k5 u hA hnu))
      have hVk : leastV c m n < s.came.length := by have := k3.le hu; omega
      have hF := hf _ k4 hVk
      by_cases hlt : c.half.getD (leastV c m n) 0 < c.half.getD n 0
      · rw [Nat.min_eq_right (Nat.le_of_lt hlt)]
        have hlow := hr.low
        exact Or.inr ⟨hlt, hF.hop.trans hVk k4 (hop_up h k3 hm k4 (.edge hm hedge')), anc_between h (hF.anc.trans k3) (by omega) (by omega) hm⟩
      · rw [Nat.min_eq_left (by omega)]; exact Or.inl rfl
    · obtain ⟨k1, _, k3⟩ := least_low hu hr.kp hm (by omega)
      rw [k1, k3]
      refine main _ _ hr.kp rfl ?_ (Nat.min_le_left _ _) (fun hlt => Nat.le_trans (Nat.min_le_right _ _) (by rw [hr.fresh m hlt hm]; exact Nat.le_refl _)) (fun hlt => absurd hlt hmn)
      by_cases hlt : c.half.getD m 0 < c.half.getD n 0
      · rw [Nat.min_eq_right (Nat.le_of_lt hlt)]
        have hne : m ≠ n := fun x => by rw [x] at hlt; omega
        rw [hr.fresh m (by omega) hm] at hlt ⊢
        refine Or.inr ⟨hlt, .edge hm hedge', ?_⟩
        obtain ⟨j, hj, ej, _, hA⟩ := h.goes m hm _ hedge'
        rw [Know.num h.know hn] at ej
        have : n = j := by omega
        subst this
        exact hA (by omega)
      · rw [Nat.min_eq_left (by omega)]; exact Or.inl rfl
theorem halfRow_row {T P : G} {s : St} {n : Nat} (h : Dfs T s) (hn : n < s.came.length) : ∀ (r l : List Nat) (c : Cl), Row T s c n l → (∀ w, n < w → w < s.came.length → Fin T P s c w) → (∀ a ∈ r, s.came.getD n 0 ∈ T.getD a []) →
    Row T s (halfRow s.number n r c) n (l ++ r) ∧ (∀ w, n < w → w < s.came.length → Fin T P s (halfRow s.number n r c) w)
  | [], l, c, hr, hf, _ => by rw [List.append_nil]; exact ⟨hr, hf⟩
  | a :: r, l, c, hr, hf, he => by
    obtain ⟨h1, h2⟩ := halfOne_row h hr hf hn (he a List.mem_cons_self)
    have := halfRow_row h hn r (l ++ [a]) _ h1 (fun w hw hwk => fin_set (hf w hw hwk) hw h2) (fun b hb => he b (List.mem_cons_of_mem _ hb))
    rw [List.append_assoc] at this
    exact this
theorem kp_down {s : St} {n : Nat} {c : Cl} (h : Kp s (n + 1) c) : Kp s n c :=
  ⟨h.inr, fun x hx hk => h.fresh x (by omega) hk, h.above, fun x hx u hA hlt => (h.range x hx u hA hlt).elim Or.inl (fun y => Or.inr (by omega)), h.bestA, h.bestL⟩
theorem halfDown_fin {T : G} {s : St} (h : Dfs T s) (hT : Neat T) : ∀ (n : Nat) (c : Cl), n < s.came.length → Kp s n c → (∀ x, x ≤ n → x < s.came.length → c.half.getD x 0 = x) → (∀ w, n < w → w < s.came.length → Fin T (turnN T) s c w) →
    ∀ w, 0 < w → w < s.came.length → Fin T (turnN T) s (halfDown s (turnN T) n c) w
  | 0, c, _, _, _, hf, w, h1, h2 => hf w h1 h2
  | n + 1, c, hn, hk, hfr, hf, w, h1, h2 => by
    have hrow0 : Row T s c (n + 1) [] := ⟨hk, fun x hx hxk => hfr x (by omega) hxk, by rw [hfr _ (Nat.le_refl _) hn]; exact Nat.le_refl _, Or.inl (hfr _ (Nat.le_refl _) hn), fun a ha => (by cases ha), fun a ha => (by cases ha)⟩
    obtain ⟨hr, hf'⟩ := halfRow_row (P := turnN T) h hn ((turnN T).getD (s.came.getD (n + 1) 0) []) [] c hrow0 hf (fun a ha => (mem_turnN hT).1 ha)
    rw [List.nil_append] at hr
    refine halfDown_fin h hT n _ (by omega) (kp_down hr.kp) (fun x hx hxk => hr.fresh x (by omega) hxk) (fun v hv hvk => ?_) w h1 h2
    by_cases hvn : v = n + 1
    · subst hvn
      obtain ⟨q, hq, hq2, he, _⟩ := h.up (n + 1) (by omega) hn
      have hle := hr.le1 (s.came.getD q 0) ((mem_turnN hT).2 he) q (Know.num h.know (by omega)) hq2
      have hatt : Hop T s (n + 1) _ ∧ Anc s.parent _ (n + 1) ∧ _ < n + 1 := hr.att.resolve_left (by omega)
      exact ⟨hatt.2.2, hatt.1, hatt.2.1, hr.le1, hr.le2⟩
    · exact hf' v (by omega) hvk
/-- What all halves are. -/
theorem halves_fin {T : G} (hT : Neat T) (h0 : 0 < T.length) {w : Nat} (h1 : 0 < w) (h2 : w < (walkN T).came.length) : Fin T (turnN T) (walkN T) (halvesC (walkN T) (turnN T)) w := by
  have h := walkN_dfs hT.ok h0
  have hk := h.some
  have hpl := h.know.inv.parent
  have hb : ∀ x, x < (walkN T).came.length → (halfInit (walkN T)).best.getD x 0 = x := fun x hx => by
    show (List.range _).getD x 0 = x
    rw [List.getD_eq_getElem?_getD, List.getElem?_range hx]; rfl
  have hrng : ∀ x, x < (walkN T).came.length → ∀ u, Anc (walkN T).parent u x → (walkN T).parent.getD x (-1) < (u : Int) → u = x := fun x hx u hA hlt => by
    cases hA with
    | refl => rfl
    | @step _ z e hz => have := hz.le h.know.ups; omega
  have hlow : ∀ x, x < (walkN T).came.length → (walkN T).parent.getD x (-1) < (x : Int) := fun x hx => by
    have := h.know.ups x (by rw [hpl]; exact hx); omega
  unfold halvesC
  refine halfDown_fin h hT _ _ (by omega) ⟨⟨hpl, by show (List.range _).length = _; rw [List.length_range], by show (List.range _).length = _; rw [List.length_range], fun i hi => ⟨h.know.low i, by have := hlow i hi; show (walkN T).parent.getD i (-1) < _; omega⟩, fun i hi => by rw [hb i hi]; exact hi⟩,
    fun x _ hx => ⟨rfl, hb x hx⟩, fun x hx0 hx => ?_, fun x hx u hA hlt => Or.inl (hrng x hx u hA hlt), fun x hx => by rw [hb x hx]; exact ⟨.refl _, hlow x hx⟩, fun x hx u hA hlt => by rw [hb x hx, hrng x hx u hA hlt]; exact Nat.le_refl _⟩
    (fun x _ hx => by
      show (List.range _).getD x 0 = x
      rw [List.getD_eq_getElem?_getD, List.getElem?_range hx]; rfl) (fun v hv hvk => by omega) w h1 h2
  obtain ⟨q, e, hq, _, _⟩ := h.up x hx0 hx
  exact ⟨q, e, .step e (.refl _), hq⟩
end Go.Proofs.Ythanbedmiaacdaa.Gl
/- Plain mathematics: what stands above by Idom is what dominates. -/
namespace Go.Proofs.Ythanbedmiaacdaa.Gl
open Go.ChangeShapes Go.WideShapes Go.ChangeAt Go.RowKit Go.Proofs.Ythanbedmiaacdaa.Mem Go.Proofs.Ythanbedmiaacdaa.Gr Go.Proofs.Ythanbedmiaacdaa.Gn Go.Proofs.Ythanbedmiaacdaa.Gc
set_option linter.unusedVariables false

/-- x is y, or comes of it by going above. -/
inductive DA (D : List Nat) : Nat → Nat → Prop
  | refl (x : Nat) : DA D x x
  | step {x y : Nat} : 0 < y → DA D x (D.getD y 0) → DA D x y
theorem DA.trans {D : List Nat} {x y z : Nat} (h : DA D x y) (k : DA D y z) : DA D x z := by
  induction k with
  | refl => exact h
  | step h0 _ ih => exact .step h0 ih
theorem DA.zero {D : List Nat} {x : Nat} (h : DA D x 0) : x = 0 := by
  cases h with
  | refl => rfl
  | step h0 _ => omega
theorem DA.le {D : List Nat} (hf : Falls D) {x : Nat} : ∀ {y : Nat}, y < D.length → DA D x y → x ≤ y := by
  intro y
  induction y using Nat.strongRecOn with
  | ind y ih =>
    intro hy h
    cases h with
    | refl => exact Nat.le_refl _
    | step h0 h => have h1 := hf y h0 hy; have := ih _ h1 (by omega) h; omega
theorem DA.congr {D D' : List Nat} (hf : Falls D) {x : Nat} : ∀ {y : Nat}, y < D.length → (∀ z, z ≤ y → D.getD z 0 = D'.getD z 0) → DA D x y → DA D' x y := by
  intro y
  induction y using Nat.strongRecOn with
  | ind y ih =>
    intro hy he h
    cases h with
    | refl => exact .refl _
    | step h0 h =>
      have h1 := hf y h0 hy
      refine .step h0 ?_
      rw [← he y (Nat.le_refl _)]
      exact ih _ h1 (by omega) (fun z hz => he z (by omega)) h
theorem common_da {l : List Nat} (hf : Falls l) : ∀ (f a b : Nat), a < l.length → b < l.length → a + b ≤ f → DA l (commonN l f a b) a ∧ DA l (commonN l f a b) b ∧ ∀ x, DA l x a → DA l x b → DA l x (commonN l f a b)
  | 0, a, b, ha, hb, hfl => by
    have : a = 0 := by omega
    have : b = 0 := by omega
    subst a b
    exact ⟨.refl _, .refl _, fun x h _ => h⟩
  | f + 1, a, b, ha, hb, hfl => by
    unfold commonN
    by_cases h : b < a
    · rw [if_pos h]
      have hfa := hf a (by omega) ha
      obtain ⟨h1, h2, h3⟩ := common_da hf f (l.getD a 0) b (by omega) hb (by omega)
      refine ⟨.step (by omega) h1, h2, fun x hx hxb => h3 x ?_ hxb⟩
      have := hxb.le hf hb
      cases hx with
      | refl => omega
      | step _ hx => exact hx
    · rw [if_neg h]
      by_cases h' : a < b
      · rw [if_pos h']
        have hfb := hf b (by omega) hb
        obtain ⟨h1, h2, h3⟩ := common_da hf f a (l.getD b 0) ha (by omega) (by omega)
        refine ⟨h1, .step (by omega) h2, fun x hx hxb => h3 x hx ?_⟩
        have := hx.le hf ha
        cases hxb with
        | refl => omega
        | step _ hxb => exact hxb
      · rw [if_neg h']
        have : a = b := by omega
        subst this
        exact ⟨.refl _, .refl _, fun x hx _ => hx⟩
/-- What stands above a number: the last in common of its parent and its half. -/
structure Nca (s : St) (half : List Nat) (D : List Nat) (w : Nat) : Prop where
  one : DA D (D.getD w 0) (s.parent.getD w 0).toNat
  two : DA D (D.getD w 0) (half.getD w 0)
  all : ∀ x, DA D x (s.parent.getD w 0).toNat → DA D x (half.getD w 0) → DA D x (D.getD w 0)
/-- What has been laid of the rows above and idom after so many numbers. -/
structure Laid (s : St) (half : List Nat) (d : List Nat × List Int) (j : Nat) : Prop where
  ab : Above s d
  nca : ∀ w, 0 < w → w ≤ j → w < s.came.length → Nca s half d.1 w
  idom : ∀ w, 0 < w → w ≤ j → w < s.came.length → d.2.getD (s.came.getD w 0) (-1) = (s.came.getD (d.1.getD w 0) 0 : Nat)
  rest : ∀ b, b < s.number.length → (∀ w, 0 < w → w ≤ j → w < s.came.length → s.came.getD w 0 ≠ b) → d.2.getD b (-1) = -1
theorem laid_step {T : G} {s : St} {half : List Nat} {d : List Nat × List Int} {j : Nat} (h : Dfs T s) (hl : ∀ i, half.getD i 0 ≤ i) (hlt : ∀ w, 0 < w → w < s.came.length → half.getD w 0 < w) (hd : Laid s half d j) (hj : j + 1 < s.came.length) : Laid s half (domStep s half d (j + 1)) (j + 1) := by
  have hp := h.know.inv.parent
  have hr : Rooted s := fun n h1 h2 => by obtain ⟨q, hq, _⟩ := h.up n h1 h2; rw [hq]; omega
  obtain ⟨hab, hcl⟩ := domStep_above (n := j + 1) hd.ab hp h.know.ups hr hl (by omega) hj
  obtain ⟨hpq, hpl⟩ := parent_nat (n := j + 1) hp h.know.ups hr (by omega) hj
  have hhl := hlt (j + 1) (by omega) hj
  have hlen := hd.ab.above
  obtain ⟨c1, c2, c3⟩ := common_da hd.ab.falls ((s.parent.getD (j + 1) 0).toNat + half.getD (j + 1) 0) (s.parent.getD (j + 1) 0).toNat (half.getD (j + 1) 0) (by omega) (by omega) (Nat.le_refl _)
  obtain ⟨a, ha⟩ : ∃ a, commonN d.1 ((s.parent.getD (j + 1) 0).toNat + half.getD (j + 1) 0) (s.parent.getD (j + 1) 0).toNat (half.getD (j + 1) 0) = a := ⟨_, rfl⟩
  have e1 : (domStep s half d (j + 1)).1 = d.1.set (j + 1) a := by rw [← ha]; rfl
  have e2 : (domStep s half d (j + 1)).2 = d.2.set (s.came.getD (j + 1) 0) (s.came.getD a 0 : Nat) := by rw [← ha]; rfl
  rw [ha] at c1 c2 c3 hcl
  have g1 : ∀ z, (domStep s half d (j + 1)).1.getD z 0 = if j + 1 = z then a else d.1.getD z 0 := fun z => by
    rw [e1, getD_set]
    by_cases hz : j + 1 = z
    · rw [if_pos ⟨hz, by omega⟩, if_pos hz]
    · rw [if_neg (fun y => hz y.1), if_neg hz]
  have old : ∀ {x y}, y ≤ j → DA d.1 x y → DA (domStep s half d (j + 1)).1 x y := fun hy hx => hx.congr hd.ab.falls (by omega) (fun z hz => by rw [g1, if_neg (by omega)])
  have new : ∀ {x y}, y ≤ j → DA (domStep s half d (j + 1)).1 x y → DA d.1 x y := fun hy hx => hx.congr hab.falls (by rw [hab.above]; omega) (fun z hz => by rw [g1, if_neg (by omega)])
  have hinj : ∀ w, w ≤ j → w < s.came.length → s.came.getD (j + 1) 0 ≠ s.came.getD w 0 := fun w hw hwk e => by have := h.know.inj hj hwk e; omega
  have hcn : s.came.getD (j + 1) 0 < d.2.length := by rw [hd.ab.idom, h.know.inv.number]; exact (h.know.came (j + 1) hj).1
  refine ⟨hab, fun w h0 hw hwk => ?_, fun w h0 hw hwk => ?_, fun b hb hno => ?_⟩
  · by_cases hwj : w = j + 1
    · subst hwj
      refine ⟨?_, ?_, fun x hx hx2 => ?_⟩
      · rw [g1, if_pos rfl]; exact old (by omega) c1
      · rw [g1, if_pos rfl]; exact old (by omega) c2
      · rw [g1, if_pos rfl]
        exact old (by omega) (c3 x (new (by omega) hx) (new (by omega) hx2))
    · have hn := hd.nca w h0 (by omega) hwk
      obtain ⟨_, hpw⟩ := parent_nat hp h.know.ups hr h0 hwk
      have hhw := hlt w h0 hwk
      have hdw := hd.ab.falls w h0 (by omega)
      refine ⟨?_, ?_, fun x hx hx2 => ?_⟩
      · rw [g1, if_neg (by omega)]; exact old (by omega) hn.one
      · rw [g1, if_neg (by omega)]; exact old (by omega) hn.two
      · rw [g1, if_neg (by omega)]; exact old (by omega) (hn.all x (new (by omega) hx) (new (by omega) hx2))
  · by_cases hwj : w = j + 1
    · subst hwj
      rw [e2, getD_set, if_pos ⟨rfl, hcn⟩, g1, if_pos rfl]
    · rw [e2, getD_set, if_neg (fun y => hinj w (by omega) hwk y.1), g1, if_neg (by omega)]
      exact hd.idom w h0 (by omega) hwk
  · rw [e2, getD_set, if_neg (fun y => hno (j + 1) (by omega) (Nat.le_refl _) hj y.1)]
    exact hd.rest b hb (fun w h0 hw hwk => hno w h0 (by omega) hwk)
theorem laid_all {T : G} {s : St} {half : List Nat} (h : Dfs T s) (hl : ∀ i, half.getD i 0 ≤ i) (hlt : ∀ w, 0 < w → w < s.came.length → half.getD w 0 < w) : ∀ j, j < s.came.length → Laid s half (domTo s half j) j
  | 0, hj => by
    have hp := h.know.inv.parent
    have hr : Rooted s := fun n h1 h2 => by obtain ⟨q, hq, _⟩ := h.up n h1 h2; rw [hq]; omega
    refine ⟨domTo_above hp h.know.ups hr hl 0 (Or.inr rfl), fun w h0 hw => by omega, fun w h0 hw => by omega, fun b hb _ => ?_⟩
    show (List.replicate s.number.length (-1 : Int)).getD b (-1) = -1
    rw [List.getD_eq_getElem?_getD, List.getElem?_replicate]
    split <;> rfl
  | j + 1, hj => by
    rw [domTo_succ]
    exact laid_step h hl hlt (laid_all h hl hlt j (by omega)) hj
section
variable {g : List (List Int)} {half D : List Nat}
/-- All that is known of a walk, its halves, and what stands above. -/
structure Tree2 (g : List (List Int)) (s : St) (half D : List Nat) : Prop where
  dfs : Dfs (tidyN g) s
  pos : 0 < g.length
  falls : Falls D
  len : D.length = s.came.length
  nca : ∀ w, 0 < w → w < s.came.length → Nca s half D w
  lt : ∀ w, 0 < w → w < s.came.length → half.getD w 0 < w
  hop : ∀ w, 0 < w → w < s.came.length → Hop (tidyN g) s w (half.getD w 0)
  anc : ∀ w, 0 < w → w < s.came.length → Anc s.parent (half.getD w 0) w
  le1 : ∀ v w, 0 < w → w < s.came.length → v < s.came.length → s.came.getD w 0 ∈ (tidyN g).getD (s.came.getD v 0) [] → v < w → half.getD w 0 ≤ v
  le2 : ∀ v w, 0 < w → w < s.came.length → v < s.came.length → s.came.getD w 0 ∈ (tidyN g).getD (s.came.getD v 0) [] → w < v → ∀ u, Anc s.parent u v → w < u → half.getD w 0 ≤ half.getD u 0
variable {s : St}
theorem par_nat {T : G} (h : Dfs T s) {w q : Nat} (e : s.parent.getD w (-1) = (q : Int)) : (s.parent.getD w 0).toNat = q := by
  have : w < s.parent.length := getD_lt (by rw [e]; omega)
  rw [List.getD_eq_getElem?_getD, List.getElem?_eq_getElem this] at e ⊢
  simp only [Option.getD_some] at e ⊢
  rw [e]; rfl
theorem anc_cases {u : List Int} {x y q : Nat} (h : Anc u x y) (hne : x ≠ y) (e : u.getD y (-1) = (q : Int)) : Anc u x q := by
  cases h with
  | refl => exact absurd rfl hne
  | @step _ z e' hz =>
    rw [e] at e'
    have : q = z := by omega
    subst this
    exact hz
theorem da_cases {x y : Nat} (h : DA D x y) (hne : x ≠ y) : 0 < y ∧ DA D x (D.getD y 0) := by
  cases h with
  | refl => exact absurd rfl hne
  | step h0 h => exact ⟨h0, h⟩
/-- What stands above y, and not below z on the way down the tree to it, stands above z. -/
theorem da_up (t : Tree2 g s half D) {x z y : Nat} (hA : Anc s.parent z y) : y < s.came.length → DA D x y → x ≤ z → DA D x z := by
  induction hA with
  | refl => intro _ h _; exact h
  | @step y q e hzq ih =>
    intro hy h hxz
    have hq := ups_lt t.dfs.know.ups e
    have hz := hzq.le t.dfs.know.ups
    obtain ⟨h0, h1⟩ := da_cases h (by omega)
    have hn := (t.nca y h0 hy).one
    rw [par_nat t.dfs e] at hn
    exact ih (by omega) (h1.trans hn) hxz
theorem da_parent (t : Tree2 g s half D) {v w : Nat} (h0 : 0 < w) (hw : w < s.came.length) (hv : v < s.came.length) (he : s.came.getD w 0 ∈ (tidyN g).getD (s.came.getD v 0) []) : DA D (D.getD w 0) v := by
  have hu := t.dfs.know.ups
  have hn := t.nca w h0 hw
  have hd : D.getD w 0 ≤ half.getD w 0 := hn.two.le t.falls (by have := t.lt w h0 hw; have := t.len; omega)
  obtain ⟨q, hq, hqw, _⟩ := t.dfs.up w h0 hw
  have hn1 := hn.one
  rw [par_nat t.dfs hq] at hn1
  have hself : DA D (D.getD w 0) w := .step h0 (.refl _)
  rcases Nat.lt_trichotomy v w with hvw | hvw | hvw
  · have h1 := t.le1 v w h0 hw hv he hvw
    obtain ⟨j, hj, ej, _, hA⟩ := t.dfs.goes v hv _ he
    rw [Know.num t.dfs.know hw] at ej
    have : w = j := by omega
    subst this
    exact da_up t (anc_cases (hA hvw) (by omega) hq) (by omega) hn1 (by omega)
  · subst hvw; exact hself
  · have key : ∀ u, Anc s.parent u v → D.getD w 0 ≤ u → DA D (D.getD w 0) u := by
      intro u
      induction u using Nat.strongRecOn with
      | ind u ih =>
        intro hA hdu
        have huv := hA.le hu
        by_cases huw : u ≤ w
        · have hAw := anc_between t.dfs hA huw (by omega) hv
          by_cases hue : u = w
          · subst hue; exact hself
          · exact da_up t (anc_cases hAw hue hq) (by omega) hn1 hdu
        · obtain ⟨z, hz, hzu, _⟩ := t.dfs.up u (by omega) (by omega)
          have hnu := t.nca u (by omega) (by omega)
          have h2 := t.le2 v w h0 hw hv he hvw u hA (by omega)
          have hA2 := anc_cases (t.anc u (by omega) (by omega)) (by have := t.lt u (by omega) (by omega); omega) hz
          have hle := hA2.le hu
          have hAz : Anc s.parent z v := (Anc.step hz (.refl _)).trans hA
          have hz1 := ih z hzu hAz (by omega)
          refine .step (by omega) (hnu.all _ ?_ ?_)
          · rw [par_nat t.dfs hz]; exact hz1
          · exact da_up t hA2 (by omega) hz1 (by omega)
    have := t.lt w h0 hw
    exact key v (.refl _) (by omega)
/-- What stands above dominates. -/
theorem da_sound (t : Tree2 g s half D) {x : Nat} (hx : x < s.came.length) {b : Nat} (hw : Way g (s.came.getD x 0 : Nat) b) : ∀ i, i < s.came.length → s.came.getD i 0 = b → ¬ DA D x i := by
  induction hw with
  | root _ hne =>
    intro i hi e hd
    have : i = 0 := t.dfs.know.inj hi t.dfs.some (by rw [e, t.dfs.zero])
    subst this
    have := hd.zero
    subst this
    exact hne (by rw [t.dfs.zero]; rfl)
  | step ha he hne ih =>
    intro w hw e hd
    obtain ⟨v, hv, ev⟩ := (way_came t.dfs t.pos).1 (by
      have : ∀ {b}, Way g (s.came.getD x 0 : Nat) b → Way g (-1) b := by
        intro b hb
        induction hb with
        | root h _ => exact .root h (by decide)
        | step _ h _ ih => exact .step ih h (by omega)
      exact this ha)
    have hxw : x ≠ w := fun e' => hne (by rw [← e, e'])
    obtain ⟨h0, h1⟩ := da_cases hd hxw
    have hp := da_parent t h0 hw hv (by rw [e, ev]; exact edge_T.1 he)
    exact ih v hv ev (h1.trans hp)
theorem hop_way (t : Tree2 g s half D) {x w v : Nat} (hx : x < s.came.length) (hw : w < s.came.length) (hxw : x < w) (hh : Hop (tidyN g) s w v) (hv : Way g (s.came.getD x 0 : Nat) (s.came.getD v 0)) : Way g (s.came.getD x 0 : Nat) (s.came.getD w 0) := by
  have hne : ∀ {y}, y < s.came.length → x < y → ((s.came.getD y 0 : Nat) : Int) ≠ ((s.came.getD x 0 : Nat) : Int) := fun hy hxy e => by have := t.dfs.know.inj hx hy (by omega); omega
  induction hh with
  | edge _ he => exact .step hv (edge_T.2 he) (hne hw hxw)
  | step _ he hy hwy _ ih => exact ih (.step hv (edge_T.2 he) (hne hy (by omega)))
/-- What dominates stands above. -/
theorem da_complete (t : Tree2 g s half D) {x : Nat} (hx : x < s.came.length) : ∀ {w : Nat}, w < s.came.length → (x = w ∨ ¬ Way g (s.came.getD x 0 : Nat) (s.came.getD w 0)) → DA D x w := by
  intro w
  induction w using Nat.strongRecOn with
  | ind w ih =>
    intro hw h
    by_cases hxw : x = w
    · subst hxw; exact .refl _
    · have hnw := h.resolve_left hxw
      have hA : Anc s.parent x w := Classical.byContradiction fun hn => hnw (way_avoid t.dfs t.pos hx hw hn)
      have hle := hA.le t.dfs.know.ups
      have h0 : 0 < w := by omega
      obtain ⟨q, hq, hqw, he, _⟩ := t.dfs.up w h0 hw
      have hne : ((s.came.getD w 0 : Nat) : Int) ≠ ((s.came.getD x 0 : Nat) : Int) := fun e => by have := t.dfs.know.inj hx hw (by omega); omega
      have hn := t.nca w h0 hw
      refine .step h0 (hn.all x ?_ ?_)
      · rw [par_nat t.dfs hq]
        refine ih q hqw (by omega) (Or.inr fun hway => hnw (.step hway (edge_T.2 he) hne))
      · have hlt := t.lt w h0 hw
        refine ih _ hlt (by omega) (Or.inr fun hway => hnw (hop_way t hx hw (by omega) (t.hop w h0 hw) hway))
theorem da_dom (t : Tree2 g s half D) {x w : Nat} (hx : x < s.came.length) (hw : w < s.came.length) : DA D x w ↔ domB g (s.came.getD x 0 : Nat) (s.came.getD w 0 : Nat) = true := by
  rw [domB_iff]
  constructor
  · intro h
    refine ⟨(way_came t.dfs t.pos).2 ⟨x, hx, rfl⟩, (way_came t.dfs t.pos).2 ⟨w, hw, rfl⟩, Or.inr fun hway => da_sound t hx hway w hw rfl h⟩
  · rintro ⟨_, _, h⟩
    refine da_complete t hx hw (h.elim (fun e => Or.inl (t.dfs.know.inj hx hw e)) Or.inr)
end
end Go.Proofs.Ythanbedmiaacdaa.Gl
/- Plain mathematics: chains of Idom tell just who dominates. -/
namespace Go.Proofs.Ythanbedmiaacdaa.Gl
open Go.ChangeShapes Go.WideShapes Go.ChangeAt Go.RowKit Go.Proofs.Ythanbedmiaacdaa.Mem Go.Proofs.Ythanbedmiaacdaa.Gr Go.Proofs.Ythanbedmiaacdaa.Gn Go.Proofs.Ythanbedmiaacdaa.Gc
set_option linter.unusedVariables false

/-- What stands above each number, in the walk of a graph. -/
def aboveN (T : G) : List Nat := (domTo (walkN T) (halvesN (walkN T) (turnN T)) ((walkN T).came.length - 1)).1
theorem laid_walk {g : List (List Int)} (h0 : 0 < g.length) : Laid (walkN (tidyN g)) (halvesN (walkN (tidyN g)) (turnN (tidyN g))) (domTo (walkN (tidyN g)) (halvesN (walkN (tidyN g)) (turnN (tidyN g))) ((walkN (tidyN g)).came.length - 1)) ((walkN (tidyN g)).came.length - 1) := by
  have hT := tidyN_neat g
  have hp : 0 < (tidyN g).length := by rw [tidyN_len]; exact h0
  have h := walkN_dfs hT.ok hp
  have hs := h.some
  exact laid_all h (fun i => halves_low _ _ i) (fun w h1 h2 => (halves_fin hT hp h1 h2).lt) _ (by omega)
theorem tree2 {g : List (List Int)} (h0 : 0 < g.length) : Tree2 g (walkN (tidyN g)) (halvesN (walkN (tidyN g)) (turnN (tidyN g))) (aboveN (tidyN g)) := by
  have hT := tidyN_neat g
  have hp : 0 < (tidyN g).length := by rw [tidyN_len]; exact h0
  have h := walkN_dfs hT.ok hp
  have hl := laid_walk h0
  have hf := fun w h1 h2 => halves_fin (w := w) hT hp h1 h2
  refine ⟨h, h0, hl.ab.falls, hl.ab.above, fun w h1 h2 => hl.nca w h1 (by omega) h2, fun w h1 h2 => (hf w h1 h2).lt, fun w h1 h2 => (hf w h1 h2).hop, fun w h1 h2 => (hf w h1 h2).anc, fun v w h1 h2 hv he hlt => ?_, fun v w h1 h2 hv he hlt u hA hu => ?_⟩
  · exact (hf w h1 h2).le1 _ ((mem_turnN hT).2 he) v (Know.num h.know hv) hlt
  · exact (hf w h1 h2).le2 _ ((mem_turnN hT).2 he) v (Know.num h.know hv) hlt u hA hu
section
variable {g : List (List Int)}
theorem idom_len (g : List (List Int)) : (idomN (tidyN g)).length = g.length := by
  unfold idomN dominatorsN
  rw [domTo_len, (walk_inv (tidyN_ok g)).number, tidyN_len]
theorem idom_zero (l : List Int) {b : Nat} (h : b < l.length) : l.getD b 0 = l.getD b (-1) := by
  rw [List.getD_eq_getElem?_getD, List.getD_eq_getElem?_getD, List.getElem?_eq_getElem h]; rfl
theorem idom_at (h0 : 0 < g.length) {w : Nat} (h1 : 0 < w) (h2 : w < (walkN (tidyN g)).came.length) : (idomN (tidyN g)).getD ((walkN (tidyN g)).came.getD w 0) (-1) = ((walkN (tidyN g)).came.getD ((aboveN (tidyN g)).getD w 0) 0 : Nat) :=
  (laid_walk h0).idom w h1 (by omega) h2
theorem idom_none (h0 : 0 < g.length) {b : Nat} (hb : b < g.length) (hno : ∀ w, 0 < w → w < (walkN (tidyN g)).came.length → (walkN (tidyN g)).came.getD w 0 ≠ b) : (idomN (tidyN g)).getD b (-1) = -1 :=
  (laid_walk h0).rest b (by rw [(walk_inv (tidyN_ok g)).number, tidyN_len]; exact hb) (fun w h1 _ h3 => hno w h1 h3)
theorem known_out {l : List Int} {n : Int} (h : ¬ (0 ≤ n ∧ n < l.length)) : known l n = false := by
  rcases hb : known l n with _ | _
  · rfl
  · exact absurd (known_iff.1 hb) h
theorem chain_none {l : List Int} {a : Int} : ∀ k, chainTo l a k (-1) = -1
  | 0 => rfl
  | k + 1 => by rw [chainTo, known_out (by omega)]; rfl
theorem came_lt (h0 : 0 < g.length) {w : Nat} (h : w < (walkN (tidyN g)).came.length) : (walkN (tidyN g)).came.getD w 0 < g.length := by
  have := ((tree2 h0).dfs.know.came w h).1
  rw [tidyN_len] at this; exact this
theorem above_lt (h0 : 0 < g.length) {w : Nat} (h1 : 0 < w) (h2 : w < (walkN (tidyN g)).came.length) : (aboveN (tidyN g)).getD w 0 < w := (tree2 h0).falls w h1 (by rw [(tree2 h0).len]; exact h2)
/-- One step of a chain from a reached block. -/
theorem chain_step (h0 : 0 < g.length) {a : Int} {f w : Nat} (hw : w < (walkN (tidyN g)).came.length) (hne : a ≠ ((walkN (tidyN g)).came.getD w 0 : Nat)) : chainTo (idomN (tidyN g)) a (f + 1) ((walkN (tidyN g)).came.getD w 0 : Nat) =
    if w = 0 then -1 else chainTo (idomN (tidyN g)) a f ((walkN (tidyN g)).came.getD ((aboveN (tidyN g)).getD w 0) 0 : Nat) := by
  have hl := came_lt h0 hw
  have hk : known (idomN (tidyN g)) ((walkN (tidyN g)).came.getD w 0 : Nat) = true := known_iff.2 ⟨by omega, by rw [idom_len]; omega⟩
  have hb : (a == (((walkN (tidyN g)).came.getD w 0 : Nat) : Int)) = false := beq_eq_false_iff_ne.2 hne
  rw [chainTo, hk, hb]
  simp only [Bool.not_true, Bool.or_self, Bool.false_eq_true, if_false]
  rw [Int.toNat_natCast, idom_zero _ (by rw [idom_len]; exact hl)]
  by_cases hw0 : w = 0
  · subst hw0
    rw [if_pos rfl, idom_none h0 hl (fun v hv hvk e => by have := (tree2 h0).dfs.know.inj hvk hw e; omega), chain_none]
  · rw [if_neg hw0, idom_at h0 (by omega) hw]
theorem chain_da (h0 : 0 < g.length) {x : Nat} (hx : x < (walkN (tidyN g)).came.length) : ∀ (f w : Nat), w < (walkN (tidyN g)).came.length → chainTo (idomN (tidyN g)) ((walkN (tidyN g)).came.getD x 0 : Nat) f ((walkN (tidyN g)).came.getD w 0 : Nat) = ((walkN (tidyN g)).came.getD x 0 : Nat) → DA (aboveN (tidyN g)) x w
  | 0, w, hw, e => by
    have : x = w := (tree2 h0).dfs.know.inj hx hw (by have : chainTo (idomN (tidyN g)) ((walkN (tidyN g)).came.getD x 0 : Nat) 0 ((walkN (tidyN g)).came.getD w 0 : Nat) = ((walkN (tidyN g)).came.getD w 0 : Nat) := rfl
                                                      rw [this] at e; omega)
    subst this; exact .refl _
  | f + 1, w, hw, e => by
    by_cases hxw : x = w
    · subst hxw; exact .refl _
    · have hne : (((walkN (tidyN g)).came.getD x 0 : Nat) : Int) ≠ ((walkN (tidyN g)).came.getD w 0 : Nat) := fun e' => hxw ((tree2 h0).dfs.know.inj hx hw (by omega))
      rw [chain_step h0 hw hne] at e
      by_cases hw0 : w = 0
      · rw [if_pos hw0] at e; omega
      · rw [if_neg hw0] at e
        have := above_lt h0 (by omega) hw
        exact .step (by omega) (chain_da h0 hx f _ (by omega) e)
theorem da_chain (h0 : 0 < g.length) {x w : Nat} (hx : x < (walkN (tidyN g)).came.length) (h : DA (aboveN (tidyN g)) x w) : w < (walkN (tidyN g)).came.length → ∀ f, w ≤ f → chainTo (idomN (tidyN g)) ((walkN (tidyN g)).came.getD x 0 : Nat) f ((walkN (tidyN g)).came.getD w 0 : Nat) = ((walkN (tidyN g)).came.getD x 0 : Nat) := by
  induction h with
  | refl => intro _ f _; exact chain_self _ _ _
  | @step w hw0 _ ih =>
    intro hw f hf
    have hlt := above_lt h0 hw0 hw
    by_cases hxw : x = w
    · subst hxw; exact chain_self _ _ _
    · have hne : (((walkN (tidyN g)).came.getD x 0 : Nat) : Int) ≠ ((walkN (tidyN g)).came.getD w 0 : Nat) := fun e' => hxw ((tree2 h0).dfs.know.inj hx hw (by omega))
      cases f with
      | zero => omega
      | succ f =>
        rw [chain_step h0 hw hne, if_neg (by omega)]
        exact ih (by omega) f (by omega)
/-- Chains of Idom tell who dominates, among what is reached. -/
theorem dominates_dom (h0 : 0 < g.length) {a b : Nat} (ha : Way g (-1) a) (hb : Way g (-1) b) : dominatesN (idomN (tidyN g)) (a : Nat) (b : Nat) = domB g (a : Nat) (b : Nat) := by
  obtain ⟨x, hx, rfl⟩ := (way_came (tree2 h0).dfs h0).1 ha
  obtain ⟨w, hw, rfl⟩ := (way_came (tree2 h0).dfs h0).1 hb
  rw [Bool.eq_iff_iff, ← da_dom (tree2 h0) hx hw]
  have hlx := came_lt h0 hx
  have hwl : w < g.length := by
    have := (tree2 h0).dfs.know.inv.came
    rw [tidyN_len] at this
    omega
  unfold dominatesN
  rw [idom_len, Bool.and_eq_true, beq_iff_eq]
  constructor
  · rintro ⟨_, e⟩; exact chain_da h0 hx _ w hw e.symm
  · intro h
    have e := da_chain h0 hx h hw g.length (by omega)
    rw [e]
    exact ⟨known_iff.2 ⟨by omega, by rw [idom_len]; omega⟩, rfl⟩
theorem chain_reached (h0 : 0 < g.length) {a : Int} : ∀ (f w : Nat), w < (walkN (tidyN g)).came.length → chainTo (idomN (tidyN g)) a f ((walkN (tidyN g)).came.getD w 0 : Nat) = -1 ∨ ∃ z, z < (walkN (tidyN g)).came.length ∧ chainTo (idomN (tidyN g)) a f ((walkN (tidyN g)).came.getD w 0 : Nat) = ((walkN (tidyN g)).came.getD z 0 : Nat)
  | 0, w, hw => Or.inr ⟨w, hw, rfl⟩
  | f + 1, w, hw => by
    by_cases hne : a = ((walkN (tidyN g)).came.getD w 0 : Nat)
    · rw [hne, chain_self]; exact Or.inr ⟨w, hw, rfl⟩
    · rw [chain_step h0 hw hne]
      by_cases hw0 : w = 0
      · rw [if_pos hw0]; exact Or.inl rfl
      · rw [if_neg hw0]
        have := above_lt h0 (by omega) hw
        exact chain_reached h0 f _ (by omega)
/-- Of what is not reached nothing dominates, and it dominates nothing, but for itself. -/
theorem dominates_out (h0 : 0 < g.length) {a b : Nat} (ha : a < g.length) (hb : b < g.length) (hab : a ≠ b) (h : ¬ Way g (-1) a ∨ ¬ Way g (-1) b) : dominatesN (idomN (tidyN g)) (a : Nat) (b : Nat) = false := by
  have hne : ((a : Nat) : Int) ≠ ((b : Nat) : Int) := by omega
  unfold dominatesN
  by_cases hr : Way g (-1) b
  · have hna := h.resolve_right (fun x => x hr)
    obtain ⟨w, hw, rfl⟩ := (way_came (tree2 h0).dfs h0).1 hr
    have : ((a : Nat) : Int) ≠ chainTo (idomN (tidyN g)) (a : Nat) (idomN (tidyN g)).length ((walkN (tidyN g)).came.getD w 0 : Nat) := by
      rcases chain_reached h0 (a := (a : Int)) (idomN (tidyN g)).length w hw with e | ⟨z, hz, e⟩
      · rw [e]; omega
      · rw [e]
        intro e2
        exact hna ((way_came (tree2 h0).dfs h0).2 ⟨z, hz, by omega⟩)
    rw [beq_eq_false_iff_ne.2 this, Bool.and_false]
  · rw [idom_len]
    obtain ⟨n, hn⟩ : ∃ n, g.length = n + 1 := ⟨g.length - 1, by omega⟩
    have hk : known (idomN (tidyN g)) ((b : Nat) : Int) = true := known_iff.2 ⟨by omega, by rw [idom_len]; omega⟩
    have hbn : (((a : Nat) : Int) == ((b : Nat) : Int)) = false := beq_eq_false_iff_ne.2 hne
    have e : chainTo (idomN (tidyN g)) (a : Nat) (n + 1) (b : Nat) = -1 := by
      rw [chainTo, hk, hbn]
      simp only [Bool.not_true, Bool.or_self, Bool.false_eq_true, if_false]
      rw [Int.toNat_natCast, idom_zero _ (by rw [idom_len]; exact hb), idom_none h0 hb (fun w _ hwk e => hr ((way_came (tree2 h0).dfs h0).2 ⟨w, hwk, e⟩)), chain_none]
    rw [hn, e, beq_eq_false_iff_ne.2 (by omega), Bool.and_false]
end
end Go.Proofs.Ythanbedmiaacdaa.Gl
