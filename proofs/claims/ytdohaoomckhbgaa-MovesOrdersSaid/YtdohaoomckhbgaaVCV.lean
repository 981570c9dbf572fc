/- Moves, plainly: when an order lacks a slot. -/
import Derived.Test.YtdohaoomckhbgaaVAN
import Derived.Test.YtdohaoomckhbgaaVCT
namespace Go.Proofs.Ytdohaoomckhbgaa.Vm
open Go.ChangeShapes Go.WideShapes Go.ChangeAt Go.RowKit Go.Maps Go.WideElems Go.ChangeMaps Go.Sort Go.Shelf Go.Proofs.Ytdohaoomckhbgaa.Mem Go.Proofs.Ytdohaoomckhbgaa.Br Go.Proofs.Ytdohaoomckhbgaa.Va Go.Proofs.Ytdohaoomckhbgaa.Vr
set_option linter.unusedVariables false
set_option linter.unusedSimpArgs false
/-- What goes round is left behind. -/
theorem stay {L es R : List Mov} (h : Goes L es R) (S : Int → Prop) : Uni L → (∀ y, S y → ∃ y', S y' ∧ (y', y) ∈ L) → (∀ y, S y → isTo L y = true) → ∀ y, S y → isTo R y = true := by
  induction h with
  | stop hn => intro _ _ h y hy; exact h y hy
  | @step L t es R hf hg ih =>
    intro hu h1 h2
    have hnt : ¬ S t := fun ht => by
      obtain ⟨y', _, hm⟩ := h1 t ht
      have hfr : isFrom L t = true := isFrom_iff.2 ⟨_, hm, rfl⟩
      have := hf.1
      unfold looseB at this
      rw [hfr] at this
      simp at this
    refine ih (hu.wo t) (fun y hy => ?_) (fun y hy => ?_)
    · obtain ⟨y', hy', hm⟩ := h1 y hy
      exact ⟨y', hy', mem_wo.2 ⟨hm, fun e => hnt (e ▸ hy')⟩⟩
    · obtain ⟨m, hm, e⟩ := isTo_iff.1 (h2 y hy)
      exact isTo_iff.2 ⟨m, mem_wo.2 ⟨hm, fun e2 => hnt (by rw [← e2, e]; exact hy)⟩, e⟩
theorem min_at (g : Nat → Int) : ∀ N, 1 ≤ N → ∃ j, j < N ∧ ∀ i, i < N → g j ≤ g i
  | 0, h => by omega
  | 1, _ => ⟨0, by omega, fun i hi => by rw [show i = 0 by omega]; exact Int.le_refl _⟩
  | N + 2, _ => by
    obtain ⟨j, hj, h⟩ := min_at g (N + 1) (by omega)
    rcases Int.lt_or_le (g (N + 1)) (g j) with h1 | h1
    · refine ⟨N + 1, by omega, fun i hi => ?_⟩
      by_cases e : i = N + 1
      · rw [e]; exact Int.le_refl _
      · have := h i (by omega); omega
    · refine ⟨j, by omega, fun i hi => ?_⟩
      by_cases e : i = N + 1
      · rw [e]; exact h1
      · exact h i (by omega)
/-- The document's circles hold the places that go round. -/
theorem circs_iff {l es R : List Mov} (hu : Uni l) (hg : Goes (pendN l) es R) (z : Int) : (∃ c ∈ circsN l, z ∈ c) ↔ isTo R z = true := by
  have hpl : ∀ m, m ∈ pendN l ↔ m ∈ l ∧ m.1 ≠ m.2 := fun m => by
    unfold pendN
    rw [keptN_self hu, List.mem_filter]
    simp
  have hsub := hg.sub
  have hRu := hsub.2.2.2.2 (pendN_uni l)
  have hRn := hsub.2.2.2.1
  constructor
  · rintro ⟨c, hc, hz⟩
    unfold circsN circL at hc
    obtain ⟨hc1, hc2⟩ := List.mem_filter.1 hc
    obtain ⟨x, hx, rfl⟩ := List.mem_map.1 hc1
    by_cases hr : ∃ n, RingAt l x n
    · obtain ⟨n, hr⟩ := hr
      rw [ringL_some hr] at hz hc2
      rw [orb_len] at hc2
      have hn1 : 1 < n := by simpa using hc2
      have hto : ∀ k, isTo l (it (srcD l) x k) = true := fun k => by
        obtain ⟨j, hj, e⟩ := it_orb hr.1 k
        rw [← e]; exact hr.2.1 j hj
      have hne : ∀ k, it (srcD l) x k ≠ it (srcD l) x (k + 1) := fun k e => by
        obtain ⟨j, hj, ej⟩ := it_orb hr.1 k
        have e2 : it (srcD l) x j = it (srcD l) x (j + 1) := by
          show it (srcD l) x j = srcD l (it (srcD l) x j)
          rw [ej]; exact e
        rcases Nat.lt_or_ge (j + 1) n with h1 | h1
        · exact hr.1.apart (by omega) h1 e2
        · have e3 : j + 1 = n := by omega
          rw [e3, hr.1.2.1] at e2
          exact hr.1.2.2 j (by omega) hj e2
      refine stay hg (fun y => ∃ k, it (srcD l) x k = y) (pendN_uni l) ?_ ?_ z ?_
      · rintro y ⟨k, rfl⟩
        obtain ⟨n', rfl⟩ : ∃ n', n = n' + 1 := ⟨n - 1, by omega⟩
        have e1 : srcD l (it (srcD l) x (k + n')) = it (srcD l) x k := by
          have := it_mul hr.1 k 1
          rw [Nat.one_mul] at this
          exact this
        refine ⟨_, ⟨k + n', rfl⟩, (hpl _).2 ⟨?_, ?_⟩⟩
        · rw [← e1]; exact mem_src hu (hto _)
        · show it (srcD l) x (k + n') ≠ it (srcD l) x k
          rw [← e1]; exact hne (k + n')
      · rintro y ⟨k, rfl⟩
        exact isTo_iff.2 ⟨_, (hpl _).2 ⟨mem_src hu (hto k), hne k⟩, rfl⟩
      · obtain ⟨j, _, e⟩ := mem_orb.1 hz
        exact ⟨j, e⟩
    · rw [ringL_none (fun n h => hr ⟨n, h⟩)] at hz
      cases hz
  · intro hz
    obtain ⟨N, hC, _⟩ := noFree_closed hRn hRu hz
    have htoR := it_to hRn hRu hz
    have hsame : ∀ y, isTo R y = true → srcD l y = srcD R y ∧ isTo l y = true ∧ srcD R y ≠ y := fun y hy => by
      have hm := mem_src hRu hy
      have hml := (hpl _).1 (hsub.1 _ hm)
      exact ⟨src_of_mem hu hml.1, isTo_iff.2 ⟨_, hml.1, rfl⟩, fun e => hml.2 e.symm⟩
    obtain ⟨j, hj, hmin⟩ := min_at (it (srcD R) z) N hC.1
    have hCx : ∀ i, it (srcD R) (it (srcD R) z j) i = it (srcD R) z (j + i) := fun i => (it_add _ _ _ _).symm
    have hl : ∀ i, it (srcD l) (it (srcD R) z j) i = it (srcD R) z (j + i) := by
      intro i
      induction i with
      | zero => rfl
      | succ i ih =>
        show srcD l (it (srcD l) (it (srcD R) z j) i) = _
        rw [ih, (hsame _ (htoR (j + i))).1]; rfl
    have hring : RingAt l (it (srcD R) z j) N := by
      refine ⟨⟨hC.1, ?_, fun i h1 h2 e => ?_⟩, fun i _ => ?_, fun i h1 h2 => ?_⟩
      · rw [hl]
        have := it_mul hC j 1
        rwa [Nat.one_mul] at this
      · rw [hl] at e
        exact hC.2.2 i h1 h2 (it_back hRn hRu hz j i e.symm)
      · rw [hl]; exact (hsame _ (htoR _)).2.1
      · rw [hl]
        obtain ⟨q, hq, e⟩ := it_orb hC (j + i)
        have h3 := hmin q hq
        have h4 : it (srcD R) z j ≠ it (srcD R) z (j + i) := fun e2 => hC.2.2 i h1 h2 (it_back hRn hRu hz j i e2)
        rw [e] at h3
        omega
    have hN1 : 1 < N := by
      rcases Nat.lt_or_ge 1 N with h | h
      · exact h
      · exfalso
        have e : N = 1 := by have := hC.1; omega
        have := hC.2.1
        rw [e] at this
        exact (hsame z hz).2.2 this
    refine ⟨ringL l (it (srcD R) z j), ?_, ?_⟩
    · unfold circsN circL
      rw [List.mem_filter]
      refine ⟨List.mem_map.2 ⟨_, ?_, rfl⟩, ?_⟩
      · rw [List.take_length]
        exact keysN_mem.2 (hsame _ (htoR j)).2.1
      · rw [ringL_some hring, orb_len]; simpa using hN1
    · rw [ringL_some hring, mem_orb]
      refine ⟨if j = 0 then 0 else N - j, by split <;> omega, ?_⟩
      rw [hl]
      split
      · rename_i e; rw [e]; rfl
      · rw [show j + (N - j) = N by omega]; exact hC.2.1
theorem fold_none {α : Type} (g : α → Option (List PM)) : ∀ (ms : List α) (a : Option (List PM)), ms.foldl (fun acc m => appO acc (g m)) a = none ↔ a = none ∨ ∃ m ∈ ms, g m = none
  | [], a => by simp
  | m :: ms, a => by
    rw [List.foldl_cons, fold_none g ms]
    have h : appO a (g m) = none ↔ a = none ∨ g m = none := by
      cases a with
      | none => rw [appO_none_l]; simp
      | some x => cases hg : g m with
        | none => rw [appO_none_r]; simp
        | some y => simp [appO]
    rw [h]
    simp only [List.mem_cons, exists_eq_or_imp]
    constructor
    · rintro ((h | h) | h)
      · exact Or.inl h
      · exact Or.inr (Or.inl h)
      · exact Or.inr (Or.inr h)
    · rintro (h | h | h)
      · exact Or.inl (Or.inl h)
      · exact Or.inl (Or.inr h)
      · exact Or.inr h
theorem bring_none {sc a b : Int} : bringN sc (-1) a b = none ↔ 16 ≤ a ∧ 16 ≤ b ∧ sc < 0 := by
  unfold bringN
  by_cases h : a < 16 ∨ b < 16
  · rw [if_pos h]; simp; omega
  · rw [if_neg h]
    by_cases h2 : 0 ≤ sc
    · rw [if_pos h2]; simp; omega
    · rw [if_neg h2, if_pos (by omega)]; simp; omega
theorem turn_none {sc : Int} (hs : sc = -1 ∨ sc = 15) {f : Int → Int} {x : Int} {N : Nat} (hN : 1 ≤ N) : turnN sc (-1) f x N = none ↔ anySlot (orb f x N) = true := by
  unfold turnN
  by_cases h : anySlot (orb f x N) = true
  · rw [if_pos h, if_pos (by omega)]; simp [h]
  · rw [if_neg h]
    refine ⟨fun e => ?_, fun e => absurd e h⟩
    exfalso
    by_cases h2 : 0 ≤ sc
    · rw [if_pos h2] at e
      have hreg : ∀ j, j < N → it f x j < 16 := fun j hj => by
        rcases Int.lt_or_le (it f x j) 16 with h3 | h3
        · exact h3
        · exfalso
          apply h
          unfold anySlot
          rw [List.any_eq_true]
          exact ⟨it f x j, mem_orb.2 ⟨j, hj, rfl⟩, by simp; omega⟩
      have e1 : SomeO (bringN sc (-1) sc x) := by
        unfold bringN
        rw [if_pos (by have := hreg 0 (by omega); exact Or.inr this)]
        exact ⟨_, rfl⟩
      have e2 : seqO (passG sc (-1) x sc) (circ f x N) ≠ none := fun e2 => by
        unfold seqO at e2
        rcases (fold_none _ _ _).1 e2 with e3 | ⟨m, hm, e3⟩
        · cases e3
        · unfold circ at hm
          obtain ⟨i, hi, rfl⟩ := List.mem_map.1 hm
          have h5 := hreg i (List.mem_range.1 hi)
          unfold passG at e3
          have := (bring_none.1 e3).1
          have h6 : (16 : Int) ≤ it f x i := this
          omega
      obtain ⟨xs, e1⟩ := e1
      unfold passN at e
      rw [e1] at e
      cases e4 : seqO (passG sc (-1) x sc) (circ f x N) with
      | none => exact e2 e4
      | some ys => rw [e4] at e; cases e
    · rw [if_neg h2] at e; cases e
/-- Two slots, not one, in a move. -/
def lacksB (l : List Mov) : Bool := l.any fun m => decide (16 ≤ m.1) && decide (16 ≤ m.2) && !(m.1 == m.2)
noncomputable def roundB (l : List Mov) : Bool := (circsN l).any fun c => c.any fun z => decide (16 ≤ z)
theorem order_lacks {l : List Mov} (hu : Uni l) (hp : ∀ m ∈ l, PlM m) {sc : Int} (hs : sc = -1 ∨ sc = 15) : (orderN l sc (-1)).2 = if (decide (sc < 0) && lacksB l || roundB l) = true then 43 else 0 := by
  have hf := fault_none hu hp hs (Or.inl (rfl : (-1 : Int) = -1))
  unfold orderN
  rw [if_pos hf]
  have hgo := goes_greedy l.length (pendN l) (pendN_len l)
  generalize (greedyN l.length (pendN l)).1 = es at *
  generalize (greedyN l.length (pendN l)).2 = R at *
  have hpu := pendN_uni l
  have hsub := hgo.sub
  have hRu := hsub.2.2.2.2 hpu
  have hRn := hsub.2.2.2.1
  obtain ⟨r1, r2, _, _⟩ := run_goes hgo hpu (fun _ => 0)
  obtain ⟨l1, _, l3⟩ := least_props hRn hRu
  have hround : roundB l = true ↔ ∃ z, isTo R z = true ∧ 16 ≤ z := by
    unfold roundB
    rw [List.any_eq_true]
    constructor
    · rintro ⟨c, hc, h⟩
      rw [List.any_eq_true] at h
      obtain ⟨z, hz, h2⟩ := h
      exact ⟨z, (circs_iff hu hgo z).1 ⟨c, hc, hz⟩, by simpa using h2⟩
    · rintro ⟨z, hz, h2⟩
      obtain ⟨c, hc, hz2⟩ := (circs_iff hu hgo z).2 hz
      exact ⟨c, hc, by rw [List.any_eq_true]; exact ⟨z, hz2, by simpa using h2⟩⟩
  have hturn : (∃ x ∈ leastN R, turnG sc (-1) R x = none) ↔ ∃ z, isTo R z = true ∧ 16 ≤ z := by
    constructor
    · rintro ⟨x, hx, e⟩
      have hC := per_closed hRn hRu (l1 x hx)
      have h := (turn_none hs hC.1).1 e
      unfold anySlot at h
      rw [List.any_eq_true] at h
      obtain ⟨z, hz, h2⟩ := h
      obtain ⟨j, _, e2⟩ := mem_orb.1 hz
      exact ⟨z, by rw [← e2]; exact it_to hRn hRu (l1 x hx) j, by simp at h2; omega⟩
    · rintro ⟨z, hz, h2⟩
      obtain ⟨x, hx, k, e⟩ := l3 z hz
      have hC := per_closed hRn hRu (l1 x hx)
      obtain ⟨j, hj, ej⟩ := it_orb hC k
      refine ⟨x, hx, (turn_none hs hC.1).2 ?_⟩
      unfold anySlot
      rw [List.any_eq_true]
      exact ⟨z, mem_orb.2 ⟨j, hj, ej.trans e⟩, by simp; omega⟩
  have hes : (∃ m ∈ es, bringG sc (-1) m = none) ∨ roundB l = true ↔ (decide (sc < 0) && lacksB l || roundB l) = true := by
    rw [Bool.or_eq_true, Bool.and_eq_true, decide_eq_true_eq]
    constructor
    · rintro (⟨m, hm, e⟩ | h)
      · unfold bringG at e
        obtain ⟨g1, g2, g3⟩ := bring_none.1 e
        have hm2 := mem_pendN (r1 m hm)
        left
        refine ⟨g3, ?_⟩
        unfold lacksB
        rw [List.any_eq_true]
        exact ⟨m, hm2.1, by simp [g1, g2]; exact hm2.2⟩
      · exact Or.inr h
    · rintro (⟨hsc, h⟩ | h)
      · unfold lacksB at h
        rw [List.any_eq_true] at h
        obtain ⟨m, hm, h⟩ := h
        simp at h
        have hmp : m ∈ pendN l := by
          unfold pendN
          rw [keptN_self hu]
          exact List.mem_filter.2 ⟨hm, by simpa using h.2⟩
        rcases r2 m hmp with h3 | h3
        · exact Or.inl ⟨m, h3, bring_none.2 ⟨h.1.1, h.1.2, hsc⟩⟩
        · exact Or.inr (hround.2 ⟨m.1, isTo_iff.2 ⟨m, h3, rfl⟩, h.1.1⟩)
      · exact Or.inr h
  have hnone : carryN sc (-1) es R = none ↔ (decide (sc < 0) && lacksB l || roundB l) = true := by
    rw [← hes, hround, ← hturn]
    unfold carryN
    have hA : seqO (bringG sc (-1)) es = none ↔ ∃ m ∈ es, bringG sc (-1) m = none := by unfold seqO; rw [fold_none]; simp
    have hB : seqP (turnG sc (-1) R) (leastN R) = none ↔ ∃ x ∈ leastN R, turnG sc (-1) R x = none := by unfold seqP; rw [fold_none]; simp
    rw [← hA, ← hB]
    cases seqO (bringG sc (-1)) es with
    | none => rw [appO_none_l]; simp
    | some x => cases seqP (turnG sc (-1) R) (leastN R) with
      | none => rw [appO_none_r]; simp
      | some y => simp [appO]
  cases hc : carryN sc (-1) es R with
  | none => rw [if_pos (hnone.1 hc)]
  | some xs => rw [if_neg (fun h => by rw [hnone.2 h] at hc; cases hc)]
end Go.Proofs.Ytdohaoomckhbgaa.Vm
