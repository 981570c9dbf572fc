/- Moves, plainly: what an order does, one by one, is what its moves do all at once. -/
import Derived.Test.YtdohaoomckhbgaaVAM
namespace Go.Proofs.Ytdohaoomckhbgaa.Vm
open Go.ChangeShapes Go.WideShapes Go.ChangeAt Go.RowKit Go.Maps Go.WideElems Go.ChangeMaps Go.Sort Go.Shelf Go.Proofs.Ytdohaoomckhbgaa.Mem Go.Proofs.Ytdohaoomckhbgaa.Br Go.Proofs.Ytdohaoomckhbgaa.Va Go.Proofs.Ytdohaoomckhbgaa.Vr
set_option linter.unusedVariables false
set_option linter.unusedSimpArgs false
theorem it_mul {f : Int → Int} {x : Int} {N : Nat} (hC : Closed f x N) (k : Nat) : ∀ q, it f x (k + q * N) = it f x k
  | 0 => by rw [Nat.zero_mul]; rfl
  | q + 1 => by rw [Nat.succ_mul, ← Nat.add_assoc, Nat.add_comm, it_add, hC.2.1, it_mul hC k q]
theorem it_orb {f : Int → Int} {x : Int} {N : Nat} (hC : Closed f x N) (k : Nat) : ∃ j, j < N ∧ it f x j = it f x k := by
  refine ⟨k % N, Nat.mod_lt _ hC.1, ?_⟩
  have h := it_mul hC (k % N) (k / N)
  rw [show k % N + k / N * N = k by rw [Nat.mul_comm]; exact Nat.mod_add_div k N] at h
  exact h.symm
/-- Where two go round through one place, the second's first is the first's. -/
theorem it_meet {f : Int → Int} {x y : Int} {N : Nat} (hC : Closed f x N) {i j : Nat} (h : it f y i = it f x j) : ∃ k, it f y k = x := by
  obtain ⟨n, rfl⟩ : ∃ n, N = n + 1 := ⟨N - 1, by have := hC.1; omega⟩
  refine ⟨i + n * j, ?_⟩
  rw [it_add, h, ← it_add]
  have h2 := it_mul hC 0 j
  rw [Nat.zero_add] at h2
  rw [show j + n * j = j * (n + 1) by rw [Nat.mul_succ, Nat.mul_comm j n]; omega, h2]; rfl
def Apart (f : Int → Int) (x y : Int) : Prop := ∀ i j, it f x i ≠ it f y j
structure LInv (R : List Mov) (s : List Int × List Int) : Prop where
  to : ∀ x ∈ s.1, isTo R x = true
  apart : s.1.Pairwise (Apart (srcD R))
  seen : ∀ z, z ∈ s.2 ↔ ∃ x ∈ s.1, ∃ k, it (srcD R) x k = z
theorem per_closed {R : List Mov} (hn : NoFree R) (hu : Uni R) {x : Int} (hx : isTo R x = true) : Closed (srcD R) x (perD (srcD R) x R.length) := by
  obtain ⟨N, h1, h2⟩ := noFree_closed hn hu hx
  rw [perD_eq h1 h2]; exact h1
theorem linv_step {R : List Mov} (hn : NoFree R) (hu : Uni R) {s : List Int × List Int} (h : LInv R s) {x : Int} (hx : isTo R x = true) : LInv R (stepG (srcD R) R.length s x) ∧ (∀ z ∈ s.2, z ∈ (stepG (srcD R) R.length s x).2) ∧ x ∈ (stepG (srcD R) R.length s x).2 := by
  have hC := per_closed hn hu hx
  unfold stepG
  by_cases hc : s.2.contains x = true
  · rw [if_pos hc]
    exact ⟨h, fun z hz => hz, by simpa using hc⟩
  · rw [if_neg hc]
    have hnx : x ∉ s.2 := by simpa using hc
    refine ⟨⟨fun y hy => ?_, ?_, fun z => ?_⟩, fun z hz => List.mem_append_left _ hz, List.mem_append_right _ (mem_orb.2 ⟨0, hC.1, rfl⟩)⟩
    · rcases List.mem_append.1 hy with hy | hy
      · exact h.to y hy
      · rw [List.mem_singleton.1 hy]; exact hx
    · refine List.pairwise_append.2 ⟨h.apart, List.pairwise_singleton _ _, fun y hy z hz i j e => ?_⟩
      rw [List.mem_singleton.1 hz] at e
      obtain ⟨k, hk⟩ := it_meet hC e
      exact hnx ((h.seen x).2 ⟨y, hy, k, hk⟩)
    · rw [List.mem_append, h.seen z, mem_orb]
      constructor
      · rintro (⟨y, hy, k, e⟩ | ⟨i, hi, e⟩)
        · exact ⟨y, List.mem_append_left _ hy, k, e⟩
        · exact ⟨x, List.mem_append_right _ (by simp), i, e⟩
      · rintro ⟨y, hy, k, e⟩
        rcases List.mem_append.1 hy with hy | hy
        · exact Or.inl ⟨y, hy, k, e⟩
        · rw [List.mem_singleton.1 hy] at e
          obtain ⟨j, hj, e2⟩ := it_orb hC k
          exact Or.inr ⟨j, hj, e2.trans e⟩
theorem linv_fold {R : List Mov} (hn : NoFree R) (hu : Uni R) : ∀ (ks : List Int) (s : List Int × List Int), LInv R s → (∀ k ∈ ks, isTo R k = true) → LInv R (ks.foldl (stepG (srcD R) R.length) s) ∧ (∀ z ∈ s.2, z ∈ (ks.foldl (stepG (srcD R) R.length) s).2) ∧ ∀ k ∈ ks, k ∈ (ks.foldl (stepG (srcD R) R.length) s).2
  | [], s, h, _ => ⟨h, fun z hz => hz, fun k h => (by cases h)⟩
  | k :: ks, s, h, ht => by
    obtain ⟨g1, g2, g3⟩ := linv_step hn hu h (ht k (by simp))
    obtain ⟨h1, h2, h3⟩ := linv_fold hn hu ks _ g1 (fun q hq => ht q (by simp [hq]))
    refine ⟨h1, fun z hz => h2 z (g2 z hz), fun q hq => ?_⟩
    rcases List.mem_cons.1 hq with rfl | hq
    · exact h2 _ g3
    · exact h3 q hq
theorem least_props {R : List Mov} (hn : NoFree R) (hu : Uni R) : (∀ x ∈ leastN R, isTo R x = true) ∧ (leastN R).Pairwise (Apart (srcD R)) ∧ ∀ c, isTo R c = true → ∃ x ∈ leastN R, ∃ k, it (srcD R) x k = c := by
  obtain ⟨h1, h2, h3⟩ := linv_fold hn hu (keysN R) ([], []) ⟨fun x h => (by cases h), List.Pairwise.nil, fun z => ⟨fun h => (by cases h), fun ⟨x, h, _⟩ => (by cases h)⟩⟩ (fun k hk => keysN_mem.1 hk)
  exact ⟨h1.to, h1.apart, fun c hc => (h1.seen c).1 (h3 c (keysN_mem.2 hc))⟩
theorem seqP_snoc (g : Int → Option (List PM)) (xs : List Int) (x : Int) : seqP g (xs ++ [x]) = appO (seqP g xs) (g x) := by unfold seqP; rw [List.foldl_append]; rfl
/-- Circles, one behind the other. -/
theorem circles_eff {sc : Int} (hs : sc = -1 ∨ sc = 15) {R : List Mov} (hn : NoFree R) (hu : Uni R) (hp : ∀ m ∈ R, PlI m.1) (X : List Int) : (∀ x ∈ X, isTo R x = true) → X.Pairwise (Apart (srcD R)) →
    ∃ xs, seqP (turnG sc 10 R) X = some xs ∧ ∀ p : List Int, p.length = 40 → ∀ c, Gd sc c → (∀ x ∈ X, ∀ j, it (srcD R) x j = c → atV (doN xs p) c = atV p (srcD R c)) ∧ ((∀ x ∈ X, ∀ j, it (srcD R) x j ≠ c) → atV (doN xs p) c = atV p c) := by
  induction X using snoc_ind with
  | h0 => intro _ _; exact ⟨[], rfl, fun p _ c _ => ⟨fun x h => (by cases h), fun _ => rfl⟩⟩
  | hs X x ih =>
    intro ht ha
    obtain ⟨a1, _, a3⟩ := List.pairwise_append.1 ha
    obtain ⟨xs, e1, h1⟩ := ih (fun y hy => ht y (by simp [hy])) a1
    have hx := ht x (by simp)
    have hC := per_closed hn hu hx
    have hpl : ∀ j, PlI (it (srcD R) x j) := fun j => by
      obtain ⟨m, hm, e⟩ := isTo_iff.1 (it_to hn hu hx j)
      rw [← e]; exact hp m hm
    obtain ⟨ys, e2, h2⟩ := turn_turns hs hC hpl
    refine ⟨xs ++ ys, by rw [seqP_snoc, e1, show turnG sc 10 R x = some ys from e2]; rfl, fun p hp40 c hc => ?_⟩
    have hl : (doN xs p).length = 40 := by rw [doN_len]; exact hp40
    obtain ⟨t1, t2⟩ := h2 (doN xs p) hl c hc
    rw [doN_app]
    refine ⟨fun y hy j e => ?_, fun hno => ?_⟩
    · rcases List.mem_append.1 hy with hy | hy
      · rw [t2 (fun i _ e2 => a3 y hy x (by simp) j i (e.trans e2.symm))]
        exact (h1 p hp40 c hc).1 y hy j e
      · rw [List.mem_singleton.1 hy] at e
        obtain ⟨i, hi, e2⟩ := it_orb hC j
        rw [t1 i hi (e2.trans e)]
        have hnx : srcD R c = it (srcD R) x (j + 1) := by rw [← e]; rfl
        rw [hnx]
        exact (h1 p hp40 _ (gd_pl (hpl (j + 1)))).2 (fun z hz i' e3 => a3 z hz x (by simp) i' (j + 1) e3)
    · rw [t2 (fun i _ e => hno x (by simp) i e)]
      exact (h1 p hp40 c hc).2 (fun y hy j => hno y (by simp [hy]) j)
theorem map_pair (es : List Mov) : (es.map fun m => (m.1, m.2)) = es := by simp
/-- P11.5 without the document's answer. -/
theorem alike {l : List Mov} (hu : Uni l) (hp : ∀ m ∈ l, PlM m) {sc : Int} (hs : sc = -1 ∨ sc = 15) : ∀ p : List Int, p.length = 40 → ∀ c, Gd sc c → atV (doN (orderN l sc 10).1 p) c = atV (afterN l p) c := by
  have hf := fault_none hu hp hs (Or.inr (rfl : (10 : Int) = 10))
  unfold orderN
  rw [if_pos hf]
  have hgo := goes_greedy l.length (pendN l) (pendN_len l)
  generalize (greedyN l.length (pendN l)).1 = es at *
  generalize (greedyN l.length (pendN l)).2 = R at *
  have hpu := pendN_uni l
  have hsub := hgo.sub
  have hRu := hsub.2.2.2.2 hpu
  have hRn := hsub.2.2.2.1
  have hpi : ∀ m ∈ pendN l, PlI m.1 ∧ PlI m.2 := fun m hm => by
    have h := hp m (mem_pendN hm).1
    unfold PlM at h; unfold PlI; exact h
  have hes := (run_goes hgo hpu (fun _ => 0)).1
  obtain ⟨xs, e1, h1⟩ := seq_eff hs (Gd sc) (fun m => m.2) (Or.inl fun c hc => gd_thru hs hc) es (fun m hm => by
    obtain ⟨g1, g2⟩ := hpi m (hes m hm)
    have g3 := gd_pl (sc := sc) g2
    unfold PlI at g1 g2
    exact ⟨⟨g1.1, by omega⟩, ⟨g2.1, by show m.2 < 27; omega⟩, g3⟩)
  obtain ⟨l1, l2, l3⟩ := least_props hRn hRu
  obtain ⟨ys, e2, h2⟩ := circles_eff hs hRn hRu (fun m hm => (hpi m (hsub.1 m hm)).1) (leastN R) l1 l2
  have hc : carryN sc 10 es R = some (xs ++ ys) := by
    unfold carryN
    rw [show seqO (bringG sc 10) es = some xs from e1, e2]; rfl
  rw [hc]
  intro p hp40 c hgc
  show atV (doN (xs ++ ys) p) c = _
  have hl : (doN xs p).length = 40 := by rw [doN_len]; exact hp40
  obtain ⟨t1, t2⟩ := h2 (doN xs p) hl c hgc
  obtain ⟨_, r2, r3, r4⟩ := run_goes hgo hpu (atV p)
  have hq : ∀ d, Gd sc d → atV (doN xs p) d = runM es (atV p) d := fun d hd => by have h := h1 p hp40 d hd; rwa [map_pair] at h
  obtain ⟨a1, a2⟩ := after_at p l p hu (fun m hm => by have h := hp m hm; unfold PlM at h; rw [hp40]; exact hasB_yes h.1.1 (by omega)) c
  rw [doN_app]
  by_cases hto : isTo (pendN l) c = true
  · obtain ⟨m, hm, e⟩ := isTo_iff.1 hto
    have haf : atV (afterN l p) c = atV p m.2 := a2 m (mem_pendN hm).1 e
    rw [haf]
    rcases r2 m hm with h | h
    · rw [t2 (fun x hx j ej => by
        obtain ⟨q, hq', e3⟩ := isTo_iff.1 (it_to hRn hRu (l1 x hx) j)
        exact (r3 m h q hq').1 (by rw [e, e3, ej])), hq c hgc]
      exact (r4 c).1 m h e
    · obtain ⟨x, hx, k, ek⟩ := l3 c (isTo_iff.2 ⟨m, h, e⟩)
      have hsrc : srcD R c = m.2 := by rw [← e]; exact src_of_mem hRu h
      rw [t1 x hx k ek, hsrc, hq m.2 (gd_pl (hpi m hm).2)]
      exact (r4 m.2).2 (fun z hz => (r3 z hz m h).2)
  · have hR : ∀ x ∈ leastN R, ∀ j, it (srcD R) x j ≠ c := fun x hx j ej => by
      obtain ⟨q, hq', e3⟩ := isTo_iff.1 (it_to hRn hRu (l1 x hx) j)
      exact hto (isTo_iff.2 ⟨q, hsub.1 q hq', e3.trans ej⟩)
    rw [t2 hR, hq c hgc, (r4 c).2 (fun z hz e => hto (isTo_iff.2 ⟨z, hes z hz, e⟩))]
    cases hl2 : isTo l c with
    | false => exact (a1 hl2).symm
    | true =>
      obtain ⟨m, hm, e⟩ := isTo_iff.1 hl2
      have heq : m.1 = m.2 := by
        rcases Int.lt_trichotomy m.1 m.2 with h | h | h
        · exact absurd (isTo_iff.2 ⟨m, by unfold pendN; rw [keptN_self hu]; exact List.mem_filter.2 ⟨hm, by simp; omega⟩, e⟩) hto
        · exact h
        · exact absurd (isTo_iff.2 ⟨m, by unfold pendN; rw [keptN_self hu]; exact List.mem_filter.2 ⟨hm, by simp; omega⟩, e⟩) hto
      have haf : atV (afterN l p) c = atV p m.2 := a2 m hm e
      rw [haf, ← heq, e]
end Go.Proofs.Ytdohaoomckhbgaa.Vm
