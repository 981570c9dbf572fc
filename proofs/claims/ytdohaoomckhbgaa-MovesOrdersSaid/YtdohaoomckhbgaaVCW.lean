/- Moves, plainly: how many places go round. -/
import Derived.Test.YtdohaoomckhbgaaVCV
namespace Go.Proofs.Ytdohaoomckhbgaa.Vm
open Go.ChangeShapes Go.WideShapes Go.ChangeAt Go.RowKit Go.Maps Go.WideElems Go.ChangeMaps Go.Sort Go.Shelf Go.Proofs.Ytdohaoomckhbgaa.Mem Go.Proofs.Ytdohaoomckhbgaa.Br Go.Proofs.Ytdohaoomckhbgaa.Va Go.Proofs.Ytdohaoomckhbgaa.Vr
set_option linter.unusedVariables false
set_option linter.unusedSimpArgs false
theorem wo_len_uni {L : List Mov} (hu : Uni L) {t : Int} (ht : isTo L t = true) : (wo L t).length + 1 = L.length := by
  induction L with
  | nil => cases ht
  | cons m L ih =>
    have hu' := List.pairwise_cons.1 hu
    unfold wo
    by_cases e : m.1 = t
    · rw [List.filter_cons_of_neg (by simpa using e)]
      have : wo L t = L := wo_self (fun q hq e2 => hu'.1 q hq (e.trans e2.symm))
      unfold wo at this
      rw [this]; rfl
    · rw [List.filter_cons_of_pos (by simpa using e), List.length_cons]
      have h2 : isTo L t = true := by
        rw [isTo_cons] at ht
        rcases Bool.or_eq_true_iff.1 ht with h | h
        · exact absurd (by simpa using h) e
        · exact h
      have := ih hu'.2 h2
      unfold wo at this
      rw [List.length_cons]; omega
theorem goes_len {L es R : List Mov} (h : Goes L es R) : Uni L → es.length + R.length = L.length := by
  induction h with
  | stop hn => intro _; simp
  | @step L t es R hf hg ih =>
    intro hu
    have h1 := ih (hu.wo t)
    have h2 := wo_len_uni hu (loose_to hf.1)
    rw [List.length_cons]; omega
/-- What is seen of the circles: their places, each once. -/
structure SInv (R : List Mov) (s : List Int × List Int) : Prop extends LInv R s where
  nodup : s.2.Nodup
  sum : s.2.length = (s.1.map fun x => perD (srcD R) x R.length).sum
theorem sinv_step {R : List Mov} (hn : NoFree R) (hu : Uni R) {s : List Int × List Int} (h : SInv R s) {x : Int} (hx : isTo R x = true) : SInv R (stepG (srcD R) R.length s x) := by
  have hC := per_closed hn hu hx
  have h1 := (linv_step hn hu h.toLInv hx).1
  refine { toLInv := h1, nodup := ?_, sum := ?_ }
  · unfold stepG
    by_cases hc : s.2.contains x = true
    · rw [if_pos hc]; exact h.nodup
    · rw [if_neg hc]
      refine List.nodup_append.2 ⟨h.nodup, ?_, fun a ha b hb e => ?_⟩
      · unfold orb
        refine List.pairwise_map.2 (List.nodup_range.imp_of_mem fun {a b} ha hb hne => ?_)
        have ha := List.mem_range.1 ha
        have hb := List.mem_range.1 hb
        rcases Nat.lt_or_gt_of_ne hne with h2 | h2
        · exact hC.apart h2 hb
        · exact fun e => hC.apart h2 ha e.symm
      · subst e
        obtain ⟨j, hj, ej⟩ := mem_orb.1 hb
        obtain ⟨y, hy, k, ek⟩ := (h.seen a).1 ha
        obtain ⟨q, hq⟩ := it_meet hC (ek.trans ej.symm)
        exact hc (by simpa using (h.seen x).2 ⟨y, hy, q, hq⟩)
  · unfold stepG
    by_cases hc : s.2.contains x = true
    · rw [if_pos hc]; exact h.sum
    · rw [if_neg hc]
      rw [List.length_append, orb_len, h.sum, List.map_append, List.sum_append]
      simp
theorem sinv_fold {R : List Mov} (hn : NoFree R) (hu : Uni R) : ∀ (ks : List Int) (s : List Int × List Int), SInv R s → (∀ k ∈ ks, isTo R k = true) → SInv R (ks.foldl (stepG (srcD R) R.length) s)
  | [], s, h, _ => h
  | k :: ks, s, h, ht => sinv_fold hn hu ks _ (sinv_step hn hu h (ht k (by simp))) (fun q hq => ht q (by simp [hq]))
/-- All that goes round lies on leastN's circles. -/
theorem least_sum {R : List Mov} (hn : NoFree R) (hu : Uni R) : ((leastN R).map fun x => perD (srcD R) x R.length).sum = R.length := by
  have h0 : SInv R ([], []) := { to := fun x h => (by cases h), apart := List.Pairwise.nil, seen := fun z => ⟨fun h => (by cases h), fun ⟨x, h, _⟩ => (by cases h)⟩, nodup := List.nodup_nil, sum := rfl }
  have h := sinv_fold hn hu (keysN R) ([], []) h0 (fun k hk => keysN_mem.1 hk)
  have h3 := (linv_fold hn hu (keysN R) ([], []) h0.toLInv (fun k hk => keysN_mem.1 hk)).2.2
  have h1 := php_len (K := (leastS R (keysN R)).2) (F := R.map (·.1)) h.nodup (fun z hz => by
    obtain ⟨x, hx, k, e⟩ := (h.seen z).1 hz
    obtain ⟨m, hm, em⟩ := isTo_iff.1 (it_to hn hu (h.to x hx) k)
    exact List.mem_map.2 ⟨m, hm, em.trans e⟩)
  have h2 := php_len (K := R.map (·.1)) (F := (leastS R (keysN R)).2) (Uni.nodup hu) (fun z hz => by
    obtain ⟨m, hm, em⟩ := List.mem_map.1 hz
    exact h3 z (keysN_mem.2 (isTo_iff.2 ⟨m, hm, em⟩)))
  rw [List.length_map] at h1 h2
  have h4 := h.sum
  unfold leastN leastS
  unfold leastS at h1 h2
  omega
end Go.Proofs.Ytdohaoomckhbgaa.Vm
