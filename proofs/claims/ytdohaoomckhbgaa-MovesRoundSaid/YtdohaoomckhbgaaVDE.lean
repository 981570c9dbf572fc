/- Moves, plainly: what each of the program's circles is; its moves. -/
import Derived.Test.YtdohaoomckhbgaaVDC
import Derived.Test.YtdohaoomckhbgaaVDB
namespace Go.Proofs.Ytdohaoomckhbgaa.Vm
open Go.ChangeShapes Go.WideShapes Go.ChangeAt Go.RowKit Go.Maps Go.WideElems Go.ChangeMaps Go.Sort Go.Shelf Go.Proofs.Ytdohaoomckhbgaa.Mem Go.Proofs.Ytdohaoomckhbgaa.Br Go.Proofs.Ytdohaoomckhbgaa.Va Go.Proofs.Ytdohaoomckhbgaa.Vr
set_option linter.unusedVariables false
set_option linter.unusedSimpArgs false
attribute [local go_sem] Oper.semAt_some
theorem progC_get {l es R : List Mov} (hu : Uni l) (hp : ∀ m ∈ l, PlM m) (hg : Goes (pendN l) es R) : ∀ i (h : i < (progC R).length), ∃ x N, (progC R)[i] = orb (srcD R) x N ∧ Closed (srcD R) x N ∧ 2 ≤ N ∧ N ≤ R.length ∧ ∀ j, PlI (it (srcD R) x j) := fun i h => by
  have hsub := hg.sub
  have hRu := hsub.2.2.2.2 (pendN_uni l)
  have hRn := hsub.2.2.2.1
  obtain ⟨l1, _, _⟩ := least_props hRn hRu
  have h' : i < (leastN R).length := by rw [← progC_len]; exact h
  have hx := l1 _ (List.getElem_mem h')
  have hC := per_closed hRn hRu hx
  refine ⟨(leastN R)[i], perD (srcD R) (leastN R)[i] R.length, by simp [progC], hC, ?_, perD_le _ _ _, fun j => ?_⟩
  · rcases Nat.lt_or_ge 1 (perD (srcD R) (leastN R)[i] R.length) with h2 | h2
    · exact h2
    · exfalso
      have e : perD (srcD R) (leastN R)[i] R.length = 1 := by have := hC.1; omega
      have h3 := hC.2.1
      rw [e] at h3
      exact (mem_pendN (hsub.1 _ (mem_src hRu hx))).2 h3.symm
  · obtain ⟨m, hm, e⟩ := isTo_iff.1 (it_to hRn hRu hx j)
    rw [← e]
    exact (hp m (mem_pendN (hsub.1 m hm)).1).1
theorem progC_len_le {l es R : List Mov} (hg : Goes (pendN l) es R) : (progC R).length ≤ l.length ∧ R.length ≤ l.length := by
  have h1 := leastN_len R
  have h2 := hg.sub.2.1
  have h3 := pendN_len l
  rw [progC_len]; omega
theorem orb_get {f : Int → Int} {x : Int} {N k : Nat} (hk : k < N) : (orb f x N)[k]? = some (it f x k) := by
  unfold orb
  rw [List.getElem?_map, List.getElem?_range hk]; rfl
/-- The place behind one on a circle. -/
theorem orb_wrap {f : Int → Int} {x : Int} {N k : Nat} (hC : Closed f x N) (hk : k < N) : ∃ j, j < N ∧ ((k : Int) + 1).tmod (N : Int) = (j : Int) ∧ (orb f x N)[j]? = some (it f x (k + 1)) := by
  by_cases e : k + 1 = N
  · refine ⟨0, by omega, ?_, ?_⟩
    · rw [← e]; simp
    · rw [orb_get (by omega), e, hC.2.1]; rfl
  · exact ⟨k + 1, by omega, by rw [Int.tmod_eq_of_lt (by omega) (by omega)]; rfl, orb_get (by omega)⟩
end Go.Proofs.Ytdohaoomckhbgaa.Vm
