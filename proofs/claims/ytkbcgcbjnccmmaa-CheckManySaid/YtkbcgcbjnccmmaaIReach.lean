/- Stage 3: who is reached has somebody that dominates it; a function that goes by its first look. -/
import Derived.Test.YtkbcgcbjnccmmaaKD
import Derived.Test.YtkbcgcbjnccmmaaGM
namespace Go.Proofs.Ytkbcgcbjnccmmaa.Kc
open Go.RowKit Go.Proofs.Ytkbcgcbjnccmmaa.Mem Go.Proofs.Ytkbcgcbjnccmmaa.Gr Go.Proofs.Ytkbcgcbjnccmmaa.Gn Go.Proofs.Ytkbcgcbjnccmmaa.Gc Go.Proofs.Ytkbcgcbjnccmmaa.Gl
set_option linter.unusedVariables false
theorem idom_reached {g : List (List Int)} {b : Nat} (hb : 0 < b) (hw : Gl.Way g (-1) b) : 0 ≤ (idomN (tidyN g)).getD b 0 := by
  have h0 : 0 < g.length := Nat.lt_of_le_of_lt (Nat.zero_le _) hw.lt
  have t := tree2 h0
  obtain ⟨i, hi, e⟩ := (way_came t.dfs h0).1 hw
  have r := row3 h0
  by_cases hi0 : i = 0
  · subst hi0
    rw [r.zero hi] at e
    omega
  · have h := (r.up i (by omega) hi).1
    rw [e] at h
    rw [h]
    omega
theorem reach_all {g : List (List Int)} (h : ∀ b, 0 < b → b < g.length → Gl.Way g (-1) b) : reachF (idomN (tidyN g)) = none := by
  unfold reachF
  have hf : ((List.range (idomN (tidyN g)).length).find? fun b => decide (0 < b) && decide ((idomN (tidyN g)).getD b 0 < 0)) = none := by
    rw [List.find?_eq_none]
    intro b hb
    rw [List.mem_range, idom_len] at hb
    simp only [Bool.and_eq_true, decide_eq_true_eq]
    rintro ⟨h1, h2⟩
    have := idom_reached h1 (h b h1 hb)
    omega
  rw [hf]
  rfl
theorem seqE_still {σ α : Type} {h : Nat → α → σ → Except Fault σ} {s : σ} : ∀ (l : List α) (k : Nat), (∀ j x, l[j]? = some x → h (k + j) x s = .ok s) → seqE h k l s = .ok s
  | [], _, _ => rfl
  | x :: l, k, hx => by
    unfold seqE
    have := hx 0 x rfl
    rw [Nat.add_zero] at this
    rw [this]
    refine seqE_still l (k + 1) fun j y hj => ?_
    rw [show k + 1 + j = k + (j + 1) by omega]
    exact hx (j + 1) y (by simpa using hj)
end Go.Proofs.Ytkbcgcbjnccmmaa.Kc
