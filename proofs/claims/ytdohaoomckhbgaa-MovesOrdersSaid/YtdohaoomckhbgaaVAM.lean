/- Moves, plainly: what a circle's instructions do to places. -/
import Derived.Test.YtdohaoomckhbgaaVAL
namespace Go.Proofs.Ytdohaoomckhbgaa.Vm
open Go.ChangeShapes Go.WideShapes Go.ChangeAt Go.RowKit Go.Maps Go.WideElems Go.ChangeMaps Go.Sort Go.Shelf Go.Proofs.Ytdohaoomckhbgaa.Mem Go.Proofs.Ytdohaoomckhbgaa.Br Go.Proofs.Ytdohaoomckhbgaa.Va Go.Proofs.Ytdohaoomckhbgaa.Vr
set_option linter.unusedVariables false
set_option linter.unusedSimpArgs false
/-- A circle through a place of one's own. -/
theorem run_pass {f : Int → Int} {x own : Int} {N : Nat} (hC : Closed f x N) (ho : ∀ j, j < N → it f x j ≠ own) (σ : Int → Int) : ∀ i, i ≤ N →
    (∀ j, j < i → runM ((circ f x i).map fun m => (m.1, if m.2 = x then own else m.2)) σ (it f x j) = if it f x (j + 1) = x then σ own else σ (it f x (j + 1))) ∧ ∀ c, (∀ j, j < i → it f x j ≠ c) → runM ((circ f x i).map fun m => (m.1, if m.2 = x then own else m.2)) σ c = σ c
  | 0, _ => ⟨fun j h => absurd h (by omega), fun c _ => rfl⟩
  | i + 1, hi => by
    obtain ⟨h1, h2⟩ := run_pass hC ho σ i (by omega)
    rw [circ_succ, List.map_append, List.map_singleton, runM_snoc]
    generalize runM ((circ f x i).map fun m => (m.1, if m.2 = x then own else m.2)) σ = τ at *
    unfold run1
    refine ⟨fun j hj => ?_, fun c hc => ?_⟩
    · by_cases e : j = i
      · subst e
        rw [if_pos rfl]
        show τ (if it f x (j + 1) = x then own else it f x (j + 1)) = _
        by_cases hx : it f x (j + 1) = x
        · rw [if_pos hx, if_pos hx]; exact h2 own (fun q hq => ho q (by omega))
        · rw [if_neg hx, if_neg hx]
          have hlt : j + 1 < N := by
            rcases Nat.lt_or_ge (j + 1) N with h | h
            · exact h
            · have : j + 1 = N := by omega
              rw [this, hC.2.1] at hx; exact absurd rfl hx
          exact h2 _ (fun q hq => hC.apart (by omega) hlt)
      · show (if it f x j = it f x i then _ else τ (it f x j)) = _
        rw [if_neg (hC.apart (show j < i by omega) (by omega))]
        exact h1 j (by omega)
    · show (if c = it f x i then _ else τ c) = _
      rw [if_neg (fun e => hc i (by omega) e.symm)]
      exact h2 c (fun j hj => hc j (by omega))
/-- A circle of registers by swaps. -/
theorem swaps_eff {f : Int → Int} {x : Int} {N : Nat} (hC : Closed f x N) (hr : ∀ j, 0 ≤ it f x j ∧ it f x j < 16) {p : List Int} (hp : p.length = 40) : ∀ i, i < N →
    (∀ j, j < i → atV (doN (swapsN x (circ f x i)) p) (it f x j) = atV p (it f x (j + 1))) ∧ atV (doN (swapsN x (circ f x i)) p) (it f x i) = atV p x ∧ ∀ c, (∀ j, j ≤ i → it f x j ≠ c) → atV (doN (swapsN x (circ f x i)) p) c = atV p c
  | 0, _ => ⟨fun j h => absurd h (by omega), rfl, fun c _ => rfl⟩
  | i + 1, hi => by
    obtain ⟨h1, h2, h3⟩ := swaps_eff hC hr hp i (by omega)
    have hne : it f x (i + 1) ≠ x := hC.2.2 (i + 1) (by omega) hi
    rw [circ_succ, swapsN_snoc, if_neg (by simpa using hne), doN_app]
    have hl : (doN (swapsN x (circ f x i)) p).length = 40 := by rw [doN_len]; exact hp
    have he := swap_eff hl (hr i).1 (hr i).2 (hr (i + 1)).1 (hr (i + 1)).2
    generalize doN (swapsN x (circ f x i)) p = q at *
    refine ⟨fun j hj => ?_, ?_, fun c hc => ?_⟩
    · show atV (doI q (mSwap (it f x i) (it f x (i + 1)))) (it f x j) = _
      rw [he, if_neg (hC.apart (show j < i + 1 by omega) hi)]
      by_cases e : j = i
      · subst e
        rw [if_pos rfl]
        exact h3 _ (fun q hq => hC.apart (by omega) hi)
      · rw [if_neg (hC.apart (show j < i by omega) (by omega))]
        exact h1 j (by omega)
    · show atV (doI q (mSwap (it f x i) (it f x (i + 1)))) (it f x (i + 1)) = _
      rw [he, if_pos rfl]; exact h2
    · show atV (doI q (mSwap (it f x i) (it f x (i + 1)))) c = _
      rw [he, if_neg (fun e => hc (i + 1) (Nat.le_refl _) e.symm), if_neg (fun e => hc i (by omega) e.symm)]
      exact h3 c (fun j hj => hc j (by omega))
/-- The places that one cares for. -/
def Gd (sc c : Int) : Prop := c ≠ 26 ∧ c ≠ 27 ∧ (0 ≤ sc → c ≠ 15)
def PlI (x : Int) : Prop := 0 ≤ x ∧ x < 24 ∧ x ≠ 15
theorem gd_pl {sc x : Int} (h : PlI x) : Gd sc x := by unfold PlI at h; unfold Gd; omega
theorem gd_thru {sc c : Int} (hs : sc = -1 ∨ sc = 15) (h : Gd sc c) : c ≠ thruT sc := by
  unfold Gd at h; unfold thruT
  rcases hs with rfl | rfl
  · rw [if_neg (by omega)]; exact h.2.1
  · rw [if_pos (by omega)]; exact h.2.2 (by omega)
/-- What a circle's instructions do. -/
def TurnsTo (sc : Int) (f : Int → Int) (x : Int) (N : Nat) (xs : List PM) : Prop := ∀ p : List Int, p.length = 40 → ∀ c, Gd sc c → (∀ j, j < N → it f x j = c → atV (doN xs p) c = atV p (f c)) ∧ ((∀ j, j < N → it f x j ≠ c) → atV (doN xs p) c = atV p c)
theorem pass_turns {sc : Int} (hs : sc = -1 ∨ sc = 15) {f : Int → Int} {x own : Int} {N : Nat} (hC : Closed f x N) (hp : ∀ j, PlI (it f x j)) (ho : own = 26 ∨ (own = 15 ∧ sc = 15 ∧ ∀ j, it f x j < 16)) : ∃ xs, passN sc 10 x own (circ f x N) = some xs ∧ TurnsTo sc f x N xs := by
  have hx : PlI x := hp 0
  have hx' := hx
  unfold PlI at hx
  obtain ⟨ys, e1, h1⟩ := bring_eff hs (a := own) (b := x) (by omega) (by omega)
  have hom : ∀ j, it f x j ≠ own := fun j => by have := hp j; unfold PlI at this; omega
  have hmem : ∀ m ∈ circ f x N, ∃ i, i < N ∧ m = (it f x i, it f x (i + 1)) := fun m hm => by
    unfold circ at hm
    obtain ⟨i, hi, rfl⟩ := List.mem_map.1 hm
    exact ⟨i, List.mem_range.1 hi, rfl⟩
  have hfm : ∀ i, 0 ≤ (if it f x (i + 1) = x then own else it f x (i + 1)) ∧ (if it f x (i + 1) = x then own else it f x (i + 1)) < 27 := fun i => by
    have := hp (i + 1); unfold PlI at this
    split <;> omega
  have hgot : ∃ zs, seqO (passG sc 10 x own) (circ f x N) = some zs ∧ ∀ p : List Int, p.length = 40 → ∀ c, Gd sc c → atV (doN zs p) c = runM ((circ f x N).map fun m => (m.1, if m.2 = x then own else m.2)) (atV p) c := by
    rcases ho with ho | ⟨ho, hsc, hreg⟩
    · obtain ⟨zs, e2, h2⟩ := seq_eff hs (fun c => c ≠ thruT sc) (fun m => if m.2 = x then own else m.2) (Or.inl fun c h => h) (circ f x N) (fun m hm => by
        obtain ⟨i, _, rfl⟩ := hmem m hm
        have h1 := hp i
        have h2 := hp (i + 1)
        have h3 := hfm i
        unfold PlI at h1 h2
        refine ⟨⟨h1.1, by show it f x i < 27; omega⟩, h3, ?_⟩
        show (if it f x (i + 1) = x then own else it f x (i + 1)) ≠ thruT sc
        unfold thruT
        split <;> split <;> omega)
      exact ⟨zs, e2, fun p hp c hc => h2 p hp c (gd_thru hs hc)⟩
    · obtain ⟨zs, e2, h2⟩ := seq_effR hs (fun m => if m.2 = x then own else m.2) (circ f x N) (fun m hm => by
        obtain ⟨i, _, rfl⟩ := hmem m hm
        have h1 := hp i
        have h3 := hfm i
        unfold PlI at h1
        exact ⟨⟨h1.1, by show it f x i < 27; omega⟩, h3, Or.inl (hreg i)⟩)
      exact ⟨zs, e2, fun p hp c _ => h2 p hp c⟩
  obtain ⟨zs, e2, h2⟩ := hgot
  refine ⟨ys ++ zs, by unfold passN; rw [e1, e2]; rfl, fun p hp40 c hc => ?_⟩
  have hl : (doN ys p).length = 40 := by rw [doN_len]; exact hp40
  obtain ⟨r1, r2⟩ := run_pass hC (own := own) (fun j _ => hom j) (atV (doN ys p)) N (Nat.le_refl _)
  have hown : atV (doN ys p) own = atV p x := by
    rw [h1 p hp40 own (by
      rcases ho with ho | ⟨ho, _⟩
      · left; unfold thruT; split <;> omega
      · right; left; omega), if_pos rfl]
  have hoth : ∀ d, Gd sc d → d ≠ own → atV (doN ys p) d = atV p d := fun d hd hne => by
    rw [h1 p hp40 d (Or.inl (gd_thru hs hd)), if_neg hne]
  have hco : c ≠ own := by unfold Gd at hc; omega
  rw [doN_app, h2 _ hl c hc]
  refine ⟨fun j hj e => ?_, fun hn => ?_⟩
  · rw [← e, r1 j hj]
    by_cases hxx : it f x (j + 1) = x
    · rw [if_pos hxx, hown]
      exact congrArg (atV p) hxx.symm
    · rw [if_neg hxx, hoth _ (gd_pl (hp (j + 1))) (hom (j + 1))]; rfl
  · rw [r2 c hn, hoth c hc hco]
theorem turn_turns {sc : Int} (hs : sc = -1 ∨ sc = 15) {f : Int → Int} {x : Int} {N : Nat} (hC : Closed f x N) (hp : ∀ j, PlI (it f x j)) : ∃ xs, turnN sc 10 f x N = some xs ∧ TurnsTo sc f x N xs := by
  unfold turnN
  by_cases ha : anySlot (orb f x N) = true
  · rw [if_pos ha, if_neg (by omega)]
    exact pass_turns hs hC hp (Or.inl rfl)
  · rw [if_neg ha]
    have hreg : ∀ j, j < N → it f x j < 16 := fun j hj => by
      rcases Int.lt_or_le (it f x j) 16 with h | h
      · exact h
      · exfalso
        apply ha
        unfold anySlot
        rw [List.any_eq_true]
        exact ⟨it f x j, mem_orb.2 ⟨j, hj, rfl⟩, by simp; omega⟩
    have hall : ∀ j, it f x j < 16 := by
      intro j
      have hmod : ∀ k, it f x (k + N) = it f x k := fun k => by rw [Nat.add_comm, it_add, hC.2.1]
      have hk : ∀ q k, it f x (k + q * N) = it f x k := by
        intro q
        induction q with
        | zero => intro k; rw [Nat.zero_mul]; rfl
        | succ q ih => intro k; rw [Nat.succ_mul, ← Nat.add_assoc, hmod, ih]
      have h := hk (j / N) (j % N)
      rw [show j % N + j / N * N = j by rw [Nat.mul_comm]; exact Nat.mod_add_div j N] at h
      rw [h]
      exact hreg _ (Nat.mod_lt _ hC.1)
    rcases hs with rfl | rfl
    · rw [if_neg (by omega)]
      refine ⟨_, rfl, fun p hp40 c hc => ?_⟩
      have hr : ∀ j, 0 ≤ it f x j ∧ it f x j < 16 := fun j => ⟨(hp j).1, hall j⟩
      obtain ⟨n, rfl⟩ : ∃ n, N = n + 1 := ⟨N - 1, by have := hC.1; omega⟩
      obtain ⟨h1, h2, h3⟩ := swaps_eff hC hr hp40 n (by omega)
      have hN : it f x (n + 1) = x := hC.2.1
      rw [circ_succ, swapsN_snoc, if_pos (by simpa using hN), List.append_nil]
      refine ⟨fun j hj e => ?_, fun hn => h3 c (fun j hj => hn j (by omega))⟩
      by_cases ej : j = n
      · subst ej
        rw [← e, h2]
        exact congrArg (atV p) hN.symm
      · rw [← e, h1 j (by omega)]; rfl
    · rw [if_pos (by omega)]
      exact pass_turns (Or.inr rfl) hC hp (Or.inr ⟨rfl, rfl, hall⟩)
end Go.Proofs.Ytdohaoomckhbgaa.Vm
