/- Stage 4: the function of InterpMemory in memory, and what its run tells. -/
import Derived.Test.YtcangooibfddmaaILawA
namespace Go.Proofs.Ytcangooibfddmaa.Ic
open Go.ChangeShapes Go.WideShapes Go.ChangeAt Go.RowKit Go.Maps Go.Proofs.Ytcangooibfddmaa.Mem Go.Proofs.Ytcangooibfddmaa.Kc Go.Proofs.Ytcangooibfddmaa.Br Go.Proofs.Ytcangooibfddmaa.Pl Go.Proofs.Ytcangooibfddmaa.Gr
set_option linter.unusedVariables false
theorem right_mem (imm : Int) : (checkN 2 (memP imm)).1 = 0 := by
  have h : (checkN 2 (memP 0)).1 = 0 := by decide +kernel
  exact h
theorem in_small {l : List Int} (h : ∀ x ∈ l, 0 ≤ x ∧ x ≤ 1000) : ∀ x ∈ l, InI x := fun x hx => by have := h x hx; exact ⟨by omega, by omega⟩
theorem fit_mem (imm : Int) (hi : InW imm) : FitG (memP imm) where
  pos := by simp [memP]
  ins := by
    intro b hb i hi'
    simp only [memP, List.mem_singleton] at hb
    subst hb
    simp only [List.mem_cons, List.not_mem_nil, or_false] at hi'
    rcases hi' with rfl | rfl
    · exact ⟨rfl, ⟨by simp, by simp⟩, ⟨by simp, by simp⟩, hi, in_small (by simp)⟩
    · exact ⟨rfl, ⟨by simp, by simp⟩, ⟨by simp, by simp⟩, hi, in_small (by simp)⟩
  term := by
    intro b hb
    simp only [memP, List.mem_singleton] at hb
    subst hb
    exact ⟨rfl, in_small (by simp)⟩
  tos := by
    intro b hb x hx
    simp only [memP, List.mem_singleton] at hb
    subst hb
    cases hx
  phis := by
    intro b hb
    simp only [memP, List.mem_singleton] at hb
    subst hb
    exact ⟨by simp, fun p hp => by cases hp⟩
  zero := by
    intro b hb
    simp only [memP, List.getElem?_cons_zero, Option.some.injEq] at hb
    subst hb
    rfl
  edge := by
    intro a b c hb x hx
    have hm := List.mem_of_getElem? hb
    simp only [memP, List.mem_singleton] at hm
    subst hm
    cases hx
theorem wf_mem (imm : Int) : WfP (memP imm) where
  phi := by
    intro x hx p hp
    simp only [memP, List.mem_singleton] at hx
    subst hx
    cases hp
  ins := by
    intro x hx i hi
    simp only [memP, List.mem_singleton] at hx
    subst hx
    simp only [List.mem_cons, List.not_mem_nil, or_false] at hi
    rcases hi with rfl | rfl <;> exact ⟨⟨by simp, by simp⟩, ⟨by simp, by simp⟩, in_small (by simp)⟩
  term := by
    intro x hx
    simp only [memP, List.mem_singleton] at hx
    subst hx
    exact in_small (by simp)
  size := by
    intro k hk
    have h := uptoP_le (memP imm) (memP imm).length k hk (Nat.le_refl _)
    have e : uptoP (memP imm) (memP imm).length = 3 := rfl
    omega
theorem block_mem {w : World} {gB gI gA1 gA2 gR : Nat} {imm : Int} {ic rc : Nat} (hi : 2 ≤ ic ∧ ic ≤ 100) (hr : 1 ≤ rc ∧ rc ≤ 100)
    (hB : Str w gB 34 [.slice none 0 0, .slice (some ⟨gI, 0, none⟩) 2 ic, .int .i64 4, .slice (some ⟨gR, 0, none⟩) 1 rc, .slice none 0 0, .int .i32 0])
    (hI : Str w gI 36 [.int .i64 16, .int .i64 0, .int .i64 0, .slice (some ⟨gA1, 0, none⟩) 2 2, .int .i32 imm, .int .i64 15, .int .i64 2, .int .i64 0, .slice (some ⟨gA2, 0, none⟩) 1 1, .int .i32 imm])
    (hA1 : Str w gA1 3 [.int .i64 0, .int .i64 1]) (hA2 : Str w gA2 3 [.int .i64 0]) (hR : w.cell? ⟨gR, 0, none⟩ = some (.int .i64 2)) :
    BlocksAt w (.slice (some ⟨gB, 0, none⟩) 1 1) (memP imm) := by
  have hml : (100 : Nat) ≤ maxLen := by unfold maxLen; omega
  refine ⟨some ⟨gB, 0, none⟩, 1, gB, 0, rfl, Nat.le_refl _, by omega, fun _ => rfl, fun k hk => ?_⟩
  obtain rfl : k = 0 := by simp [memP] at hk; omega
  refine ⟨⟨_, hB.cell 0, none, 0, 0, 0, rfl, Nat.le_refl _, by omega, fun h => absurd h (by simp [memP]), fun k hk => absurd hk (by simp [memP])⟩,
    ⟨_, hB.cell 1, some ⟨gI, 0, none⟩, ic, gI, 0, rfl, hi.1, by omega, fun _ => rfl, fun k hk => ?_⟩, hB.cell 2,
    ⟨_, hB.cell 3, some ⟨gR, 0, none⟩, rc, rfl, hr.1, by omega, fun k hk => ?_⟩, ⟨_, hB.cell 4, none, 0, rfl, Nat.le_refl _, by omega, fun k hk => absurd hk (by simp [memP])⟩, hB.cell 5⟩
  · have hk : k = 0 ∨ k = 1 := by simp [memP] at hk; omega
    rcases hk with rfl | rfl
    · refine ⟨hI.cell 0, hI.cell 1, hI.cell 2, ⟨_, hI.cell 3, some ⟨gA1, 0, none⟩, 2, rfl, by simp [memP], by omega, fun j hj => ⟨_, rfl, ?_⟩⟩, hI.cell 4⟩
      have hj : j = 0 ∨ j = 1 := by simp [memP] at hj; omega
      rcases hj with rfl | rfl
      · exact hA1.cell 0
      · exact hA1.cell 1
    · refine ⟨hI.cell 5, hI.cell 6, hI.cell 7, ⟨_, hI.cell 8, some ⟨gA2, 0, none⟩, 1, rfl, by simp [memP], by omega, fun j hj => ⟨_, rfl, ?_⟩⟩, hI.cell 9⟩
      obtain rfl : j = 0 := by simp [memP] at hj; omega
      exact hA2.cell 0
  · obtain rfl : k = 0 := by simp [memP] at hk; omega
    exact ⟨_, rfl, hR⟩
/-- An outcome, as it lies behind a run: how it ended, what was told, by how many steps; its memory, its calls. -/
def Tells (B : Nat) (how val steps : Int) (mem : List Int) (calls : List (Int × List Int)) (w : World) (en : Ending) (w' : World) : Prop :=
  ∃ mA mn mc cA cn ck, en = .returned (.agg #[.int .i64 how, .int .i32 val, .slice mA mn mc, .slice cA cn ck, .int .i64 steps]) ∧ OwnWords B w' (.slice mA mn mc) mem ∧ EventsAt B w' (.slice cA cn ck) calls (fun _ => False) ∧ Below B w w'
theorem tells_of {B : Nat} {r : EndZ Sg} {w : World} {e : Ending} {w' : World} (h : RunEnds (OutG B) r B w e w') : Tells B r.1 r.2.1 r.2.2.steps r.2.2.mem r.2.2.calls w e w' := by
  obtain ⟨v, rfl, ⟨mA, mn, mc, cA, cn, ck, rfl, hm, hc, _⟩, hb⟩ := h
  exact ⟨mA, mn, mc, cA, cn, ck, rfl, hm, hc, hb⟩
theorem parV0 (a : Int) (l : List Int) (k : Nat) (hk : 0 < k) : parV (a :: l) k 0 = a := by unfold parV; rw [if_pos (by omega)]; rfl
theorem parV1 (a b : Int) (l : List Int) (k : Nat) (hk : 1 < k) : parV (a :: b :: l) k 1 = b := by unfold parV; rw [if_pos (by omega)]; rfl
theorem parV2 (a b c : Int) (l : List Int) (k : Nat) (hk : 2 < k) : parV (a :: b :: c :: l) k 2 = c := by unfold parV; rw [if_pos (by omega)]; rfl
def MemTells (at_ v : Int) (mem : List Int) (w : World) (en : Ending) (w' : World) : Prop :=
  if hasB mem.length at_ = true then Tells w.heap.size 1 v 3 (mem.set at_.toNat v) [] w en w' else Tells w.heap.size 2 (-2) 1 mem [] w en w'
theorem run_mem (w : World) (gB : Nat) (at_ v imm : Int) (ha : InW at_) (hv : InW v) (hi : InW imm) (hb : BlocksAt w (.slice (some ⟨gB, 0, none⟩) 1 1) (memP imm)) (av mv : Value) (mem : List Int) (hav : WordsAt w av [wrap32 (at_ - imm), v]) (hmv : WordsAt w mv mem) (hml : mem.length ≤ 20) (hmw : ∀ x ∈ mem, InW x) :
    Calls Try.prog 19 #[.agg #[.int .i64 2, .slice (some ⟨gB, 0, none⟩) 1 1], .agg #[av, mv, .slice none 0 0, .int .i64 9]] w (MemTells at_ v mem w) := by
  refine (run_gives w 2 (by omega) (some ⟨gB, 0, none⟩) gB 1 (memP imm) rfl hb (wf_mem imm) (right_mem imm) (by simp [memP]) (fit_mem imm hi) av mv (.slice none 0 0) 9 (by omega) [wrap32 (at_ - imm), v] mem [] hav hmv (WordsAt.none_ w) (in2 (wrap32_bd _) hv) hmw (by simp) (by simp)).mono ?_
  intro e w' h
  have h := tells_of h
  rw [List.take_of_length_le (by omega)] at h
  obtain ⟨vals', puts', ht⟩ := told_mem at_ v imm 0 mem 8 9 (parV [wrap32 (at_ - imm), v] 2) (parV0 _ _ _ (by omega)) (parV1 _ _ _ _ (by omega)) ha hv
  have e9 : (9 : Int).toNat + 1 = 9 + 1 := rfl
  rw [e9] at h
  unfold MemTells
  by_cases hB : hasB mem.length at_ = true
  · rw [if_pos hB] at ht ⊢
    rw [ht] at h
    exact h
  · rw [if_neg hB] at ht ⊢
    rw [ht] at h
    exact h
end Go.Proofs.Ytcangooibfddmaa.Ic
