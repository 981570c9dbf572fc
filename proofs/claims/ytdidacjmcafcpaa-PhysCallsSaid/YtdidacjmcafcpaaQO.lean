/- Stage 12: a run's step, and an operation of layer 7 as a run does it. -/
import Derived.Test.YtdidacjmcafcpaaQN
import Derived.Test.YtdidacjmcafcpaaHeld
namespace Go.Proofs.Ytdidacjmcafcpaa.Ph
open Go.ChangeShapes Go.WideShapes Go.ChangeAt Go.RowKit Go.Proofs.Ytdidacjmcafcpaa.Mem Go.Proofs.Ytdidacjmcafcpaa.Kc Go.Proofs.Ytdidacjmcafcpaa.Pl Go.Proofs.Ytdidacjmcafcpaa.Mw Go.Proofs.Ytdidacjmcafcpaa.Mc Go.Proofs.Ytdidacjmcafcpaa.Br Go.Proofs.Ytdidacjmcafcpaa.Wd
set_option linter.unusedVariables false
set_option linter.unusedSimpArgs false
set_option maxRecDepth 100000 in
theorem run_all16 (w : World) (g : Nat) : (Instr.sliceAt 76 (.pointer (some ⟨g, 4, none⟩)) none none none).run Try.prog w = .ok (.slice (some ⟨g, 4, none⟩) 16 16) w := by kernel_rfl
/-- What a run is when it was asked for one more step. -/
def PRun.step (s : PRun) : PRun := if s.steps < s.max then { s with steps := s.steps + 1 } else { s with how := 3, val := 0 }
set_option maxRecDepth 100000 in
set_option maxHeartbeats 4000000 in
theorem rstepQ_any (w : World) (B g : Nat) (s : PRun) (h : s.At B g w) (hm : InI s.max) (h0 : 0 ≤ s.steps) (h1 : s.steps ≤ 1000000000) : Calls Try.prog 56 #[.pointer (some ⟨g, 0, none⟩)] w fun e w' => e = .returned (.bool (decide (s.steps < s.max))) ∧ s.step.At B g w' ∧ But g w w' := by
  obtain ⟨c3, c20, c21, c22, c23, c24, c25⟩ := h.cells
  have f25 := h.frozen 25
  obtain ⟨hm1, hm2⟩ := hm
  have H := Lib.hid h
  by_cases hc : s.steps < s.max
  · have HD := Lib.hid (show decide (s.steps < s.max) = true from decide_eq_true hc)
    have HE := Lib.hid (show s.step = { s with steps := s.steps + 1 } from if_pos hc)
    clear h
    go_enter Try.func56, Try.ntmps56
    go_wp2_with fail
    go_quiet (fail)
    have HQ := Lib.hid (show PRun.At B g { s with steps := s.steps + 1 } ((w.drewN nq).setCell ⟨g, 20 + 5, none⟩ (.int .i64 (s.steps + 1))) from PRun.At.put (t := { s with steps := s.steps + 1 }) (H.out.below (below_drewQ (Below.refl _ _) nq)) 5 (.int .i64 (s.steps + 1)) rfl rfl rfl)
    have HB := Lib.hid (show But g w ((w.drewN nq).setCell ⟨g, 20 + 5, none⟩ (.int .i64 (s.steps + 1))) from (But.of_below (below_drewQ (Below.refl _ _) nq)).trans (but_set _ _ _ _))
    go_wp2_with fail
    go_ret
    exact ⟨by rw [HD.out]; rfl, by rw [HE.out]; exact HQ.out, HB.out⟩
  · have hc2 : s.max ≤ s.steps := by omega
    have HD := Lib.hid (show decide (s.steps < s.max) = false from decide_eq_false hc)
    have HE := Lib.hid (show s.step = { s with how := 3, val := 0 } from if_neg hc)
    clear h hc
    go_enter Try.func56, Try.ntmps56
    go_wp2_with fail
    go_quiet (fail)
    go_wp2_with fail
    refine (rend_any _ B g s 3 0 (H.out.below (below_drewQ (Below.refl _ _) nq))).mono ?_
    rintro e w2 ⟨rfl, h2, hb2⟩
    have HQ := Lib.hid h2
    have HB := Lib.hid (But.trans (But.of_below (below_drewQ (Below.refl _ w) nq)) hb2)
    clear h2 hb2
    go_wp2_with fail
    go_ret
    exact ⟨by rw [HD.out]; rfl, by rw [HE.out]; exact HQ.out, HB.out⟩
set_option maxRecDepth 100000 in
set_option maxHeartbeats 4000000 in
theorem plainQ_do (w : World) (B g : Nat) (s : PRun) (i : PMach) (A : Option Addr) (n k : Nat) (m : List Int) (h : s.At B g w) (hm : OwnWords B w s.me m) (hl : m.length ≤ 1000000) (hap : (some g : Option Nat) = none ∨ (some g : Option Nat) ≠ s.me.ownBlock)
    (hI : InI i.a ∧ InI i.b ∧ InI i.c ∧ InI i.d ∧ InI i.e) (hi : InW i.imm) (hw : ∀ r, InW (getP s.regs r)) :
    Calls Try.prog 103 #[.agg #[], .agg #[.int .i64 i.op, .int .i64 i.d, .int .i64 i.e, .int .i64 i.a, .int .i64 i.b, .int .i64 i.c, .int .i32 i.imm, .slice A n k], .pointer (some ⟨g, 0, none⟩)] w fun e w' => e = .returned (.tuple #[.int .i32 (fxM i s.regs m).trap, .bool ((fxM i s.regs m).trap == 0)]) ∧ ({ s with regs := regsM i s.regs m } : PRun).At B g w' ∧ OwnWords B w' s.me (fxM i s.regs m).mem ∧ Two (some g) s.me.ownBlock w w' := by
  have HC := Lib.hid (fun (w' : World) (hb : Below w.heap.size w w') => mdoQ_any w' i A n k g s.ps s.qs s.me B s.regs m (h.below hb) (hm.below hb) hl hap hI hi hw)
  have hcut := fun w => run_all16 w g
  have H := Lib.hid h
  obtain ⟨f, hf⟩ : ∃ f, fxM i s.regs m = f := ⟨_, rfl⟩
  obtain ⟨l2, hl2⟩ : ∃ l2, regsM i s.regs m = l2 := ⟨_, rfl⟩
  rw [hf, hl2] at HC
  rw [hf, hl2]
  obtain ⟨vme, hvme⟩ : ∃ v, s.me = v := ⟨_, rfl⟩
  have HME := Lib.hid hvme
  have HNE := Lib.hid (show (some (w.heap.size + 1) : Option Nat) ≠ some g ∧ some (w.heap.size + 1) ≠ vme.ownBlock from ⟨fun e => by have := h.2.2.2.lt; injection e; omega, fun e => by rw [hvme] at hm; have := (OwnWords.where_ hm e.symm).2; omega⟩)
  rw [hvme] at HC
  rw [hvme]
  obtain ⟨fx, fy, ft, fm⟩ := f
  clear h hm hap hI hi hw hf hl2 hvme
  go_enter Try.func103, Try.ntmps103
  go_upto_region 1 with (fail)
  obtain ⟨W1, hW1⟩ : ∃ W1, (w.alloc (.cells #[] 84)).alloc (.cells #[.int .i64 i.op, .int .i64 i.d, .int .i64 i.e, .int .i64 i.a, .int .i64 i.b, .int .i64 i.c, .int .i32 i.imm, .slice A n k] 24) = W1 := ⟨_, rfl⟩
  have hbW1 : Below w.heap.size w W1 := by rw [← hW1]; exact ((Below.refl _ _).alloc (Nat.le_refl _) _).alloc (by simp) _
  have hsW1 : Str W1 (w.heap.size + 1) 24 [.int .i64 i.op, .int .i64 i.d, .int .i64 i.e, .int .i64 i.a, .int .i64 i.b, .int .i64 i.c, .int .i32 i.imm, .slice A n k] := by
    have h9 := World.alloc_heap_new (w.alloc (.cells #[] 84)) (.cells #[.int .i64 i.op, .int .i64 i.d, .int .i64 i.e, .int .i64 i.a, .int .i64 i.b, .int .i64 i.c, .int .i32 i.imm, .slice A n k] 24)
    rw [hW1] at h9
    simp only [World.size_alloc] at h9
    exact h9
  rw [hW1]
  clear hW1
  have m0 : W1.cell? ⟨w.heap.size + 1, 0, none⟩ = some (.int .i64 i.op) := hsW1.cell 0
  have m1 : W1.cell? ⟨w.heap.size + 1, 1, none⟩ = some (.int .i64 i.d) := hsW1.cell 1
  have m2 : W1.cell? ⟨w.heap.size + 1, 2, none⟩ = some (.int .i64 i.e) := hsW1.cell 2
  have m3 : W1.cell? ⟨w.heap.size + 1, 3, none⟩ = some (.int .i64 i.a) := hsW1.cell 3
  have m4 : W1.cell? ⟨w.heap.size + 1, 4, none⟩ = some (.int .i64 i.b) := hsW1.cell 4
  have m5 : W1.cell? ⟨w.heap.size + 1, 5, none⟩ = some (.int .i64 i.c) := hsW1.cell 5
  have m6 : W1.cell? ⟨w.heap.size + 1, 6, none⟩ = some (.int .i32 i.imm) := hsW1.cell 6
  have m7 : W1.cell? ⟨w.heap.size + 1, 7, none⟩ = some (.slice A n k) := hsW1.cell 7
  have m8 : W1.cell? ⟨g, 23, none⟩ = some s.me := (H.out.below hbW1).cells.2.2.2.2.1
  have HB1 := Lib.hid hbW1
  rw [HME.out] at m8
  have HS1 := Lib.hid hsW1
  clear hsW1 hbW1
  refine region_heldC_wp (fun w' => w'.cell? ⟨w.heap.size + 1, 0, none⟩ = some (.int .i64 i.op) ∧ w'.cell? ⟨w.heap.size + 1, 1, none⟩ = some (.int .i64 i.d) ∧ w'.cell? ⟨w.heap.size + 1, 2, none⟩ = some (.int .i64 i.e) ∧ w'.cell? ⟨w.heap.size + 1, 3, none⟩ = some (.int .i64 i.a) ∧ w'.cell? ⟨w.heap.size + 1, 4, none⟩ = some (.int .i64 i.b) ∧ w'.cell? ⟨w.heap.size + 1, 5, none⟩ = some (.int .i64 i.c) ∧ w'.cell? ⟨w.heap.size + 1, 6, none⟩ = some (.int .i32 i.imm) ∧ w'.cell? ⟨w.heap.size + 1, 7, none⟩ = some (.slice A n k) ∧ w'.cell? ⟨g, 23, none⟩ = some vme) [0, 1, 2, 3, 4, 5, 6, 7, 8, 9, 11, 12, 13, 14] [0, 1, 2, 3, 4, 5, 6, 7, 8, 9, 10, 11, 12, 13, 14] (by kernel_rfl) (by kernel_rfl) (by kernel_rfl) rfl (by intro c a d v w h; cases d <;> exact h) ⟨m0, m1, m2, m3, m4, m5, m6, m7, m8⟩ ?_
  refine walkC_still _ ?u0 rfl rfl rfl ?uy0 ?_
  case uy0 => intro w hS; obtain ⟨m0, m1, m2, m3, m4, m5, m6, m7, m8⟩ := hS; go_simp; first | done | exact hcut w | with_reducible rfl
  simp only [Act.put]
  refine walkC_still _ ?u1 rfl rfl rfl ?uy1 ?_
  case uy1 => intro w hS; obtain ⟨m0, m1, m2, m3, m4, m5, m6, m7, m8⟩ := hS; go_simp; first | done | exact hcut w | with_reducible rfl
  simp only [Act.put]
  refine walkC_still _ ?u2 rfl rfl rfl ?uy2 ?_
  case uy2 => intro w hS; obtain ⟨m0, m1, m2, m3, m4, m5, m6, m7, m8⟩ := hS; go_simp; first | done | exact hcut w | with_reducible rfl
  simp only [Act.put]
  refine walkC_still _ ?u3 rfl rfl rfl ?uy3 ?_
  case uy3 => intro w hS; obtain ⟨m0, m1, m2, m3, m4, m5, m6, m7, m8⟩ := hS; go_simp; first | done | exact hcut w | with_reducible rfl
  simp only [Act.put]
  refine walkC_still _ ?u4 rfl rfl rfl ?uy4 ?_
  case uy4 => intro w hS; obtain ⟨m0, m1, m2, m3, m4, m5, m6, m7, m8⟩ := hS; go_simp; first | done | exact hcut w | with_reducible rfl
  simp only [Act.put]
  refine walkC_still _ ?u5 rfl rfl rfl ?uy5 ?_
  case uy5 => intro w hS; obtain ⟨m0, m1, m2, m3, m4, m5, m6, m7, m8⟩ := hS; go_simp; first | done | exact hcut w | with_reducible rfl
  simp only [Act.put]
  refine walkC_still _ ?u6 rfl rfl rfl ?uy6 ?_
  case uy6 => intro w hS; obtain ⟨m0, m1, m2, m3, m4, m5, m6, m7, m8⟩ := hS; go_simp; first | done | exact hcut w | with_reducible rfl
  simp only [Act.put]
  refine walkC_still _ ?u7 rfl rfl rfl ?uy7 ?_
  case uy7 => intro w hS; obtain ⟨m0, m1, m2, m3, m4, m5, m6, m7, m8⟩ := hS; go_simp; first | done | exact hcut w | with_reducible rfl
  simp only [Act.put]
  refine walkC_still _ ?u8 rfl rfl rfl ?uy8 ?_
  case uy8 => intro w hS; obtain ⟨m0, m1, m2, m3, m4, m5, m6, m7, m8⟩ := hS; go_simp; first | done | exact hcut w | with_reducible rfl
  simp only [Act.put]
  refine walkC_still _ ?u9 rfl rfl rfl ?uy9 ?_
  case uy9 => intro w hS; obtain ⟨m0, m1, m2, m3, m4, m5, m6, m7, m8⟩ := hS; go_simp; first | done | exact hcut w | with_reducible rfl
  simp only [Act.put]
  try simp only [List.setIfInBounds_toArray, List.set_cons_zero, List.set_cons_succ]
  refine walkC_does _ rfl rfl ?_
  go_wp2_with fail
  have HBD := Lib.hid (HB1.out.trans ((Below.refl W1.heap.size W1).drew.mono HB1.out.size))
  refine (HC.out _ HBD.out).mono ?_
  rintro e' w4 ⟨rfl, h1, h2, h3⟩
  have G1 := Lib.hid h1
  have G2 := Lib.hid h2
  have G3 := Lib.hid ((Two.of_below HBD.out).trans h3)
  have hs4 : Str w4 (w.heap.size + 1) 24 [.int .i64 i.op, .int .i64 i.d, .int .i64 i.e, .int .i64 i.a, .int .i64 i.b, .int .i64 i.c, .int .i32 i.imm, .slice A n k] := (h3.block (w.heap.size + 1) HS1.out.lt HNE.out.1 HNE.out.2).trans HS1.out
  have n8 : w4.cell? ⟨g, 23, none⟩ = some vme := by have h9 := (PRun.At.cells (s := { s with regs := l2 }) h1).2.2.2.2.1; rw [show ({ s with regs := l2 } : PRun).me = vme from HME.out] at h9; exact h9
  clear h1 h2 h3
  go_wp2_with fail
  refine behindC ⟨hs4.cell 0, hs4.cell 1, hs4.cell 2, hs4.cell 3, hs4.cell 4, hs4.cell 5, hs4.cell 6, hs4.cell 7, n8⟩ ?_
  refine walkC_still _ ?u11 rfl rfl rfl ?uy11 ?_
  case uy11 => intro w hS; go_simp; first | done | with_reducible rfl
  simp only [Act.put]
  refine walkC_still _ ?u12 rfl rfl rfl ?uy12 ?_
  case uy12 => intro w hS; go_simp; first | done | with_reducible rfl
  simp only [Act.put]
  refine walkC_still _ ?u13 rfl rfl rfl ?uy13 ?_
  case uy13 => intro w hS; go_simp; first | done | with_reducible rfl
  simp only [Act.put]
  refine walkC_still _ ?u14 rfl rfl rfl ?uy14 ?_
  case uy14 => intro w hS; go_simp; first | done | with_reducible rfl
  simp only [Act.put]
  try simp only [List.setIfInBounds_toArray, List.set_cons_zero, List.set_cons_succ]
  refine walkC_nil ?_
  go_wp2_with fail
  go_ret2
  exact ⟨rfl, (by rw [← HME.out]; exact G1.out), G2.out, G3.out⟩
end Go.Proofs.Ytdidacjmcafcpaa.Ph
