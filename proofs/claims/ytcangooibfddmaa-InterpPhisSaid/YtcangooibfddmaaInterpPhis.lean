/- What is proved: phis take their values all at once: two that change places in each turn of a loop are as they were, or changed, by how many turns there were (law InterpPhis): for any two words and every number of turns the law answers true. Conditions: none beside those that the given form carries. -/
import Derived.Test.YtcangooibfddmaaRows
import Derived.Test.YtcangooibfddmaaILawB
import Derived.Deep.QuietTactic
import Derived.BigQuiet
import Derived.WalkKit
import Derived.Below
import Derived.ProofKit
import Derived.OpenShut
namespace Go.Proofs.Ytcangooibfddmaa.interpPhis
open Go.ChangeShapes Go.WideShapes Go.ChangeAt Go.RowKit
set_option linter.unusedVariables false      -- a walk need not use every 'w<i>' (that an integer argument fits its kind)

theorem own : ownKnob Try.prog.godebug = none := by kernel_rfl

open Go.Maps Go.Proofs.Ytcangooibfddmaa.Mem Go.Proofs.Ytcangooibfddmaa.Kc Go.Proofs.Ytcangooibfddmaa.Br Go.Proofs.Ytcangooibfddmaa.Pl Go.Proofs.Ytcangooibfddmaa.Gr Go.Proofs.Ytcangooibfddmaa.Wd Go.Proofs.Ytcangooibfddmaa.Ic

/-! ### STEP 1: THE WALK: the Go text returns true. 'Below w.heap.size w w'': the world has at most new blocks (Derived/RowKit3.lean). Part the cases AHEAD of 'go_enter' where a test parts the walk; take each callee by a contract of your own. -/
set_option maxRecDepth 100000 in
set_option maxHeartbeats 2000000 in
theorem walk (a0 : Int) (a1 : Int) (a2 : Int) (w0 : (Lit.int .i32 a0).wf = true) (w1 : (Lit.int .i32 a1).wf = true) (w2 : (Lit.int .u8 a2).wf = true) (w : World) :
    Calls Try.prog 8 #[.int .i32 a0, .int .i32 a1, .int .u8 a2] w fun e w' => e = .returned (.bool true) ∧ Below w.heap.size w w' := by
  have ha : InW a0 := bounds_i32 w0
  have hv : InW a1 := bounds_i32 w1
  obtain ⟨k0, k1⟩ := bounds_u8 w2
  have HA := Lib.hid ha
  have HV := Lib.hid hv
  clear ha hv w0 w1 w2
  go_enter Try.func8, Try.ntmps8
  go_wp2_with fail
  refine (shown_any w).mono ?_
  rintro e ws ⟨rfl, hs⟩
  have HBS := Lib.hid hs
  have hzs := hs.size
  clear hs
  go_wp2_with fail
  obtain ⟨W1, hLW1⟩ : ∃ W, ((((((((((((ws.alloc (.cells #[.int .i64 1, .int .i64 3, .int .i64 0, .slice none 0 0, .int .i32 (-1)] 36)).alloc (.cells #[.int .i64 1] 3)).alloc (.cells #[.int .i64 0, .int .i64 0, .int .i64 2, .int .i64 5] 61)).alloc (.cells #[.int .i64 0, .int .i64 1, .int .i64 2, .int .i64 4] 61)).alloc (.cells #[.int .i64 0, .int .i64 2, .int .i64 2, .int .i64 7] 61)).alloc (.cells #[.int .i64 4, .slice (some ⟨ws.heap.size + 1 + 1, 0, none⟩) 2 2, .int .i64 5, .slice (some ⟨ws.heap.size + 1 + 1 + 1, 0, none⟩) 2 2, .int .i64 6, .slice (some ⟨ws.heap.size + 1 + 1 + 1 + 1, 0, none⟩) 2 2] 64)).alloc (.cells #[.int .i64 6] 3)).alloc (.cells #[.int .i64 2, .int .i64 3] 3)).alloc (.cells #[.int .i64 6, .int .i64 3] 3)).alloc (.cells #[.int .i64 2, .int .i64 7, .int .i64 0, .slice (some ⟨ws.heap.size + 1 + 1 + 1 + 1 + 1 + 1 + 1 + 1, 0, none⟩) 2 2, .int .i32 0] 36)).alloc (.cells #[.int .i64 1] 3)).alloc (.cells #[.int .i64 4, .int .i64 5] 3)).alloc (.cells #[.int .i64 17, .int .i64 8, .int .i64 0, .slice (some ⟨ws.heap.size + 1 + 1 + 1 + 1 + 1 + 1 + 1 + 1 + 1 + 1 + 1, 0, none⟩) 2 2, .int .i32 9] 36) = W := ⟨_, rfl⟩
  rw [hLW1]
  have hMW1 : laid ws [([.int .i64 1, .int .i64 3, .int .i64 0, .slice none 0 0, .int .i32 (-1)], 36), ([.int .i64 1], 3), ([.int .i64 0, .int .i64 0, .int .i64 2, .int .i64 5], 61), ([.int .i64 0, .int .i64 1, .int .i64 2, .int .i64 4], 61), ([.int .i64 0, .int .i64 2, .int .i64 2, .int .i64 7], 61), ([.int .i64 4, .slice (some ⟨ws.heap.size + 1 + 1, 0, none⟩) 2 2, .int .i64 5, .slice (some ⟨ws.heap.size + 1 + 1 + 1, 0, none⟩) 2 2, .int .i64 6, .slice (some ⟨ws.heap.size + 1 + 1 + 1 + 1, 0, none⟩) 2 2], 64), ([.int .i64 6], 3), ([.int .i64 2, .int .i64 3], 3), ([.int .i64 6, .int .i64 3], 3), ([.int .i64 2, .int .i64 7, .int .i64 0, .slice (some ⟨ws.heap.size + 1 + 1 + 1 + 1 + 1 + 1 + 1 + 1, 0, none⟩) 2 2, .int .i32 0], 36), ([.int .i64 1], 3), ([.int .i64 4, .int .i64 5], 3), ([.int .i64 17, .int .i64 8, .int .i64 0, .slice (some ⟨ws.heap.size + 1 + 1 + 1 + 1 + 1 + 1 + 1 + 1 + 1 + 1 + 1, 0, none⟩) 2 2, .int .i32 9], 36)] = W1 := hLW1
  have hbW1 : Below ws.heap.size ws W1 := by rw [← hMW1]; exact laid_below _ _ _ (Nat.le_refl _)
  have q0 : Str W1 (ws.heap.size) 36 [.int .i64 1, .int .i64 3, .int .i64 0, .slice none 0 0, .int .i32 (-1)] := by rw [← hMW1]; exact laid_at _ ws 0 _ _ rfl
  have q1 : Str W1 (ws.heap.size + 1) 3 [.int .i64 1] := by rw [← hMW1]; exact laid_at _ ws 1 _ _ rfl
  have q2 : Str W1 (ws.heap.size + 1 + 1) 61 [.int .i64 0, .int .i64 0, .int .i64 2, .int .i64 5] := by rw [← hMW1]; exact laid_at _ ws 2 _ _ rfl
  have q3 : Str W1 (ws.heap.size + 1 + 1 + 1) 61 [.int .i64 0, .int .i64 1, .int .i64 2, .int .i64 4] := by rw [← hMW1]; exact laid_at _ ws 3 _ _ rfl
  have q4 : Str W1 (ws.heap.size + 1 + 1 + 1 + 1) 61 [.int .i64 0, .int .i64 2, .int .i64 2, .int .i64 7] := by rw [← hMW1]; exact laid_at _ ws 4 _ _ rfl
  have q5 : Str W1 (ws.heap.size + 1 + 1 + 1 + 1 + 1) 64 [.int .i64 4, .slice (some ⟨ws.heap.size + 1 + 1, 0, none⟩) 2 2, .int .i64 5, .slice (some ⟨ws.heap.size + 1 + 1 + 1, 0, none⟩) 2 2, .int .i64 6, .slice (some ⟨ws.heap.size + 1 + 1 + 1 + 1, 0, none⟩) 2 2] := by rw [← hMW1]; exact laid_at _ ws 5 _ _ rfl
  have q6 : Str W1 (ws.heap.size + 1 + 1 + 1 + 1 + 1 + 1) 3 [.int .i64 6] := by rw [← hMW1]; exact laid_at _ ws 6 _ _ rfl
  have q7 : Str W1 (ws.heap.size + 1 + 1 + 1 + 1 + 1 + 1 + 1) 3 [.int .i64 2, .int .i64 3] := by rw [← hMW1]; exact laid_at _ ws 7 _ _ rfl
  have q8 : Str W1 (ws.heap.size + 1 + 1 + 1 + 1 + 1 + 1 + 1 + 1) 3 [.int .i64 6, .int .i64 3] := by rw [← hMW1]; exact laid_at _ ws 8 _ _ rfl
  have q9 : Str W1 (ws.heap.size + 1 + 1 + 1 + 1 + 1 + 1 + 1 + 1 + 1) 36 [.int .i64 2, .int .i64 7, .int .i64 0, .slice (some ⟨ws.heap.size + 1 + 1 + 1 + 1 + 1 + 1 + 1 + 1, 0, none⟩) 2 2, .int .i32 0] := by rw [← hMW1]; exact laid_at _ ws 9 _ _ rfl
  have q10 : Str W1 (ws.heap.size + 1 + 1 + 1 + 1 + 1 + 1 + 1 + 1 + 1 + 1) 3 [.int .i64 1] := by rw [← hMW1]; exact laid_at _ ws 10 _ _ rfl
  have q11 : Str W1 (ws.heap.size + 1 + 1 + 1 + 1 + 1 + 1 + 1 + 1 + 1 + 1 + 1) 3 [.int .i64 4, .int .i64 5] := by rw [← hMW1]; exact laid_at _ ws 11 _ _ rfl
  have q12 : Str W1 (ws.heap.size + 1 + 1 + 1 + 1 + 1 + 1 + 1 + 1 + 1 + 1 + 1 + 1) 36 [.int .i64 17, .int .i64 8, .int .i64 0, .slice (some ⟨ws.heap.size + 1 + 1 + 1 + 1 + 1 + 1 + 1 + 1 + 1 + 1 + 1, 0, none⟩) 2 2, .int .i32 9] := by rw [← hMW1]; exact laid_at _ ws 12 _ _ rfl
  have hzW1 : W1.heap.size = ws.heap.size + 13 := by rw [← hMW1]; exact laid_size _ _
  clear hLW1 hMW1
  refine (ret_any W1 4).mono ?_
  rintro e w2 ⟨gR, rfl, hR, hb2⟩
  go_wp2_with fail
  obtain ⟨k, hk⟩ : ∃ k : Nat, a2 % 41 = k := ⟨(a2 % 41).toNat, by omega⟩
  have hk2 : k ≤ 40 := by omega
  rw [hk]
  clear hk
  obtain ⟨W3, hLW3⟩ : ∃ W, ((w2.alloc (.cells #[.slice none 0 0, .slice (some ⟨ws.heap.size, 0, none⟩) 1 1, .int .i64 1, .slice none 0 0, .slice (some ⟨ws.heap.size + 1, 0, none⟩) 1 1, .int .i32 0, .slice (some ⟨ws.heap.size + 1 + 1 + 1 + 1 + 1, 0, none⟩) 3 3, .slice none 0 0, .int .i64 2, .slice (some ⟨ws.heap.size + 1 + 1 + 1 + 1 + 1 + 1, 0, none⟩) 1 1, .slice (some ⟨ws.heap.size + 1 + 1 + 1 + 1 + 1 + 1 + 1, 0, none⟩) 2 2, .int .i32 0, .slice none 0 0, .slice (some ⟨ws.heap.size + 1 + 1 + 1 + 1 + 1 + 1 + 1 + 1 + 1, 0, none⟩) 1 1, .int .i64 1, .slice none 0 0, .slice (some ⟨ws.heap.size + 1 + 1 + 1 + 1 + 1 + 1 + 1 + 1 + 1 + 1, 0, none⟩) 1 1, .int .i32 0, .slice none 0 0, .slice (some ⟨ws.heap.size + 1 + 1 + 1 + 1 + 1 + 1 + 1 + 1 + 1 + 1 + 1 + 1, 0, none⟩) 1 1, .int .i64 4, .slice (some ⟨gR, 0, none⟩) 1 1, .slice none 0 0, .int .i32 0] 34)).alloc (.cells #[.int .i64 3, .slice (some ⟨w2.heap.size, 0, none⟩) 4 4] 24)).alloc (.cells #[.int .i32 a0, .int .i32 a1, .int .i32 k] 21) = W := ⟨_, rfl⟩
  rw [hLW3]
  have hMW3 : laid w2 [([.slice none 0 0, .slice (some ⟨ws.heap.size, 0, none⟩) 1 1, .int .i64 1, .slice none 0 0, .slice (some ⟨ws.heap.size + 1, 0, none⟩) 1 1, .int .i32 0, .slice (some ⟨ws.heap.size + 1 + 1 + 1 + 1 + 1, 0, none⟩) 3 3, .slice none 0 0, .int .i64 2, .slice (some ⟨ws.heap.size + 1 + 1 + 1 + 1 + 1 + 1, 0, none⟩) 1 1, .slice (some ⟨ws.heap.size + 1 + 1 + 1 + 1 + 1 + 1 + 1, 0, none⟩) 2 2, .int .i32 0, .slice none 0 0, .slice (some ⟨ws.heap.size + 1 + 1 + 1 + 1 + 1 + 1 + 1 + 1 + 1, 0, none⟩) 1 1, .int .i64 1, .slice none 0 0, .slice (some ⟨ws.heap.size + 1 + 1 + 1 + 1 + 1 + 1 + 1 + 1 + 1 + 1, 0, none⟩) 1 1, .int .i32 0, .slice none 0 0, .slice (some ⟨ws.heap.size + 1 + 1 + 1 + 1 + 1 + 1 + 1 + 1 + 1 + 1 + 1 + 1, 0, none⟩) 1 1, .int .i64 4, .slice (some ⟨gR, 0, none⟩) 1 1, .slice none 0 0, .int .i32 0], 34), ([.int .i64 3, .slice (some ⟨w2.heap.size, 0, none⟩) 4 4], 24), ([.int .i32 a0, .int .i32 a1, .int .i32 k], 21)] = W3 := hLW3
  have hbW3 : Below w2.heap.size w2 W3 := by rw [← hMW3]; exact laid_below _ _ _ (Nat.le_refl _)
  have p0 : Str W3 (w2.heap.size) 34 [.slice none 0 0, .slice (some ⟨ws.heap.size, 0, none⟩) 1 1, .int .i64 1, .slice none 0 0, .slice (some ⟨ws.heap.size + 1, 0, none⟩) 1 1, .int .i32 0, .slice (some ⟨ws.heap.size + 1 + 1 + 1 + 1 + 1, 0, none⟩) 3 3, .slice none 0 0, .int .i64 2, .slice (some ⟨ws.heap.size + 1 + 1 + 1 + 1 + 1 + 1, 0, none⟩) 1 1, .slice (some ⟨ws.heap.size + 1 + 1 + 1 + 1 + 1 + 1 + 1, 0, none⟩) 2 2, .int .i32 0, .slice none 0 0, .slice (some ⟨ws.heap.size + 1 + 1 + 1 + 1 + 1 + 1 + 1 + 1 + 1, 0, none⟩) 1 1, .int .i64 1, .slice none 0 0, .slice (some ⟨ws.heap.size + 1 + 1 + 1 + 1 + 1 + 1 + 1 + 1 + 1 + 1, 0, none⟩) 1 1, .int .i32 0, .slice none 0 0, .slice (some ⟨ws.heap.size + 1 + 1 + 1 + 1 + 1 + 1 + 1 + 1 + 1 + 1 + 1 + 1, 0, none⟩) 1 1, .int .i64 4, .slice (some ⟨gR, 0, none⟩) 1 1, .slice none 0 0, .int .i32 0] := by rw [← hMW3]; exact laid_at _ w2 0 _ _ rfl
  have p1 : Str W3 (w2.heap.size + 1) 24 [.int .i64 3, .slice (some ⟨w2.heap.size, 0, none⟩) 4 4] := by rw [← hMW3]; exact laid_at _ w2 1 _ _ rfl
  have p2 : Str W3 (w2.heap.size + 1 + 1) 21 [.int .i32 a0, .int .i32 a1, .int .i32 k] := by rw [← hMW3]; exact laid_at _ w2 2 _ _ rfl
  have hzW3 : W3.heap.size = w2.heap.size + 3 := by rw [← hMW3]; exact laid_size _ _
  clear hLW3 hMW3
  have hb13 := hb2.trans (hbW3.mono hb2.size)
  have HF := Lib.hid (swapP_at (q0.below hb13) (q1.below hb13) (q2.below hb13) (q3.below hb13) (q4.below hb13) (q5.below hb13) (q6.below hb13) (q7.below hb13) (q8.below hb13) (q9.below hb13) (q10.below hb13) (q11.below hb13) (q12.below hb13) (cell_keep hbW3 (Nat.le_refl _) hR) p0)
  have HBW := Lib.hid (HBS.out.trans ((hbW1.trans (hb13.mono hbW1.size)).mono hzs))
  have hz3 := Nat.le_trans hzs (Nat.le_trans hbW1.size hb13.size)
  refine (run_swap W3 w2.heap.size a0 a1 k hk2 HA.out HV.out HF.out _ (words3 p2 ⟨by omega, fits (by omega)⟩)).mono ?_
  rintro e w4 ⟨steps, mem, mA, mn, mc, cA, cn, ck, rfl, _, hev, hb4⟩
  have HB4 := Lib.hid (HBW.out.trans (hb4.mono hz3))
  have hz4 := Nat.le_trans hz3 hb4.size
  have HEV := Lib.hid hev
  obtain ⟨x, hx⟩ : ∃ x, (swapV k a0 a1).1 = x := ⟨_, rfl⟩
  obtain ⟨y, hy⟩ : ∃ y, (swapV k a0 a1).2 = y := ⟨_, rfl⟩
  have HXY := Lib.hid (show (x, y) = if k % 2 = 1 then (a1, a0) else (a0, a1) by rw [← swap_even, ← hx, ← hy])
  rw [hx, hy] at HEV
  rw [hx]
  clear q0 q1 q2 q3 q4 q5 q6 q7 q8 q9 q10 q11 q12 p0 p1 p2 hb13 hbW1 hbW3 hzW1 hzW3 hb2 hb4 hR hev hx hy
  go_upto_region 5 with (fail)
  obtain ⟨W5, hLW5⟩ : ∃ W, w4.alloc (.cells #[.int .i64 1, .int .i32 x, .slice mA mn mc, .slice cA cn ck, .int .i64 steps] 45) = W := ⟨_, rfl⟩
  rw [hLW5]
  have hMW5 : laid w4 [([.int .i64 1, .int .i32 x, .slice mA mn mc, .slice cA cn ck, .int .i64 steps], 45)] = W5 := hLW5
  have hbW5 : Below w4.heap.size w4 W5 := by rw [← hMW5]; exact laid_below _ _ _ (Nat.le_refl _)
  have s0 : Str W5 (w4.heap.size) 45 [.int .i64 1, .int .i32 x, .slice mA mn mc, .slice cA cn ck, .int .i64 steps] := by rw [← hMW5]; exact laid_at _ w4 0 _ _ rfl
  have hzW5 : W5.heap.size = w4.heap.size + 1 := by rw [← hMW5]; exact laid_size _ _
  clear hLW5 hMW5
  have HEV5 := Lib.hid (HEV.out.below hbW5)
  have HB5 := Lib.hid (HB4.out.trans (hbW5.mono hz4))
  have hz5 := Nat.le_trans hz4 hbW5.size
  have HS5 := Lib.hid s0
  clear s0 hbW5 hzW5
  by_cases hodd : k % 2 = 1
  · have hxy := HXY.out
    rw [if_pos hodd] at hxy
    injection hxy with hx hy
    have hx' := hx.symm
    have hy' := hy.symm
    clear hx hy
    subst hx' hy'
    have hrem : ((k : Int) % 2 == 1) = true := beq_iff_eq.2 (by omega)
    clear hodd HXY
    go_wp2_with fail
    obtain ⟨W6, hLW6⟩ : ∃ W, (W5.alloc (.cells #[.int .i32 a0, .int .i32 a1] 21)).alloc (.cells #[.int .i32 a1, .int .i32 a0] 21) = W := ⟨_, rfl⟩
    rw [hLW6]
    have hMW6 : laid W5 [([.int .i32 a0, .int .i32 a1], 21), ([.int .i32 a1, .int .i32 a0], 21)] = W6 := hLW6
    have hbW6 : Below W5.heap.size W5 W6 := by rw [← hMW6]; exact laid_below _ _ _ (Nat.le_refl _)
    have s0 : Str W6 (W5.heap.size) 21 [.int .i32 a0, .int .i32 a1] := by rw [← hMW6]; exact laid_at _ W5 0 _ _ rfl
    have s1 : Str W6 (W5.heap.size + 1) 21 [.int .i32 a1, .int .i32 a0] := by rw [← hMW6]; exact laid_at _ W5 1 _ _ rfl
    have hzW6 : W6.heap.size = W5.heap.size + 2 := by rw [← hMW6]; exact laid_size _ _
    clear hLW6 hMW6
    obtain ⟨hcn, hcl, hcm, hre⟩ := (HEV5.out.below hbW6).reads
    obtain ⟨gE, rfl, hre2⟩ := hre (by simp)
    obtain ⟨e0, eA, en, ec, e1, hew⟩ := hre2 0 (by simp)
    have e0 : W6.cell? ⟨gE, 0, none⟩ = some (.int .i32 9) := e0
    have e1 : W6.cell? ⟨gE, 1, none⟩ = some (.slice eA en ec) := e1
    have o := HS5.out.below hbW6
    have q0 : W6.cell? ⟨w4.heap.size, 0, none⟩ = some (.int .i64 1) := o.cell 0
    have q1 : W6.cell? ⟨w4.heap.size, 1, none⟩ = some (.int .i32 a1) := o.cell 1
    have q3 : W6.cell? ⟨w4.heap.size, 3, none⟩ = some (.slice (some ⟨gE, 0, none⟩) cn ck) := o.cell 3
    have v0 : W6.cell? ⟨W5.heap.size + 1, 0, none⟩ = some (.int .i32 a1) := s1.cell 0
    have HEW := Lib.hid (show WordsAt W6 (.slice eA en ec) [a1, a0] from hew)
    have HWW := Lib.hid (words2 s1 (c := 2) ⟨by omega, fits (by omega)⟩)
    have HB6 := Lib.hid (HB5.out.trans (hbW6.mono hz5))
    have hcn1 : cn = 1 := hcn
    clear hcn
    subst hcn1
    clear o hew hre hre2 hbW6 hzW6 s0 s1 hcl hcm
    go_quiet ((go_at_call 25; exact Calls.quiet_of (words_same _ _ _ [a1, a0] (HEW.out.below (below_drewK (Below.refl _ _) _)) (HWW.out.below (below_drewK (Below.refl _ _) _)))))
    go_wp2_with fail
    go_ret
    exact ⟨rfl, below_drewK HB6.out _⟩
  · have hxy := HXY.out
    rw [if_neg hodd] at hxy
    injection hxy with hx hy
    have hx' := hx.symm
    have hy' := hy.symm
    clear hx hy
    subst hx' hy'
    have hrem : ((k : Int) % 2 == 1) = false := beq_eq_false_iff_ne.2 (by omega)
    clear hodd HXY
    go_wp2_with fail
    obtain ⟨W6, hLW6⟩ : ∃ W, W5.alloc (.cells #[.int .i32 a0, .int .i32 a1] 21) = W := ⟨_, rfl⟩
    rw [hLW6]
    have hMW6 : laid W5 [([.int .i32 a0, .int .i32 a1], 21)] = W6 := hLW6
    have hbW6 : Below W5.heap.size W5 W6 := by rw [← hMW6]; exact laid_below _ _ _ (Nat.le_refl _)
    have s0 : Str W6 (W5.heap.size) 21 [.int .i32 a0, .int .i32 a1] := by rw [← hMW6]; exact laid_at _ W5 0 _ _ rfl
    have hzW6 : W6.heap.size = W5.heap.size + 1 := by rw [← hMW6]; exact laid_size _ _
    clear hLW6 hMW6
    obtain ⟨hcn, hcl, hcm, hre⟩ := (HEV5.out.below hbW6).reads
    obtain ⟨gE, rfl, hre2⟩ := hre (by simp)
    obtain ⟨e0, eA, en, ec, e1, hew⟩ := hre2 0 (by simp)
    have e0 : W6.cell? ⟨gE, 0, none⟩ = some (.int .i32 9) := e0
    have e1 : W6.cell? ⟨gE, 1, none⟩ = some (.slice eA en ec) := e1
    have o := HS5.out.below hbW6
    have q0 : W6.cell? ⟨w4.heap.size, 0, none⟩ = some (.int .i64 1) := o.cell 0
    have q1 : W6.cell? ⟨w4.heap.size, 1, none⟩ = some (.int .i32 a0) := o.cell 1
    have q3 : W6.cell? ⟨w4.heap.size, 3, none⟩ = some (.slice (some ⟨gE, 0, none⟩) cn ck) := o.cell 3
    have v0 : W6.cell? ⟨W5.heap.size, 0, none⟩ = some (.int .i32 a0) := s0.cell 0
    have HEW := Lib.hid (show WordsAt W6 (.slice eA en ec) [a0, a1] from hew)
    have HWW := Lib.hid (words2 s0 (c := 2) ⟨by omega, fits (by omega)⟩)
    have HB6 := Lib.hid (HB5.out.trans (hbW6.mono hz5))
    have hcn1 : cn = 1 := hcn
    clear hcn
    subst hcn1
    clear o hew hre hre2 hbW6 hzW6 s0 hcl hcm
    go_quiet ((go_at_call 25; exact Calls.quiet_of (words_same _ _ _ [a0, a1] (HEW.out.below (below_drewK (Below.refl _ _) _)) (HWW.out.below (below_drewK (Below.refl _ _) _)))))
    go_wp2_with fail
    go_ret
    exact ⟨rfl, below_drewK HB6.out _⟩

/-! ### THE ROW's STEP: WRITTEN OUT: LEAVE IT -/
set_option maxRecDepth 100000 in
theorem lifted (os : Os) (started : os.Started) (H : Type) (enc : TypeId × Value → H) :
    ReturnsInHanded {} Try.checked os 8 .any (Rows.interpPhisSpec.pre6 enc Try.prog Try.f8 Rows.interpPhisRow.domain false) (Rows.interpPhisSpec.post enc Try.prog Try.f8 false true false false) := by
  refine returnsInHanded_of_change (C := Try.checked) own started (by kernel_rfl) Try.func8
    (ChangeSpec.witness6 (enc := enc) (C := Try.checked) false ⟨#[], #[.int .i32 0, .int .i32 0, .int .u8 0], []⟩ 8 (by kernel_rfl) (by kernel_rfl) (by kernel_rfl) (by kernel_rfl)) ?_
  intro W base args ds gs before hval0 hW hcnd _
  have hval : ∀ (j : Nat) t v, Try.f8.params[j]? = some t → args[j]? = some v → Value.okWide Try.prog W .any base t v := hval0
  have hW' := hW
  obtain ⟨p, q, hA0, hV, rfl, hfz, hnd⟩ := hW
  have hA : DataW.TrodAll enc Try.prog W 0 (fun _ => true) true Try.f8.params.toList args.toList ds p := hA0
  rw [Try.params8] at hA hval
  obtain ⟨v0, vs0, d0, ds0, p0, q0, hargs, rfl, rfl, h0, r0⟩ := trodAll_cons hA
  obtain ⟨v1, vs1, d1, ds1, p1, q1, rfl, rfl, rfl, h1, r1⟩ := trodAll_cons r0
  obtain ⟨v2, vs2, d2, ds2, p2, q2, rfl, rfl, rfl, h2, r2⟩ := trodAll_cons r1
  obtain ⟨rfl, rfl, rfl⟩ := trodAll_nil r2
  obtain rfl : args = #[v0, v1, v2] := by cases args; simp_all
  obtain ⟨rfl, rfl⟩ := trodVars_none hV
  obtain ⟨a0, rfl, rfl, rfl, w0⟩ := open_int Try.underlying21 (hval 0 21 v0 rfl rfl) h0
  obtain ⟨a1, rfl, rfl, rfl, w1⟩ := open_int Try.underlying21 (hval 1 21 v1 rfl rfl) h1
  obtain ⟨a2, rfl, rfl, rfl, w2⟩ := open_int Try.underlying5 (hval 2 5 v2 rfl rfl) h2
  clear hA0 hval0
  simp only [List.append_nil] at hW'
  refine (walk a0 a1 a2 w0 w1 w2 W).mono fun e W' ⟨he, hg⟩ => ?_
  subst he
  exact ⟨_, rfl, _, _, _, [], [], [], hW', (trodAll_cons_mk (shut_bool Try.underlying4 _) trodAll_mk0), (trodAll_cons_mk (shut_int Try.underlying21 w0) (trodAll_cons_mk (shut_int Try.underlying21 w1) (trodAll_cons_mk (shut_int Try.underlying5 w2) trodAll_mk0))), rfl, hg.frame _, fun h => by cases h⟩

theorem over : Rows.interpPhisRow.holds Try.pinned (OpenSpec.ofChange Rows.interpPhisSpec) :=
  OpenClaim.holds_of_wide 8 Try.f8 rfl rfl rfl rfl rfl rfl rfl ⟨rfl, rfl, rfl, rfl, rfl⟩ rfl rfl rfl rfl rfl (by kernel_rfl) Try.func8 (by kernel_rfl)
    (of_decide_eq_true (by kernel_rfl)) (by unfold Func.isWrapper; first | (rw [if_pos (by decide +kernel)]; kernel_rfl) | (rw [if_neg (by decide +kernel)]; exact ⟨rfl, rfl⟩))
    (fun os started H enc _ => lifted os started H enc)

/-- ████ THE STATEMENT ████ -/
theorem proved : Rows.InterpPhisSaid :=
  over
#print axioms proved
end Go.Proofs.Ytcangooibfddmaa.interpPhis
