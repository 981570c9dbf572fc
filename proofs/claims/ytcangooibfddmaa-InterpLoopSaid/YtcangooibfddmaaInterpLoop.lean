/- What is proved: a loop that adds up all numbers below a parameter tells that sum, by so many steps (law InterpLoop): for every number of turns, every beginning and every number of steps the law answers true. Conditions: none beside those that the given form carries. -/
import Derived.Test.YtcangooibfddmaaRows
import Derived.Test.YtcangooibfddmaaILawB
import Derived.WalkKit
import Derived.Below
import Derived.ProofKit
import Derived.OpenShut
namespace Go.Proofs.Ytcangooibfddmaa.interpLoop
open Go.ChangeShapes Go.WideShapes Go.ChangeAt Go.RowKit
set_option linter.unusedVariables false      -- a walk need not use every 'w<i>' (that an integer argument fits its kind)

theorem own : ownKnob Try.prog.godebug = none := by kernel_rfl

open Go.Maps Go.Proofs.Ytcangooibfddmaa.Mem Go.Proofs.Ytcangooibfddmaa.Kc Go.Proofs.Ytcangooibfddmaa.Br Go.Proofs.Ytcangooibfddmaa.Pl Go.Proofs.Ytcangooibfddmaa.Gr Go.Proofs.Ytcangooibfddmaa.Wd Go.Proofs.Ytcangooibfddmaa.Ic

/-! ### STEP 1: THE WALK: the Go text returns true. 'Below w.heap.size w w'': the world has at most new blocks (Derived/RowKit3.lean). Part the cases AHEAD of 'go_enter' where a test parts the walk; take each callee by a contract of your own. -/
set_option maxRecDepth 100000 in
set_option maxHeartbeats 2000000 in
theorem walk (a0 : Int) (a1 : Int) (a2 : Int) (w0 : (Lit.int .u8 a0).wf = true) (w1 : (Lit.int .i32 a1).wf = true) (w2 : (Lit.int .u16 a2).wf = true) (w : World) :
    Calls Try.prog 7 #[.int .u8 a0, .int .i32 a1, .int .u16 a2] w fun e w' => e = .returned (.bool true) ∧ Below w.heap.size w w' := by
  have hv : InW a1 := bounds_i32 w1
  obtain ⟨k0, k1⟩ := bounds_u8 w0
  obtain ⟨n0, n1⟩ := bounds_u16 w2
  have HV := Lib.hid hv
  clear hv w0 w1 w2
  go_enter Try.func7, Try.ntmps7
  go_wp2_with fail
  refine (shown_any w).mono ?_
  rintro e ws ⟨rfl, hs⟩
  have HBS := Lib.hid hs
  have hzs := hs.size
  clear hs
  go_wp2_with fail
  obtain ⟨W1, hLW1⟩ : ∃ W, ((((((((((((ws.alloc (.cells #[.int .i64 1, .int .i64 2, .int .i64 0, .slice none 0 0, .int .i32 0] 36)).alloc (.cells #[.int .i64 1] 3)).alloc (.cells #[.int .i64 0, .int .i64 2, .int .i64 2, .int .i64 7] 61)).alloc (.cells #[.int .i64 0, .int .i64 1, .int .i64 2, .int .i64 8] 61)).alloc (.cells #[.int .i64 3, .slice (some ⟨ws.heap.size + 1 + 1, 0, none⟩) 2 2, .int .i64 4, .slice (some ⟨ws.heap.size + 1 + 1 + 1, 0, none⟩) 2 2] 64)).alloc (.cells #[.int .i64 3, .int .i64 0] 3)).alloc (.cells #[.int .i64 12, .int .i64 5, .int .i64 0, .slice (some ⟨ws.heap.size + 1 + 1 + 1 + 1 + 1, 0, none⟩) 2 2, .int .i32 0] 36)).alloc (.cells #[.int .i64 5] 3)).alloc (.cells #[.int .i64 2, .int .i64 3] 3)).alloc (.cells #[.int .i64 3, .int .i64 6] 3)).alloc (.cells #[.int .i64 4, .int .i64 3] 3)).alloc (.cells #[.int .i64 1, .int .i64 6, .int .i64 0, .slice none 0 0, .int .i32 1, .int .i64 2, .int .i64 7, .int .i64 0, .slice (some ⟨ws.heap.size + 1 + 1 + 1 + 1 + 1 + 1 + 1 + 1 + 1, 0, none⟩) 2 2, .int .i32 0, .int .i64 2, .int .i64 8, .int .i64 0, .slice (some ⟨ws.heap.size + 1 + 1 + 1 + 1 + 1 + 1 + 1 + 1 + 1 + 1, 0, none⟩) 2 2, .int .i32 0] 36)).alloc (.cells #[.int .i64 1] 3) = W := ⟨_, rfl⟩
  rw [hLW1]
  have hMW1 : laid ws [([.int .i64 1, .int .i64 2, .int .i64 0, .slice none 0 0, .int .i32 0], 36), ([.int .i64 1], 3), ([.int .i64 0, .int .i64 2, .int .i64 2, .int .i64 7], 61), ([.int .i64 0, .int .i64 1, .int .i64 2, .int .i64 8], 61), ([.int .i64 3, .slice (some ⟨ws.heap.size + 1 + 1, 0, none⟩) 2 2, .int .i64 4, .slice (some ⟨ws.heap.size + 1 + 1 + 1, 0, none⟩) 2 2], 64), ([.int .i64 3, .int .i64 0], 3), ([.int .i64 12, .int .i64 5, .int .i64 0, .slice (some ⟨ws.heap.size + 1 + 1 + 1 + 1 + 1, 0, none⟩) 2 2, .int .i32 0], 36), ([.int .i64 5], 3), ([.int .i64 2, .int .i64 3], 3), ([.int .i64 3, .int .i64 6], 3), ([.int .i64 4, .int .i64 3], 3), ([.int .i64 1, .int .i64 6, .int .i64 0, .slice none 0 0, .int .i32 1, .int .i64 2, .int .i64 7, .int .i64 0, .slice (some ⟨ws.heap.size + 1 + 1 + 1 + 1 + 1 + 1 + 1 + 1 + 1, 0, none⟩) 2 2, .int .i32 0, .int .i64 2, .int .i64 8, .int .i64 0, .slice (some ⟨ws.heap.size + 1 + 1 + 1 + 1 + 1 + 1 + 1 + 1 + 1 + 1, 0, none⟩) 2 2, .int .i32 0], 36), ([.int .i64 1], 3)] = W1 := hLW1
  have hbW1 : Below ws.heap.size ws W1 := by rw [← hMW1]; exact laid_below _ _ _ (Nat.le_refl _)
  have q0 : Str W1 (ws.heap.size) 36 [.int .i64 1, .int .i64 2, .int .i64 0, .slice none 0 0, .int .i32 0] := by rw [← hMW1]; exact laid_at _ ws 0 _ _ rfl
  have q1 : Str W1 (ws.heap.size + 1) 3 [.int .i64 1] := by rw [← hMW1]; exact laid_at _ ws 1 _ _ rfl
  have q2 : Str W1 (ws.heap.size + 1 + 1) 61 [.int .i64 0, .int .i64 2, .int .i64 2, .int .i64 7] := by rw [← hMW1]; exact laid_at _ ws 2 _ _ rfl
  have q3 : Str W1 (ws.heap.size + 1 + 1 + 1) 61 [.int .i64 0, .int .i64 1, .int .i64 2, .int .i64 8] := by rw [← hMW1]; exact laid_at _ ws 3 _ _ rfl
  have q4 : Str W1 (ws.heap.size + 1 + 1 + 1 + 1) 64 [.int .i64 3, .slice (some ⟨ws.heap.size + 1 + 1, 0, none⟩) 2 2, .int .i64 4, .slice (some ⟨ws.heap.size + 1 + 1 + 1, 0, none⟩) 2 2] := by rw [← hMW1]; exact laid_at _ ws 4 _ _ rfl
  have q5 : Str W1 (ws.heap.size + 1 + 1 + 1 + 1 + 1) 3 [.int .i64 3, .int .i64 0] := by rw [← hMW1]; exact laid_at _ ws 5 _ _ rfl
  have q6 : Str W1 (ws.heap.size + 1 + 1 + 1 + 1 + 1 + 1) 36 [.int .i64 12, .int .i64 5, .int .i64 0, .slice (some ⟨ws.heap.size + 1 + 1 + 1 + 1 + 1, 0, none⟩) 2 2, .int .i32 0] := by rw [← hMW1]; exact laid_at _ ws 6 _ _ rfl
  have q7 : Str W1 (ws.heap.size + 1 + 1 + 1 + 1 + 1 + 1 + 1) 3 [.int .i64 5] := by rw [← hMW1]; exact laid_at _ ws 7 _ _ rfl
  have q8 : Str W1 (ws.heap.size + 1 + 1 + 1 + 1 + 1 + 1 + 1 + 1) 3 [.int .i64 2, .int .i64 3] := by rw [← hMW1]; exact laid_at _ ws 8 _ _ rfl
  have q9 : Str W1 (ws.heap.size + 1 + 1 + 1 + 1 + 1 + 1 + 1 + 1 + 1) 3 [.int .i64 3, .int .i64 6] := by rw [← hMW1]; exact laid_at _ ws 9 _ _ rfl
  have q10 : Str W1 (ws.heap.size + 1 + 1 + 1 + 1 + 1 + 1 + 1 + 1 + 1 + 1) 3 [.int .i64 4, .int .i64 3] := by rw [← hMW1]; exact laid_at _ ws 10 _ _ rfl
  have q11 : Str W1 (ws.heap.size + 1 + 1 + 1 + 1 + 1 + 1 + 1 + 1 + 1 + 1 + 1) 36 [.int .i64 1, .int .i64 6, .int .i64 0, .slice none 0 0, .int .i32 1, .int .i64 2, .int .i64 7, .int .i64 0, .slice (some ⟨ws.heap.size + 1 + 1 + 1 + 1 + 1 + 1 + 1 + 1 + 1, 0, none⟩) 2 2, .int .i32 0, .int .i64 2, .int .i64 8, .int .i64 0, .slice (some ⟨ws.heap.size + 1 + 1 + 1 + 1 + 1 + 1 + 1 + 1 + 1 + 1, 0, none⟩) 2 2, .int .i32 0] := by rw [← hMW1]; exact laid_at _ ws 11 _ _ rfl
  have q12 : Str W1 (ws.heap.size + 1 + 1 + 1 + 1 + 1 + 1 + 1 + 1 + 1 + 1 + 1 + 1) 3 [.int .i64 1] := by rw [← hMW1]; exact laid_at _ ws 12 _ _ rfl
  have hzW1 : W1.heap.size = ws.heap.size + 13 := by rw [← hMW1]; exact laid_size _ _
  clear hLW1 hMW1
  refine (ret_any W1 4).mono ?_
  rintro e w2 ⟨gR, rfl, hR, hb2⟩
  go_wp2_with fail
  obtain ⟨k, hk⟩ : ∃ k, a0 % 61 = k := ⟨_, rfl⟩
  obtain ⟨lim, hlim⟩ : ∃ lim, a2 % 512 = lim := ⟨_, rfl⟩
  have hk2 : 0 ≤ k ∧ k ≤ 60 := by omega
  have hl2 : 0 ≤ lim ∧ lim ≤ 511 := by omega
  rw [hk, hlim]
  clear hk hlim
  obtain ⟨W3, hLW3⟩ : ∃ W, ((w2.alloc (.cells #[.slice none 0 0, .slice (some ⟨ws.heap.size, 0, none⟩) 1 1, .int .i64 1, .slice none 0 0, .slice (some ⟨ws.heap.size + 1, 0, none⟩) 1 1, .int .i32 0, .slice (some ⟨ws.heap.size + 1 + 1 + 1 + 1, 0, none⟩) 2 2, .slice (some ⟨ws.heap.size + 1 + 1 + 1 + 1 + 1 + 1, 0, none⟩) 1 1, .int .i64 2, .slice (some ⟨ws.heap.size + 1 + 1 + 1 + 1 + 1 + 1 + 1, 0, none⟩) 1 1, .slice (some ⟨ws.heap.size + 1 + 1 + 1 + 1 + 1 + 1 + 1 + 1, 0, none⟩) 2 2, .int .i32 0, .slice none 0 0, .slice (some ⟨ws.heap.size + 1 + 1 + 1 + 1 + 1 + 1 + 1 + 1 + 1 + 1 + 1, 0, none⟩) 3 3, .int .i64 1, .slice none 0 0, .slice (some ⟨ws.heap.size + 1 + 1 + 1 + 1 + 1 + 1 + 1 + 1 + 1 + 1 + 1 + 1, 0, none⟩) 1 1, .int .i32 0, .slice none 0 0, .slice none 0 0, .int .i64 4, .slice (some ⟨gR, 0, none⟩) 1 1, .slice none 0 0, .int .i32 0] 34)).alloc (.cells #[.int .i64 2, .slice (some ⟨w2.heap.size, 0, none⟩) 4 4] 24)).alloc (.cells #[.int .i32 k, .int .i32 a1] 21) = W := ⟨_, rfl⟩
  rw [hLW3]
  have hMW3 : laid w2 [([.slice none 0 0, .slice (some ⟨ws.heap.size, 0, none⟩) 1 1, .int .i64 1, .slice none 0 0, .slice (some ⟨ws.heap.size + 1, 0, none⟩) 1 1, .int .i32 0, .slice (some ⟨ws.heap.size + 1 + 1 + 1 + 1, 0, none⟩) 2 2, .slice (some ⟨ws.heap.size + 1 + 1 + 1 + 1 + 1 + 1, 0, none⟩) 1 1, .int .i64 2, .slice (some ⟨ws.heap.size + 1 + 1 + 1 + 1 + 1 + 1 + 1, 0, none⟩) 1 1, .slice (some ⟨ws.heap.size + 1 + 1 + 1 + 1 + 1 + 1 + 1 + 1, 0, none⟩) 2 2, .int .i32 0, .slice none 0 0, .slice (some ⟨ws.heap.size + 1 + 1 + 1 + 1 + 1 + 1 + 1 + 1 + 1 + 1 + 1, 0, none⟩) 3 3, .int .i64 1, .slice none 0 0, .slice (some ⟨ws.heap.size + 1 + 1 + 1 + 1 + 1 + 1 + 1 + 1 + 1 + 1 + 1 + 1, 0, none⟩) 1 1, .int .i32 0, .slice none 0 0, .slice none 0 0, .int .i64 4, .slice (some ⟨gR, 0, none⟩) 1 1, .slice none 0 0, .int .i32 0], 34), ([.int .i64 2, .slice (some ⟨w2.heap.size, 0, none⟩) 4 4], 24), ([.int .i32 k, .int .i32 a1], 21)] = W3 := hLW3
  have hbW3 : Below w2.heap.size w2 W3 := by rw [← hMW3]; exact laid_below _ _ _ (Nat.le_refl _)
  have p0 : Str W3 (w2.heap.size) 34 [.slice none 0 0, .slice (some ⟨ws.heap.size, 0, none⟩) 1 1, .int .i64 1, .slice none 0 0, .slice (some ⟨ws.heap.size + 1, 0, none⟩) 1 1, .int .i32 0, .slice (some ⟨ws.heap.size + 1 + 1 + 1 + 1, 0, none⟩) 2 2, .slice (some ⟨ws.heap.size + 1 + 1 + 1 + 1 + 1 + 1, 0, none⟩) 1 1, .int .i64 2, .slice (some ⟨ws.heap.size + 1 + 1 + 1 + 1 + 1 + 1 + 1, 0, none⟩) 1 1, .slice (some ⟨ws.heap.size + 1 + 1 + 1 + 1 + 1 + 1 + 1 + 1, 0, none⟩) 2 2, .int .i32 0, .slice none 0 0, .slice (some ⟨ws.heap.size + 1 + 1 + 1 + 1 + 1 + 1 + 1 + 1 + 1 + 1 + 1, 0, none⟩) 3 3, .int .i64 1, .slice none 0 0, .slice (some ⟨ws.heap.size + 1 + 1 + 1 + 1 + 1 + 1 + 1 + 1 + 1 + 1 + 1 + 1, 0, none⟩) 1 1, .int .i32 0, .slice none 0 0, .slice none 0 0, .int .i64 4, .slice (some ⟨gR, 0, none⟩) 1 1, .slice none 0 0, .int .i32 0] := by rw [← hMW3]; exact laid_at _ w2 0 _ _ rfl
  have p1 : Str W3 (w2.heap.size + 1) 24 [.int .i64 2, .slice (some ⟨w2.heap.size, 0, none⟩) 4 4] := by rw [← hMW3]; exact laid_at _ w2 1 _ _ rfl
  have p2 : Str W3 (w2.heap.size + 1 + 1) 21 [.int .i32 k, .int .i32 a1] := by rw [← hMW3]; exact laid_at _ w2 2 _ _ rfl
  have hzW3 : W3.heap.size = w2.heap.size + 3 := by rw [← hMW3]; exact laid_size _ _
  clear hLW3 hMW3
  have hb13 := hb2.trans (hbW3.mono hb2.size)
  have HF := Lib.hid (loopP_at (q0.below hb13) (q1.below hb13) (q2.below hb13) (q3.below hb13) (q4.below hb13) (q5.below hb13) (q6.below hb13) (q7.below hb13) (q8.below hb13) (q9.below hb13) (q10.below hb13) (q11.below hb13) (q12.below hb13) (cell_keep hbW3 (Nat.le_refl _) hR) p0)
  have HBW := Lib.hid (HBS.out.trans ((hbW1.trans (hb13.mono hbW1.size)).mono hzs))
  have hz3 := Nat.le_trans hzs (Nat.le_trans hbW1.size hb13.size)
  refine (run_loop W3 w2.heap.size k a1 lim hk2 HV.out hl2 HF.out _ (words2 p2 ⟨by omega, fits (by omega)⟩)).mono ?_
  rintro e w4 ⟨how, val, steps, mem, calls, ⟨mA, mn, mc, cA, cn, ck, rfl, _, _, hb4⟩, htold⟩
  have HB4 := Lib.hid (HBW.out.trans (hb4.mono hz3))
  have hz4 := Nat.le_trans hz3 hb4.size
  have HT := Lib.hid htold
  clear q0 q1 q2 q3 q4 q5 q6 q7 q8 q9 q10 q11 q12 p0 p1 p2 hb13 hbW1 hbW3 hzW1 hzW3 hb2 hb4 hR htold
  go_upto_region 7 with (fail)
  obtain ⟨W5, hLW5⟩ : ∃ W, w4.alloc (.cells #[.int .i64 how, .int .i32 val, .slice mA mn mc, .slice cA cn ck, .int .i64 steps] 45) = W := ⟨_, rfl⟩
  rw [hLW5]
  have hMW5 : laid w4 [([.int .i64 how, .int .i32 val, .slice mA mn mc, .slice cA cn ck, .int .i64 steps], 45)] = W5 := hLW5
  have hbW5 : Below w4.heap.size w4 W5 := by rw [← hMW5]; exact laid_below _ _ _ (Nat.le_refl _)
  have s0 : Str W5 (w4.heap.size) 45 [.int .i64 how, .int .i32 val, .slice mA mn mc, .slice cA cn ck, .int .i64 steps] := by rw [← hMW5]; exact laid_at _ w4 0 _ _ rfl
  have hzW5 : W5.heap.size = w4.heap.size + 1 := by rw [← hMW5]; exact laid_size _ _
  clear hLW5 hMW5
  have q0 : W5.cell? ⟨w4.heap.size, 0, none⟩ = some (.int .i64 how) := s0.cell 0
  have q1 : W5.cell? ⟨w4.heap.size, 1, none⟩ = some (.int .i32 val) := s0.cell 1
  have q4 : W5.cell? ⟨w4.heap.size, 4, none⟩ = some (.int .i64 steps) := s0.cell 4
  have HB5 := Lib.hid (HB4.out.trans (hbW5.mono hz4))
  clear s0 hbW5 hzW5
  by_cases hc : lim < 5 + 6 * k
  · have ht := HT.out
    rw [if_pos hc] at ht
    obtain ⟨rfl, rfl, rfl⟩ := ht
    go_wp2_with fail
    go_ret
    exact ⟨rfl, HB5.out⟩
  · have ht := HT.out
    rw [if_neg hc] at ht
    obtain ⟨rfl, rfl, rfl⟩ := ht
    have hc' : 5 + 6 * k ≤ lim := by omega
    clear hc
    have hkk : 0 ≤ k * (k - 1) ∧ k * (k - 1) ≤ 3600 := by
      by_cases h0 : k = 0
      · subst h0; omega
      · obtain ⟨n, rfl⟩ : ∃ n : Nat, k = n + 1 := ⟨(k - 1).toNat, by omega⟩
        have e : ((n : Int) + 1) * ((n : Int) + 1 - 1) = ((n + 1) * n : Nat) := by push_cast; rw [show (n : Int) + 1 - 1 = n by omega]
        rw [e]
        have h1 : (n + 1) * n ≤ 60 * 60 := Nat.mul_le_mul (by omega) (by omega)
        omega
    obtain ⟨V, hV⟩ : ∃ V, wrap32 (a1 + k * (k - 1) / 2) = V := ⟨_, rfl⟩
    rw [hV] at q1
    have hV2 : wrap32 (a1 + wrap32 ((wrap32 (k * (k - 1))).tdiv 2)) = V := by
      rw [← hV, wrap_id (show InW (k * (k - 1)) from ⟨by omega, by omega⟩), Int.tdiv_eq_ediv_of_nonneg hkk.1, wrap_id (show InW (k * (k - 1) / 2) from ⟨by omega, by omega⟩)]
    clear hV hkk HT
    go_wp2_with fail
    go_ret
    exact ⟨rfl, HB5.out⟩

/-! ### THE ROW's STEP: WRITTEN OUT: LEAVE IT -/
set_option maxRecDepth 100000 in
theorem lifted (os : Os) (started : os.Started) (H : Type) (enc : TypeId × Value → H) :
    ReturnsInHanded {} Try.checked os 7 .any (Rows.interpLoopSpec.pre6 enc Try.prog Try.f7 Rows.interpLoopRow.domain false) (Rows.interpLoopSpec.post enc Try.prog Try.f7 false true false false) := by
  refine returnsInHanded_of_change (C := Try.checked) own started (by kernel_rfl) Try.func7
    (ChangeSpec.witness6 (enc := enc) (C := Try.checked) false ⟨#[], #[.int .u8 0, .int .i32 0, .int .u16 0], []⟩ 8 (by kernel_rfl) (by kernel_rfl) (by kernel_rfl) (by kernel_rfl)) ?_
  intro W base args ds gs before hval0 hW hcnd _
  have hval : ∀ (j : Nat) t v, Try.f7.params[j]? = some t → args[j]? = some v → Value.okWide Try.prog W .any base t v := hval0
  have hW' := hW
  obtain ⟨p, q, hA0, hV, rfl, hfz, hnd⟩ := hW
  have hA : DataW.TrodAll enc Try.prog W 0 (fun _ => true) true Try.f7.params.toList args.toList ds p := hA0
  rw [Try.params7] at hA hval
  obtain ⟨v0, vs0, d0, ds0, p0, q0, hargs, rfl, rfl, h0, r0⟩ := trodAll_cons hA
  obtain ⟨v1, vs1, d1, ds1, p1, q1, rfl, rfl, rfl, h1, r1⟩ := trodAll_cons r0
  obtain ⟨v2, vs2, d2, ds2, p2, q2, rfl, rfl, rfl, h2, r2⟩ := trodAll_cons r1
  obtain ⟨rfl, rfl, rfl⟩ := trodAll_nil r2
  obtain rfl : args = #[v0, v1, v2] := by cases args; simp_all
  obtain ⟨rfl, rfl⟩ := trodVars_none hV
  obtain ⟨a0, rfl, rfl, rfl, w0⟩ := open_int Try.underlying5 (hval 0 5 v0 rfl rfl) h0
  obtain ⟨a1, rfl, rfl, rfl, w1⟩ := open_int Try.underlying21 (hval 1 21 v1 rfl rfl) h1
  obtain ⟨a2, rfl, rfl, rfl, w2⟩ := open_int Try.underlying59 (hval 2 59 v2 rfl rfl) h2
  clear hA0 hval0
  simp only [List.append_nil] at hW'
  refine (walk a0 a1 a2 w0 w1 w2 W).mono fun e W' ⟨he, hg⟩ => ?_
  subst he
  exact ⟨_, rfl, _, _, _, [], [], [], hW', (trodAll_cons_mk (shut_bool Try.underlying4 _) trodAll_mk0), (trodAll_cons_mk (shut_int Try.underlying5 w0) (trodAll_cons_mk (shut_int Try.underlying21 w1) (trodAll_cons_mk (shut_int Try.underlying59 w2) trodAll_mk0))), rfl, hg.frame _, fun h => by cases h⟩

theorem over : Rows.interpLoopRow.holds Try.pinned (OpenSpec.ofChange Rows.interpLoopSpec) :=
  OpenClaim.holds_of_wide 7 Try.f7 rfl rfl rfl rfl rfl rfl rfl ⟨rfl, rfl, rfl, rfl, rfl⟩ rfl rfl rfl rfl rfl (by kernel_rfl) Try.func7 (by kernel_rfl)
    (of_decide_eq_true (by kernel_rfl)) (by unfold Func.isWrapper; first | (rw [if_pos (by decide +kernel)]; kernel_rfl) | (rw [if_neg (by decide +kernel)]; exact ⟨rfl, rfl⟩))
    (fun os started H enc _ => lifted os started H enc)

/-- ████ THE STATEMENT ████ -/
theorem proved : Rows.InterpLoopSaid :=
  over
#print axioms proved
end Go.Proofs.Ytcangooibfddmaa.interpLoop
