/- What is proved: where each end goes, of any two words: by being not 0, the same, less, less without signs, and a table by a number (law MachEnds): for every two words and every byte the law answers true. Conditions: none beside those that the given form carries. -/
import Derived.Test.YtceoiimochojeaaGreatRows
import Derived.Test.YtceoiimochojeaaGreatMX
import Derived.Test.YtceoiimochojeaaGreatMV
import Derived.WalkKit
import Derived.Below
import Derived.ProofKit
import Derived.OpenShut
namespace Go.Proofs.YtceoiimochojeaaGreat.machEnds
open Go.ChangeShapes Go.WideShapes Go.ChangeAt Go.RowKit
set_option linter.unusedVariables false      -- a walk need not use every 'w<i>' (that an integer argument fits its kind)

theorem own : ownKnob Tryz.prog.godebug = none := by kernel_rfl

open Go.Maps Go.Proofs.YtceoiimochojeaaGreat.Mem Go.Proofs.YtceoiimochojeaaGreat.Kc Go.Proofs.YtceoiimochojeaaGreat.Br Go.Proofs.YtceoiimochojeaaGreat.Pl Go.Proofs.YtceoiimochojeaaGreat.Gr Go.Proofs.YtceoiimochojeaaGreat.Mw Go.Proofs.YtceoiimochojeaaGreat.Mc

/-! ### STEP 1: THE WALK: the Go text returns true. 'Below w.heap.size w w'': the world has at most new blocks (Derived/RowKit3.lean). Part the cases AHEAD of 'go_enter' where a test parts the walk; take each callee by a contract of your own. -/
set_option maxRecDepth 100000 in
set_option maxHeartbeats 4000000 in
theorem walk (a0 : Int) (a1 : Int) (a2 : Int) (w0 : (Lit.int .i32 a0).wf = true) (w1 : (Lit.int .i32 a1).wf = true) (w2 : (Lit.int .u8 a2).wf = true) (w : World) :
    Calls Tryz.prog 8 #[.int .i32 a0, .int .i32 a1, .int .u8 a2] w fun e w' => e = .returned (.bool true) ∧ Below w.heap.size w w' := by
  have ha : InW a0 := bounds_i32 w0
  have hb : InW a1 := bounds_i32 w1
  have hc : 0 ≤ a2 ∧ a2 ≤ 255 := bounds_u8 w2
  obtain ⟨N, hN⟩ : ∃ N : Nat, 1 + a2 % 64 = (N : Int) := ⟨(1 + a2 % 64).toNat, by omega⟩
  have hN1 : 1 ≤ N ∧ N ≤ 64 := by omega
  have HR := Lib.hid (show ∀ r, InW (getP [a0, a1] r) from fun r => by
    unfold getP
    split
    · rename_i h
      have : r = 0 ∨ r = 1 := by simp at h; omega
      rcases this with rfl | rfl
      · exact ha
      · exact hb
    · unfold InW; omega)
  have p0 : getP [a0, a1] 0 = a0 := by simp [getP]
  have p1 : getP [a0, a1] 1 = a1 := by simp [getP]
  obtain ⟨x0, hx0⟩ : ∃ x, goesF 0 (getP [a0, a1] 0) (getP [a0, a1] 1) (N + 1) = x := ⟨_, rfl⟩
  have HX0 := Lib.hid hx0
  obtain ⟨x1, hx1⟩ : ∃ x, goesF 1 (getP [a0, a1] 0) (getP [a0, a1] 1) (N + 1) = x := ⟨_, rfl⟩
  have HX1 := Lib.hid hx1
  obtain ⟨x2, hx2⟩ : ∃ x, goesF 2 (getP [a0, a1] 0) (getP [a0, a1] 1) (N + 1) = x := ⟨_, rfl⟩
  have HX2 := Lib.hid hx2
  obtain ⟨x3, hx3⟩ : ∃ x, goesF 3 (getP [a0, a1] 0) (getP [a0, a1] 1) (N + 1) = x := ⟨_, rfl⟩
  have HX3 := Lib.hid hx3
  obtain ⟨x4, hx4⟩ : ∃ x, goesF 4 (getP [a0, a1] 0) (getP [a0, a1] 1) (N + 1) = x := ⟨_, rfl⟩
  have HX4 := Lib.hid hx4
  obtain ⟨x5, hx5⟩ : ∃ x, goesF 5 (getP [a0, a1] 0) (getP [a0, a1] 1) (N + 1) = x := ⟨_, rfl⟩
  have HX5 := Lib.hid hx5
  obtain ⟨x6, hx6⟩ : ∃ x, goesF 6 (getP [a0, a1] 0) (getP [a0, a1] 1) (N + 1) = x := ⟨_, rfl⟩
  have HX6 := Lib.hid hx6
  obtain ⟨x7, hx7⟩ : ∃ x, goesF 7 (getP [a0, a1] 0) (getP [a0, a1] 1) (N + 1) = x := ⟨_, rfl⟩
  have HX7 := Lib.hid hx7
  obtain ⟨x8, hx8⟩ : ∃ x, goesF 8 (getP [a0, a1] 0) (getP [a0, a1] 1) (N + 1) = x := ⟨_, rfl⟩
  have HX8 := Lib.hid hx8
  obtain ⟨x9, hx9⟩ : ∃ x, goesF 9 (getP [a0, a1] 0) (getP [a0, a1] 1) (N + 1) = x := ⟨_, rfl⟩
  have HX9 := Lib.hid hx9
  rw [p0, p1] at hx0 hx1 hx2 hx3 hx4 hx5 hx6 hx7 hx8 hx9
  have v0 : x0 = -1 := hx0.symm
  have v1 : x1 = 0 := hx1.symm
  have v7 : x7 = -1 := hx7.symm
  have v8 : x8 = -1 := hx8.symm
  have v9 : x9 = -1 := hx9.symm
  have f2 : (x2 == 0) = (a0 != 0) := by rw [← hx2]; show ((if (a0 != 0) = true then (0 : Int) else 1) == 0) = _; cases (a0 != 0) <;> rfl
  have f3 : (x3 == 0) = (a0 == a1) := by rw [← hx3]; show ((if (a0 == a1) = true then (0 : Int) else 1) == 0) = _; cases (a0 == a1) <;> rfl
  have f4 : (x4 == 0) = decide (a0 < a1) := by rw [← hx4]; show ((if decide (a0 < a1) = true then (0 : Int) else 1) == 0) = _; cases decide (a0 < a1) <;> rfl
  have f5 : (x5 == 0) = decide (a0 % 4294967296 < a1 % 4294967296) := by rw [← hx5]; show ((if decide (a0 % 4294967296 < a1 % 4294967296) = true then (0 : Int) else 1) == 0) = _; cases decide (a0 % 4294967296 < a1 % 4294967296) <;> rfl
  have o2 : x2 = 0 ∨ x2 = 1 := by rw [← hx2]; show (if (a0 != 0) = true then (0 : Int) else 1) = 0 ∨ (if (a0 != 0) = true then (0 : Int) else 1) = 1; cases (a0 != 0) <;> simp
  have o3 : x3 = 0 ∨ x3 = 1 := by rw [← hx3]; show (if (a0 == a1) = true then (0 : Int) else 1) = 0 ∨ (if (a0 == a1) = true then (0 : Int) else 1) = 1; cases (a0 == a1) <;> simp
  have o4 : x4 = 0 ∨ x4 = 1 := by rw [← hx4]; show (if decide (a0 < a1) = true then (0 : Int) else 1) = 0 ∨ (if decide (a0 < a1) = true then (0 : Int) else 1) = 1; cases decide (a0 < a1) <;> simp
  have o5 : x5 = 0 ∨ x5 = 1 := by rw [← hx5]; show (if decide (a0 % 4294967296 < a1 % 4294967296) = true then (0 : Int) else 1) = 0 ∨ (if decide (a0 % 4294967296 < a1 % 4294967296) = true then (0 : Int) else 1) = 1; cases decide (a0 % 4294967296 < a1 % 4294967296) <;> simp
  have v6 : x6 = min (a0 % 4294967296) (N : Int) := by rw [← hx6]; show min (a0 % 4294967296) (((N + 1 : Nat) : Int) - 1) = _; congr 1; omega
  have HF2 := Lib.hid f2
  have HF3 := Lib.hid f3
  have HF4 := Lib.hid f4
  have HF5 := Lib.hid f5
  have HN := Lib.hid hN
  subst v0 v1 v7 v8 v9
  clear hx0 hx1 hx2 hx3 hx4 hx5 hx6 hx7 hx8 hx9 p0 p1
  have c2 : ((x2 == 0) == (a0 != 0)) = true := by rw [f2]; simp
  have c3 : ((x3 == 0) == (a0 == a1)) = true := by rw [f3]; simp
  have c4 : ((x4 == 0) == decide (a0 < a1)) = true := by rw [f4]; simp
  have c5 : ((x5 == 0) == decide (a0 % 4294967296 < a1 % 4294967296)) = true := by rw [f5]; simp
  have cO : bits .or .i64 (bits .or .i64 (bits .or .i64 x2 x3) x4) x5 ≤ 1 := by rcases o2 with h | h <;> rcases o3 with h' | h' <;> rcases o4 with h'' | h'' <;> rcases o5 with h3 | h3 <;> rw [h, h', h'', h3] <;> decide
  have HA := Lib.hid ha
  clear f2 f3 f4 f5 hN ha hb o2 o3 o4 o5
  go_enter Tryz.func8, Tryz.ntmps8
  go_wp2_with fail
  refine (shown_any w).mono ?_
  rintro e ws ⟨rfl, hs⟩
  have HBS := Lib.hid hs
  clear hs
  go_upto_region 3 with (fail)
  rw [HN.out]
  go_upto_region 5 with (fail)
  obtain ⟨u0, hu0⟩ : ∃ u0, ws.alloc (.cells #[.int .i32 a0, .int .i32 a1] 21) = u0 := ⟨_, rfl⟩
  rw [hu0]
  have hb0 : Below ws.heap.size ws u0 := by rw [← hu0]; exact (Below.refl _ _).alloc (Nat.le_refl _) _
  have HV0 := Lib.hid (words_lit (l := [a0, a1]) (show Str u0 ws.heap.size 21 _ by rw [← hu0]; exact World.alloc_heap_new ws _) (by simp))
  have HB0 := Lib.hid (HBS.out.trans (hb0.mono HBS.out.size))
  clear hu0 hb0
  have hw0 : -2147483648 ≤ a0 ∧ a0 ≤ 2147483647 := by have h := HA.out; unfold InW at h; exact h
  by_cases h1 : 0 ≤ a0
  · by_cases h2 : a0 < N
    · have c6 : (x6 == a0) = true := beq_iff_eq.2 (by have h := HA.out; unfold InW at h; omega)
      clear v6
      go_upto_region 7 with (fail)
      clear h1 h2 hw0
      go_wp2_with fail
      refine (goesL_any _ 2 N (by omega) _ [a0, a1] HV0.out HR.out).mono ?_
      rintro e u1 ⟨rfl, hb⟩
      rw [HX2.out]
      have HB1 := Lib.hid (HB0.out.trans (hb.mono HB0.out.size))
      have HV1 := Lib.hid (HV0.out.below hb)
      clear hb
      go_wp2_with fail
      refine (goesL_any _ 3 N (by omega) _ [a0, a1] HV1.out HR.out).mono ?_
      rintro e u2 ⟨rfl, hb⟩
      rw [HX3.out]
      have HB2 := Lib.hid (HB1.out.trans (hb.mono HB1.out.size))
      have HV2 := Lib.hid (HV1.out.below hb)
      clear hb
      go_wp2_with fail
      refine (goesL_any _ 4 N (by omega) _ [a0, a1] HV2.out HR.out).mono ?_
      rintro e u3 ⟨rfl, hb⟩
      rw [HX4.out]
      have HB3 := Lib.hid (HB2.out.trans (hb.mono HB2.out.size))
      have HV3 := Lib.hid (HV2.out.below hb)
      clear hb
      go_wp2_with fail
      refine (goesL_any _ 5 N (by omega) _ [a0, a1] HV3.out HR.out).mono ?_
      rintro e u4 ⟨rfl, hb⟩
      rw [HX5.out]
      have HB4 := Lib.hid (HB3.out.trans (hb.mono HB3.out.size))
      have HV4 := Lib.hid (HV3.out.below hb)
      clear hb
      go_wp2_with fail
      refine (goesL_any _ 2 N (by omega) _ [a0, a1] HV4.out HR.out).mono ?_
      rintro e u5 ⟨rfl, hb⟩
      rw [HX2.out]
      have HB5 := Lib.hid (HB4.out.trans (hb.mono HB4.out.size))
      have HV5 := Lib.hid (HV4.out.below hb)
      clear hb
      go_wp2_with fail
      refine (goesL_any _ 3 N (by omega) _ [a0, a1] HV5.out HR.out).mono ?_
      rintro e u6 ⟨rfl, hb⟩
      rw [HX3.out]
      have HB6 := Lib.hid (HB5.out.trans (hb.mono HB5.out.size))
      have HV6 := Lib.hid (HV5.out.below hb)
      clear hb
      go_wp2_with fail
      refine (goesL_any _ 4 N (by omega) _ [a0, a1] HV6.out HR.out).mono ?_
      rintro e u7 ⟨rfl, hb⟩
      rw [HX4.out]
      have HB7 := Lib.hid (HB6.out.trans (hb.mono HB6.out.size))
      have HV7 := Lib.hid (HV6.out.below hb)
      clear hb
      go_wp2_with fail
      refine (goesL_any _ 5 N (by omega) _ [a0, a1] HV7.out HR.out).mono ?_
      rintro e u8 ⟨rfl, hb⟩
      rw [HX5.out]
      have HB8 := Lib.hid (HB7.out.trans (hb.mono HB7.out.size))
      have HV8 := Lib.hid (HV7.out.below hb)
      clear hb
      go_wp2_with fail
      refine (goesL_any _ 1 N (by omega) _ [a0, a1] HV8.out HR.out).mono ?_
      rintro e u9 ⟨rfl, hb⟩
      rw [HX1.out]
      have HB9 := Lib.hid (HB8.out.trans (hb.mono HB8.out.size))
      have HV9 := Lib.hid (HV8.out.below hb)
      clear hb
      go_wp2_with fail
      refine (goesL_any _ 6 N (by omega) _ [a0, a1] HV9.out HR.out).mono ?_
      rintro e u10 ⟨rfl, hb⟩
      rw [HX6.out]
      have HB10 := Lib.hid (HB9.out.trans (hb.mono HB9.out.size))
      have HV10 := Lib.hid (HV9.out.below hb)
      clear hb
      go_wp2_with fail
      refine (goesL_any _ 7 N (by omega) _ [a0, a1] HV10.out HR.out).mono ?_
      rintro e u11 ⟨rfl, hb⟩
      rw [HX7.out]
      have HB11 := Lib.hid (HB10.out.trans (hb.mono HB10.out.size))
      have HV11 := Lib.hid (HV10.out.below hb)
      clear hb
      go_wp2_with fail
      refine (goesL_any _ 8 N (by omega) _ [a0, a1] HV11.out HR.out).mono ?_
      rintro e u12 ⟨rfl, hb⟩
      rw [HX8.out]
      have HB12 := Lib.hid (HB11.out.trans (hb.mono HB11.out.size))
      have HV12 := Lib.hid (HV11.out.below hb)
      clear hb
      go_wp2_with fail
      refine (goesL_any _ 0 N (by omega) _ [a0, a1] HV12.out HR.out).mono ?_
      rintro e u13 ⟨rfl, hb⟩
      rw [HX0.out]
      have HB13 := Lib.hid (HB12.out.trans (hb.mono HB12.out.size))
      have HV13 := Lib.hid (HV12.out.below hb)
      clear hb
      go_wp2_with fail
      refine (goesL_any _ 9 N (by omega) _ [a0, a1] HV13.out HR.out).mono ?_
      rintro e u14 ⟨rfl, hb⟩
      rw [HX9.out]
      have HB14 := Lib.hid (HB13.out.trans (hb.mono HB13.out.size))
      have HV14 := Lib.hid (HV13.out.below hb)
      clear hb
      go_wp2_with fail
      go_ret
      exact ⟨rfl, HB14.out⟩
    · have c6 : (x6 == (N : Int)) = true := beq_iff_eq.2 (by have h := HA.out; unfold InW at h; omega)
      have h2 : (N : Int) ≤ a0 := by omega
      clear v6
      go_upto_region 7 with (fail)
      clear h1 h2 hw0
      go_wp2_with fail
      refine (goesL_any _ 2 N (by omega) _ [a0, a1] HV0.out HR.out).mono ?_
      rintro e u1 ⟨rfl, hb⟩
      rw [HX2.out]
      have HB1 := Lib.hid (HB0.out.trans (hb.mono HB0.out.size))
      have HV1 := Lib.hid (HV0.out.below hb)
      clear hb
      go_wp2_with fail
      refine (goesL_any _ 3 N (by omega) _ [a0, a1] HV1.out HR.out).mono ?_
      rintro e u2 ⟨rfl, hb⟩
      rw [HX3.out]
      have HB2 := Lib.hid (HB1.out.trans (hb.mono HB1.out.size))
      have HV2 := Lib.hid (HV1.out.below hb)
      clear hb
      go_wp2_with fail
      refine (goesL_any _ 4 N (by omega) _ [a0, a1] HV2.out HR.out).mono ?_
      rintro e u3 ⟨rfl, hb⟩
      rw [HX4.out]
      have HB3 := Lib.hid (HB2.out.trans (hb.mono HB2.out.size))
      have HV3 := Lib.hid (HV2.out.below hb)
      clear hb
      go_wp2_with fail
      refine (goesL_any _ 5 N (by omega) _ [a0, a1] HV3.out HR.out).mono ?_
      rintro e u4 ⟨rfl, hb⟩
      rw [HX5.out]
      have HB4 := Lib.hid (HB3.out.trans (hb.mono HB3.out.size))
      have HV4 := Lib.hid (HV3.out.below hb)
      clear hb
      go_wp2_with fail
      refine (goesL_any _ 2 N (by omega) _ [a0, a1] HV4.out HR.out).mono ?_
      rintro e u5 ⟨rfl, hb⟩
      rw [HX2.out]
      have HB5 := Lib.hid (HB4.out.trans (hb.mono HB4.out.size))
      have HV5 := Lib.hid (HV4.out.below hb)
      clear hb
      go_wp2_with fail
      refine (goesL_any _ 3 N (by omega) _ [a0, a1] HV5.out HR.out).mono ?_
      rintro e u6 ⟨rfl, hb⟩
      rw [HX3.out]
      have HB6 := Lib.hid (HB5.out.trans (hb.mono HB5.out.size))
      have HV6 := Lib.hid (HV5.out.below hb)
      clear hb
      go_wp2_with fail
      refine (goesL_any _ 4 N (by omega) _ [a0, a1] HV6.out HR.out).mono ?_
      rintro e u7 ⟨rfl, hb⟩
      rw [HX4.out]
      have HB7 := Lib.hid (HB6.out.trans (hb.mono HB6.out.size))
      have HV7 := Lib.hid (HV6.out.below hb)
      clear hb
      go_wp2_with fail
      refine (goesL_any _ 5 N (by omega) _ [a0, a1] HV7.out HR.out).mono ?_
      rintro e u8 ⟨rfl, hb⟩
      rw [HX5.out]
      have HB8 := Lib.hid (HB7.out.trans (hb.mono HB7.out.size))
      have HV8 := Lib.hid (HV7.out.below hb)
      clear hb
      go_wp2_with fail
      refine (goesL_any _ 1 N (by omega) _ [a0, a1] HV8.out HR.out).mono ?_
      rintro e u9 ⟨rfl, hb⟩
      rw [HX1.out]
      have HB9 := Lib.hid (HB8.out.trans (hb.mono HB8.out.size))
      have HV9 := Lib.hid (HV8.out.below hb)
      clear hb
      go_wp2_with fail
      refine (goesL_any _ 6 N (by omega) _ [a0, a1] HV9.out HR.out).mono ?_
      rintro e u10 ⟨rfl, hb⟩
      rw [HX6.out]
      have HB10 := Lib.hid (HB9.out.trans (hb.mono HB9.out.size))
      have HV10 := Lib.hid (HV9.out.below hb)
      clear hb
      go_wp2_with fail
      refine (goesL_any _ 7 N (by omega) _ [a0, a1] HV10.out HR.out).mono ?_
      rintro e u11 ⟨rfl, hb⟩
      rw [HX7.out]
      have HB11 := Lib.hid (HB10.out.trans (hb.mono HB10.out.size))
      have HV11 := Lib.hid (HV10.out.below hb)
      clear hb
      go_wp2_with fail
      refine (goesL_any _ 8 N (by omega) _ [a0, a1] HV11.out HR.out).mono ?_
      rintro e u12 ⟨rfl, hb⟩
      rw [HX8.out]
      have HB12 := Lib.hid (HB11.out.trans (hb.mono HB11.out.size))
      have HV12 := Lib.hid (HV11.out.below hb)
      clear hb
      go_wp2_with fail
      refine (goesL_any _ 0 N (by omega) _ [a0, a1] HV12.out HR.out).mono ?_
      rintro e u13 ⟨rfl, hb⟩
      rw [HX0.out]
      have HB13 := Lib.hid (HB12.out.trans (hb.mono HB12.out.size))
      have HV13 := Lib.hid (HV12.out.below hb)
      clear hb
      go_wp2_with fail
      refine (goesL_any _ 9 N (by omega) _ [a0, a1] HV13.out HR.out).mono ?_
      rintro e u14 ⟨rfl, hb⟩
      rw [HX9.out]
      have HB14 := Lib.hid (HB13.out.trans (hb.mono HB13.out.size))
      have HV14 := Lib.hid (HV13.out.below hb)
      clear hb
      go_wp2_with fail
      go_ret
      exact ⟨rfl, HB14.out⟩
  · have c6 : (x6 == (N : Int)) = true := beq_iff_eq.2 (by have h := HA.out; unfold InW at h; omega)
    have h1 : a0 < 0 := by omega
    clear v6
    go_upto_region 7 with (fail)
    clear h1 hw0
    go_wp2_with fail
    refine (goesL_any _ 2 N (by omega) _ [a0, a1] HV0.out HR.out).mono ?_
    rintro e u1 ⟨rfl, hb⟩
    rw [HX2.out]
    have HB1 := Lib.hid (HB0.out.trans (hb.mono HB0.out.size))
    have HV1 := Lib.hid (HV0.out.below hb)
    clear hb
    go_wp2_with fail
    refine (goesL_any _ 3 N (by omega) _ [a0, a1] HV1.out HR.out).mono ?_
    rintro e u2 ⟨rfl, hb⟩
    rw [HX3.out]
    have HB2 := Lib.hid (HB1.out.trans (hb.mono HB1.out.size))
    have HV2 := Lib.hid (HV1.out.below hb)
    clear hb
    go_wp2_with fail
    refine (goesL_any _ 4 N (by omega) _ [a0, a1] HV2.out HR.out).mono ?_
    rintro e u3 ⟨rfl, hb⟩
    rw [HX4.out]
    have HB3 := Lib.hid (HB2.out.trans (hb.mono HB2.out.size))
    have HV3 := Lib.hid (HV2.out.below hb)
    clear hb
    go_wp2_with fail
    refine (goesL_any _ 5 N (by omega) _ [a0, a1] HV3.out HR.out).mono ?_
    rintro e u4 ⟨rfl, hb⟩
    rw [HX5.out]
    have HB4 := Lib.hid (HB3.out.trans (hb.mono HB3.out.size))
    have HV4 := Lib.hid (HV3.out.below hb)
    clear hb
    go_wp2_with fail
    refine (goesL_any _ 2 N (by omega) _ [a0, a1] HV4.out HR.out).mono ?_
    rintro e u5 ⟨rfl, hb⟩
    rw [HX2.out]
    have HB5 := Lib.hid (HB4.out.trans (hb.mono HB4.out.size))
    have HV5 := Lib.hid (HV4.out.below hb)
    clear hb
    go_wp2_with fail
    refine (goesL_any _ 3 N (by omega) _ [a0, a1] HV5.out HR.out).mono ?_
    rintro e u6 ⟨rfl, hb⟩
    rw [HX3.out]
    have HB6 := Lib.hid (HB5.out.trans (hb.mono HB5.out.size))
    have HV6 := Lib.hid (HV5.out.below hb)
    clear hb
    go_wp2_with fail
    refine (goesL_any _ 4 N (by omega) _ [a0, a1] HV6.out HR.out).mono ?_
    rintro e u7 ⟨rfl, hb⟩
    rw [HX4.out]
    have HB7 := Lib.hid (HB6.out.trans (hb.mono HB6.out.size))
    have HV7 := Lib.hid (HV6.out.below hb)
    clear hb
    go_wp2_with fail
    refine (goesL_any _ 5 N (by omega) _ [a0, a1] HV7.out HR.out).mono ?_
    rintro e u8 ⟨rfl, hb⟩
    rw [HX5.out]
    have HB8 := Lib.hid (HB7.out.trans (hb.mono HB7.out.size))
    have HV8 := Lib.hid (HV7.out.below hb)
    clear hb
    go_wp2_with fail
    refine (goesL_any _ 1 N (by omega) _ [a0, a1] HV8.out HR.out).mono ?_
    rintro e u9 ⟨rfl, hb⟩
    rw [HX1.out]
    have HB9 := Lib.hid (HB8.out.trans (hb.mono HB8.out.size))
    have HV9 := Lib.hid (HV8.out.below hb)
    clear hb
    go_wp2_with fail
    refine (goesL_any _ 6 N (by omega) _ [a0, a1] HV9.out HR.out).mono ?_
    rintro e u10 ⟨rfl, hb⟩
    rw [HX6.out]
    have HB10 := Lib.hid (HB9.out.trans (hb.mono HB9.out.size))
    have HV10 := Lib.hid (HV9.out.below hb)
    clear hb
    go_wp2_with fail
    refine (goesL_any _ 7 N (by omega) _ [a0, a1] HV10.out HR.out).mono ?_
    rintro e u11 ⟨rfl, hb⟩
    rw [HX7.out]
    have HB11 := Lib.hid (HB10.out.trans (hb.mono HB10.out.size))
    have HV11 := Lib.hid (HV10.out.below hb)
    clear hb
    go_wp2_with fail
    refine (goesL_any _ 8 N (by omega) _ [a0, a1] HV11.out HR.out).mono ?_
    rintro e u12 ⟨rfl, hb⟩
    rw [HX8.out]
    have HB12 := Lib.hid (HB11.out.trans (hb.mono HB11.out.size))
    have HV12 := Lib.hid (HV11.out.below hb)
    clear hb
    go_wp2_with fail
    refine (goesL_any _ 0 N (by omega) _ [a0, a1] HV12.out HR.out).mono ?_
    rintro e u13 ⟨rfl, hb⟩
    rw [HX0.out]
    have HB13 := Lib.hid (HB12.out.trans (hb.mono HB12.out.size))
    have HV13 := Lib.hid (HV12.out.below hb)
    clear hb
    go_wp2_with fail
    refine (goesL_any _ 9 N (by omega) _ [a0, a1] HV13.out HR.out).mono ?_
    rintro e u14 ⟨rfl, hb⟩
    rw [HX9.out]
    have HB14 := Lib.hid (HB13.out.trans (hb.mono HB13.out.size))
    have HV14 := Lib.hid (HV13.out.below hb)
    clear hb
    go_wp2_with fail
    go_ret
    exact ⟨rfl, HB14.out⟩

/-! ### THE ROW's STEP: WRITTEN OUT: LEAVE IT -/
set_option maxRecDepth 100000 in
theorem lifted (os : Os) (started : os.Started) (H : Type) (enc : TypeId × Value → H) :
    ReturnsInHanded {} Tryz.checked os 8 .any (Rows.machEndsSpec.pre6 enc Tryz.prog Tryz.f8 Rows.machEndsRow.domain false) (Rows.machEndsSpec.post enc Tryz.prog Tryz.f8 false true false false) := by
  refine returnsInHanded_of_change (C := Tryz.checked) own started (by kernel_rfl) Tryz.func8
    (ChangeSpec.witness6 (enc := enc) (C := Tryz.checked) false ⟨#[], #[.int .i32 0, .int .i32 0, .int .u8 0], []⟩ 8 (by kernel_rfl) (by kernel_rfl) (by kernel_rfl) (by kernel_rfl)) ?_
  intro W base args ds gs before hval0 hW hcnd _
  have hval : ∀ (j : Nat) t v, Tryz.f8.params[j]? = some t → args[j]? = some v → Value.okWide Tryz.prog W .any base t v := hval0
  have hW' := hW
  obtain ⟨p, q, hA0, hV, rfl, hfz, hnd⟩ := hW
  have hA : DataW.TrodAll enc Tryz.prog W 0 (fun _ => true) true Tryz.f8.params.toList args.toList ds p := hA0
  rw [Tryz.params8] at hA hval
  obtain ⟨v0, vs0, d0, ds0, p0, q0, hargs, rfl, rfl, h0, r0⟩ := trodAll_cons hA
  obtain ⟨v1, vs1, d1, ds1, p1, q1, rfl, rfl, rfl, h1, r1⟩ := trodAll_cons r0
  obtain ⟨v2, vs2, d2, ds2, p2, q2, rfl, rfl, rfl, h2, r2⟩ := trodAll_cons r1
  obtain ⟨rfl, rfl, rfl⟩ := trodAll_nil r2
  obtain rfl : args = #[v0, v1, v2] := by cases args; simp_all
  obtain ⟨rfl, rfl⟩ := trodVars_none hV
  obtain ⟨a0, rfl, rfl, rfl, w0⟩ := open_int Tryz.underlying21 (hval 0 21 v0 rfl rfl) h0
  obtain ⟨a1, rfl, rfl, rfl, w1⟩ := open_int Tryz.underlying21 (hval 1 21 v1 rfl rfl) h1
  obtain ⟨a2, rfl, rfl, rfl, w2⟩ := open_int Tryz.underlying5 (hval 2 5 v2 rfl rfl) h2
  clear hA0 hval0
  simp only [List.append_nil] at hW'
  refine (walk a0 a1 a2 w0 w1 w2 W).mono fun e W' ⟨he, hg⟩ => ?_
  subst he
  exact ⟨_, rfl, _, _, _, [], [], [], hW', (trodAll_cons_mk (shut_bool Tryz.underlying4 _) trodAll_mk0), (trodAll_cons_mk (shut_int Tryz.underlying21 w0) (trodAll_cons_mk (shut_int Tryz.underlying21 w1) (trodAll_cons_mk (shut_int Tryz.underlying5 w2) trodAll_mk0))), rfl, hg.frame _, fun h => by cases h⟩

theorem over : Rows.machEndsRow.holds Tryz.pinned (OpenSpec.ofChange Rows.machEndsSpec) :=
  OpenClaim.holds_of_wide 8 Tryz.f8 rfl rfl rfl rfl rfl rfl rfl ⟨rfl, rfl, rfl, rfl, rfl⟩ rfl rfl rfl rfl rfl (by kernel_rfl) Tryz.func8 (by kernel_rfl)
    (of_decide_eq_true (by kernel_rfl)) (by unfold Func.isWrapper; first | (rw [if_pos (by decide +kernel)]; kernel_rfl) | (rw [if_neg (by decide +kernel)]; exact ⟨rfl, rfl⟩))
    (fun os started H enc _ => lifted os started H enc)

/-- ████ THE STATEMENT ████ -/
theorem proved : Rows.MachEndsSaid :=
  over
#print axioms proved
end Go.Proofs.YtceoiimochojeaaGreat.machEnds
