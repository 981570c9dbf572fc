/- What is proved: which numbers instructions may have, which registers, how many operands of a call, and how many entries of a table, up to the last one, and not one more (law MachLimits): for every two bytes the law answers true. Conditions: none beside those that the given form carries. -/
import Derived.Test.YtceoiimochojeaaGreatRows
import Derived.Test.YtceoiimochojeaaGreatMZ
import Derived.WalkKit
import Derived.Below
import Derived.ProofKit
import Derived.OpenShut
namespace Go.Proofs.YtceoiimochojeaaGreat.machLimits
open Go.ChangeShapes Go.WideShapes Go.ChangeAt Go.RowKit
set_option linter.unusedVariables false      -- a walk need not use every 'w<i>' (that an integer argument fits its kind)

theorem own : ownKnob Tryz.prog.godebug = none := by kernel_rfl

open Go.Maps Go.Proofs.YtceoiimochojeaaGreat.Mem Go.Proofs.YtceoiimochojeaaGreat.Kc Go.Proofs.YtceoiimochojeaaGreat.Br Go.Proofs.YtceoiimochojeaaGreat.Pl Go.Proofs.YtceoiimochojeaaGreat.Gr Go.Proofs.YtceoiimochojeaaGreat.Mw Go.Proofs.YtceoiimochojeaaGreat.Mc
def ZMB : Value := .agg #[.slice none 0 0, .slice none 0 0, .int .i64 0, .int .i64 0, .int .i64 0, .slice none 0 0, .int .i32 0]
theorem info_mb : (Tryz.prog.info? 67).map (fun i => (i.zero, i.size, i.bytes)) = some (some ZMB, 7, 104) := by kernel_rfl

/-! ### STEP 1: THE WALK: the Go text returns true. 'Below w.heap.size w w'': the world has at most new blocks (Derived/RowKit3.lean). Part the cases AHEAD of 'go_enter' where a test parts the walk; take each callee by a contract of your own. -/
set_option maxRecDepth 100000 in
set_option maxHeartbeats 8000000 in
theorem walk (a0 : Int) (a1 : Int) (w0 : (Lit.int .u8 a0).wf = true) (w1 : (Lit.int .u8 a1).wf = true) (w : World) :
    Calls Tryz.prog 7 #[.int .u8 a0, .int .u8 a1] w fun e w' => e = .returned (.bool true) ∧ Below w.heap.size w w' := by
  have h0 : 0 ≤ a0 ∧ a0 ≤ 255 := bounds_u8 w0
  have h1 : 0 ≤ a1 ∧ a1 ≤ 255 := bounds_u8 w1
  obtain ⟨d, hd⟩ : ∃ d : Int, a1 % 5 - 2 = d := ⟨_, rfl⟩
  have hd2 : -2 ≤ d ∧ d ≤ 2 := by omega
  have HDD := Lib.hid hd
  have HD := Lib.hid hd2
  obtain ⟨k, hk⟩ : ∃ k : Int, a0 % 9 = k := ⟨_, rfl⟩
  have hk2 : k = 0 ∨ k = 1 ∨ k = 2 ∨ k = 3 ∨ k = 4 ∨ k = 5 ∨ k = 6 ∨ k = 7 ∨ k = 8 := by omega
  have HK := Lib.hid hk
  have HK2 := Lib.hid hk2
  clear hd hk hk2
  go_enter Tryz.func7, Tryz.ntmps7
  go_wp2_with fail
  refine (shown_any w).mono ?_
  rintro e ws ⟨rfl, hs⟩
  have HBS := Lib.hid hs
  clear hs
  go_upto_region 3 with (fail)
  rw [HDD.out]
  go_upto_region 7 with (fail)
  obtain ⟨W2, hW2⟩ : ∃ W2, (ws.alloc (.cells #[.int .i64 1, .int .i64 0, .int .i64 0, .int .i64 0, .int .i64 0, .int .i64 0, .int .i32 0, .slice none 0 0] 40)).alloc (.cells #[.int .i64 7, .int .i64 (-1), .int .i64 0, .slice none 0 0, .int .i32 0] 42) = W2 := ⟨_, rfl⟩
  rw [hW2]
  have hs2 : Str W2 ws.heap.size 40 [.int .i64 1, .int .i64 0, .int .i64 0, .int .i64 0, .int .i64 0, .int .i64 0, .int .i32 0, .slice none 0 0] := by rw [← hW2]; exact Str.below (World.alloc_heap_new ws _) ((Below.refl _ _).alloc (Nat.le_refl _) _)
  have he2 : Str W2 (ws.heap.size + 1) 42 [.int .i64 7, .int .i64 (-1), .int .i64 0, .slice none 0 0, .int .i32 0] := by
    have h := World.alloc_heap_new (ws.alloc (.cells #[.int .i64 1, .int .i64 0, .int .i64 0, .int .i64 0, .int .i64 0, .int .i64 0, .int .i32 0, .slice none 0 0] 40)) (.cells #[.int .i64 7, .int .i64 (-1), .int .i64 0, .slice none 0 0, .int .i32 0] 42)
    rw [hW2] at h
    simp only [World.size_alloc] at h
    exact h
  have hb2 : Below w.heap.size w W2 := HBS.out.trans (by rw [← hW2]; exact ((Below.refl _ _).alloc HBS.out.size _).alloc (by have := HBS.out.size; simp; omega) _)
  clear hW2
  have x0 := hs2.cell 0
  have x1 := hs2.cell 1
  have x2 := hs2.cell 2
  have x3 := hs2.cell 3
  have x4 := hs2.cell 4
  have x5 := hs2.cell 5
  have x6 := hs2.cell 6
  have x7 := hs2.cell 7
  have g0 := hs2.frozen 0
  have g1 := hs2.frozen 1
  have g2 := hs2.frozen 2
  have g3 := hs2.frozen 3
  have g4 := hs2.frozen 4
  have g5 := hs2.frozen 5
  have g6 := hs2.frozen 6
  have g7 := hs2.frozen 7
  have HS2 := Lib.hid hs2
  have HE2 := Lib.hid he2
  have HB2 := Lib.hid hb2
  have HSZ := Lib.hid HBS.out.size
  clear hs2 he2 hb2
  rcases HK2.out with hk | hk | hk | hk | hk | hk | hk | hk | hk
  all_goals
    have hk9 := HK.out
    rw [hk] at hk9
    clear hk HK HK2
  · have k8 : (a0 % 9 == 8) = false := beq_eq_false_iff_ne.2 (by omega)
    go_upto_region 32 with (fail)
    obtain ⟨W3, hW3⟩ : ∃ W3, ((((((((W2.setCell ⟨ws.heap.size, 0, none⟩ (.int .i64 3)).setCell ⟨ws.heap.size, 1, none⟩ (.int .i64 0)).setCell ⟨ws.heap.size, 2, none⟩ (.int .i64 0)).setCell ⟨ws.heap.size, 3, none⟩ (.int .i64 0)).setCell ⟨ws.heap.size, 4, none⟩ (.int .i64 0)).setCell ⟨ws.heap.size, 5, none⟩ (.int .i64 0)).setCell ⟨ws.heap.size, 6, none⟩ (.int .i32 (32767 + d))).setCell ⟨ws.heap.size, 7, none⟩ (.slice none 0 0)) = W3 := ⟨_, rfl⟩
    rw [hW3]
    have hB3 : But ws.heap.size W2 W3 := by rw [← hW3]; exact ((((((((but_set ws.heap.size 0 _ W2).trans (but_set ws.heap.size 1 _ _)).trans (but_set ws.heap.size 2 _ _)).trans (but_set ws.heap.size 3 _ _)).trans (but_set ws.heap.size 4 _ _)).trans (but_set ws.heap.size 5 _ _)).trans (but_set ws.heap.size 6 _ _)).trans (but_set ws.heap.size 7 _ _))
    have hs3 : Str W3 ws.heap.size 40 [.int .i64 3, .int .i64 0, .int .i64 0, .int .i64 0, .int .i64 0, .int .i64 0, .int .i32 (32767 + d), .slice none 0 0] := by rw [← hW3]; have h := ((((((((HS2.out.set 0 (.int .i64 3)).set 1 (.int .i64 0)).set 2 (.int .i64 0)).set 3 (.int .i64 0)).set 4 (.int .i64 0)).set 5 (.int .i64 0)).set 6 (.int .i32 (32767 + d))).set 7 (.slice none 0 0)); simpa using h
    have he3 := hB3.str HE2.out (by omega)
    have hb3 : Below w.heap.size w W3 := HB2.out.trans (below_of_but hB3 HSZ.out HB2.out.size)
    clear hW3 hB3 x0 x1 x2 x3 x4 x5 x6 x7 g0 g1 g2 g3 g4 g5 g6 g7
    have q0 := hs3.cell 0
    have q1 := hs3.cell 1
    have q2 := hs3.cell 2
    have q3 := hs3.cell 3
    have q4 := hs3.cell 4
    have q5 := hs3.cell 5
    have q6 := hs3.cell 6
    have q7 := hs3.cell 7
    have p0 := he3.cell 0
    have p1 := he3.cell 1
    have p2 := he3.cell 2
    have p3 := he3.cell 3
    have p4 := he3.cell 4
    have HB3 := Lib.hid hb3
    clear hs3 he3 hb3
    go_wp2_with fail
    obtain ⟨W4, hW4⟩ : ∃ W4, W3.alloc (.cells #[.int .i64 3, .int .i64 0, .int .i64 0, .int .i64 0, .int .i64 0, .int .i64 0, .int .i32 (32767 + d), .slice none 0 0] 40) = W4 := ⟨_, rfl⟩
    have hb4 : Below W3.heap.size W3 W4 := by rw [← hW4]; exact (Below.refl _ _).alloc (Nat.le_refl _) _
    have hs4 : Str W4 W3.heap.size 40 [.int .i64 3, .int .i64 0, .int .i64 0, .int .i64 0, .int .i64 0, .int .i64 0, .int .i32 (32767 + d), .slice none 0 0] := by rw [← hW4]; exact World.alloc_heap_new W3 _
    rw [hW4]
    have HB4 := Lib.hid (HB3.out.trans (hb4.mono HB3.out.size))
    have HS4 := Lib.hid hs4
    have HB34 := Lib.hid hb4
    clear hW4 hs4 hb4 q0 q1 q2 q3 q4 q5 q6 q7 p0 p1 p2 p3 p4
    refine (one_any W4 0 7 (-1) 0 0 none (some ⟨W3.heap.size, 0, none⟩) 0 0 1 1).mono ?_
    rintro e w5 ⟨b5, hb5l, rfl, hs5, hb5⟩
    have HBK := Lib.hid (mblocks_one (ins := [lim0 d]) (to := []) hs5 (row_one (lim0 d) (HS4.out.below hb5) (ints_none _)) (ints_none _))
    have HB5 := Lib.hid (HB4.out.trans (hb5.mono HB4.out.size))
    clear hs5 hb5 hb5l HS4
    go_upto_region 35 with (fail)
    obtain ⟨W6, hW6⟩ : ∃ W6, w5.alloc (.cells #[.int .i64 0, .slice (some ⟨b5, 0, none⟩) 1 1] 24) = W6 := ⟨_, rfl⟩
    have hb6 : Below w5.heap.size w5 W6 := by rw [← hW6]; exact (Below.refl _ _).alloc (Nat.le_refl _) _
    have hs6 : Str W6 w5.heap.size 24 [.int .i64 0, .slice (some ⟨b5, 0, none⟩) 1 1] := by rw [← hW6]; exact World.alloc_heap_new w5 _
    rw [hW6]
    have q0 := hs6.cell 0
    have q1 := hs6.cell 1
    have HBK := Lib.hid (HBK.out.keep hb6)
    have HB6 := Lib.hid (HB5.out.trans (hb6.mono HB5.out.size))
    clear hW6 hs6 hb6
    go_wp2_with fail
    refine (func0_any W6 0 (some ⟨b5, 0, none⟩) 1 [⟨[], [lim0 d], finE⟩] HBK.out (wf_one ⟨by have h := HD.out; simp [lim0]; try omega, by have h := HD.out; unfold InI lim0; simp; try omega, by unfold InI lim0; simp, by unfold InI lim0; simp, by unfold InI lim0; simp, by unfold InI lim0; simp, by have h := HD.out; unfold InW lim0; simp; try omega⟩ (by decide)) (by simp)).mono ?_
    rintro e w7 ⟨rfl, hb7⟩
    obtain ⟨⟨r0, r1, r2⟩, hr⟩ : ∃ f, funcM 0 [⟨[], [lim0 d], finE⟩] = f := ⟨_, rfl⟩
    have hsay := lim0_says HD.out
    rw [hr] at hsay
    rw [hr]
    have HB7 := Lib.hid (HB6.out.trans (hb7.mono HB6.out.size))
    obtain ⟨ya, yb⟩ := hsay
    have y0 : r0 = if d ≤ 0 then 0 else 32 := ya
    have y1 : r1 = 0 := yb
    clear ya yb
    subst y1
    clear hb7 q0 q1 hr
    by_cases hd0 : d ≤ 0
    · have z0 : r0 = 0 := by rw [y0, if_pos hd0]
      subst z0
      clear y0
      go_wp2_with fail
      go_ret
      exact ⟨rfl, HB7.out⟩
    · have z0 : r0 = 32 := by rw [y0, if_neg hd0]
      subst z0
      clear y0
      go_wp2_with fail
      go_ret
      exact ⟨rfl, HB7.out⟩
  · have k8 : (a0 % 9 == 8) = false := beq_eq_false_iff_ne.2 (by omega)
    go_upto_region 32 with (fail)
    obtain ⟨W3, hW3⟩ : ∃ W3, ((((((((W2.setCell ⟨ws.heap.size, 0, none⟩ (.int .i64 3)).setCell ⟨ws.heap.size, 1, none⟩ (.int .i64 0)).setCell ⟨ws.heap.size, 2, none⟩ (.int .i64 0)).setCell ⟨ws.heap.size, 3, none⟩ (.int .i64 0)).setCell ⟨ws.heap.size, 4, none⟩ (.int .i64 0)).setCell ⟨ws.heap.size, 5, none⟩ (.int .i64 0)).setCell ⟨ws.heap.size, 6, none⟩ (.int .i32 (-32768 - d))).setCell ⟨ws.heap.size, 7, none⟩ (.slice none 0 0)) = W3 := ⟨_, rfl⟩
    rw [hW3]
    have hB3 : But ws.heap.size W2 W3 := by rw [← hW3]; exact ((((((((but_set ws.heap.size 0 _ W2).trans (but_set ws.heap.size 1 _ _)).trans (but_set ws.heap.size 2 _ _)).trans (but_set ws.heap.size 3 _ _)).trans (but_set ws.heap.size 4 _ _)).trans (but_set ws.heap.size 5 _ _)).trans (but_set ws.heap.size 6 _ _)).trans (but_set ws.heap.size 7 _ _))
    have hs3 : Str W3 ws.heap.size 40 [.int .i64 3, .int .i64 0, .int .i64 0, .int .i64 0, .int .i64 0, .int .i64 0, .int .i32 (-32768 - d), .slice none 0 0] := by rw [← hW3]; have h := ((((((((HS2.out.set 0 (.int .i64 3)).set 1 (.int .i64 0)).set 2 (.int .i64 0)).set 3 (.int .i64 0)).set 4 (.int .i64 0)).set 5 (.int .i64 0)).set 6 (.int .i32 (-32768 - d))).set 7 (.slice none 0 0)); simpa using h
    have he3 := hB3.str HE2.out (by omega)
    have hb3 : Below w.heap.size w W3 := HB2.out.trans (below_of_but hB3 HSZ.out HB2.out.size)
    clear hW3 hB3 x0 x1 x2 x3 x4 x5 x6 x7 g0 g1 g2 g3 g4 g5 g6 g7
    have q0 := hs3.cell 0
    have q1 := hs3.cell 1
    have q2 := hs3.cell 2
    have q3 := hs3.cell 3
    have q4 := hs3.cell 4
    have q5 := hs3.cell 5
    have q6 := hs3.cell 6
    have q7 := hs3.cell 7
    have p0 := he3.cell 0
    have p1 := he3.cell 1
    have p2 := he3.cell 2
    have p3 := he3.cell 3
    have p4 := he3.cell 4
    have HB3 := Lib.hid hb3
    clear hs3 he3 hb3
    go_wp2_with fail
    obtain ⟨W4, hW4⟩ : ∃ W4, W3.alloc (.cells #[.int .i64 3, .int .i64 0, .int .i64 0, .int .i64 0, .int .i64 0, .int .i64 0, .int .i32 (-32768 - d), .slice none 0 0] 40) = W4 := ⟨_, rfl⟩
    have hb4 : Below W3.heap.size W3 W4 := by rw [← hW4]; exact (Below.refl _ _).alloc (Nat.le_refl _) _
    have hs4 : Str W4 W3.heap.size 40 [.int .i64 3, .int .i64 0, .int .i64 0, .int .i64 0, .int .i64 0, .int .i64 0, .int .i32 (-32768 - d), .slice none 0 0] := by rw [← hW4]; exact World.alloc_heap_new W3 _
    rw [hW4]
    have HB4 := Lib.hid (HB3.out.trans (hb4.mono HB3.out.size))
    have HS4 := Lib.hid hs4
    have HB34 := Lib.hid hb4
    clear hW4 hs4 hb4 q0 q1 q2 q3 q4 q5 q6 q7 p0 p1 p2 p3 p4
    refine (one_any W4 0 7 (-1) 0 0 none (some ⟨W3.heap.size, 0, none⟩) 0 0 1 1).mono ?_
    rintro e w5 ⟨b5, hb5l, rfl, hs5, hb5⟩
    have HBK := Lib.hid (mblocks_one (ins := [lim1 d]) (to := []) hs5 (row_one (lim1 d) (HS4.out.below hb5) (ints_none _)) (ints_none _))
    have HB5 := Lib.hid (HB4.out.trans (hb5.mono HB4.out.size))
    clear hs5 hb5 hb5l HS4
    go_upto_region 35 with (fail)
    obtain ⟨W6, hW6⟩ : ∃ W6, w5.alloc (.cells #[.int .i64 0, .slice (some ⟨b5, 0, none⟩) 1 1] 24) = W6 := ⟨_, rfl⟩
    have hb6 : Below w5.heap.size w5 W6 := by rw [← hW6]; exact (Below.refl _ _).alloc (Nat.le_refl _) _
    have hs6 : Str W6 w5.heap.size 24 [.int .i64 0, .slice (some ⟨b5, 0, none⟩) 1 1] := by rw [← hW6]; exact World.alloc_heap_new w5 _
    rw [hW6]
    have q0 := hs6.cell 0
    have q1 := hs6.cell 1
    have HBK := Lib.hid (HBK.out.keep hb6)
    have HB6 := Lib.hid (HB5.out.trans (hb6.mono HB5.out.size))
    clear hW6 hs6 hb6
    go_wp2_with fail
    refine (func0_any W6 0 (some ⟨b5, 0, none⟩) 1 [⟨[], [lim1 d], finE⟩] HBK.out (wf_one ⟨by have h := HD.out; simp [lim1]; try omega, by have h := HD.out; unfold InI lim1; simp; try omega, by unfold InI lim1; simp, by unfold InI lim1; simp, by unfold InI lim1; simp, by unfold InI lim1; simp, by have h := HD.out; unfold InW lim1; simp; try omega⟩ (by decide)) (by simp)).mono ?_
    rintro e w7 ⟨rfl, hb7⟩
    obtain ⟨⟨r0, r1, r2⟩, hr⟩ : ∃ f, funcM 0 [⟨[], [lim1 d], finE⟩] = f := ⟨_, rfl⟩
    have hsay := lim1_says HD.out
    rw [hr] at hsay
    rw [hr]
    have HB7 := Lib.hid (HB6.out.trans (hb7.mono HB6.out.size))
    obtain ⟨ya, yb⟩ := hsay
    have y0 : r0 = if d ≤ 0 then 0 else 32 := ya
    have y1 : r1 = 0 := yb
    clear ya yb
    subst y1
    clear hb7 q0 q1 hr
    by_cases hd0 : d ≤ 0
    · have z0 : r0 = 0 := by rw [y0, if_pos hd0]
      subst z0
      clear y0
      go_wp2_with fail
      go_ret
      exact ⟨rfl, HB7.out⟩
    · have z0 : r0 = 32 := by rw [y0, if_neg hd0]
      subst z0
      clear y0
      go_wp2_with fail
      go_ret
      exact ⟨rfl, HB7.out⟩
  · have k8 : (a0 % 9 == 8) = false := beq_eq_false_iff_ne.2 (by omega)
    go_upto_region 32 with (fail)
    obtain ⟨W3, hW3⟩ : ∃ W3, ((((((((W2.setCell ⟨ws.heap.size, 0, none⟩ (.int .i64 19)).setCell ⟨ws.heap.size, 1, none⟩ (.int .i64 0)).setCell ⟨ws.heap.size, 2, none⟩ (.int .i64 0)).setCell ⟨ws.heap.size, 3, none⟩ (.int .i64 0)).setCell ⟨ws.heap.size, 4, none⟩ (.int .i64 0)).setCell ⟨ws.heap.size, 5, none⟩ (.int .i64 0)).setCell ⟨ws.heap.size, 6, none⟩ (.int .i32 (-128 - d))).setCell ⟨ws.heap.size, 7, none⟩ (.slice none 0 0)) = W3 := ⟨_, rfl⟩
    rw [hW3]
    have hB3 : But ws.heap.size W2 W3 := by rw [← hW3]; exact ((((((((but_set ws.heap.size 0 _ W2).trans (but_set ws.heap.size 1 _ _)).trans (but_set ws.heap.size 2 _ _)).trans (but_set ws.heap.size 3 _ _)).trans (but_set ws.heap.size 4 _ _)).trans (but_set ws.heap.size 5 _ _)).trans (but_set ws.heap.size 6 _ _)).trans (but_set ws.heap.size 7 _ _))
    have hs3 : Str W3 ws.heap.size 40 [.int .i64 19, .int .i64 0, .int .i64 0, .int .i64 0, .int .i64 0, .int .i64 0, .int .i32 (-128 - d), .slice none 0 0] := by rw [← hW3]; have h := ((((((((HS2.out.set 0 (.int .i64 19)).set 1 (.int .i64 0)).set 2 (.int .i64 0)).set 3 (.int .i64 0)).set 4 (.int .i64 0)).set 5 (.int .i64 0)).set 6 (.int .i32 (-128 - d))).set 7 (.slice none 0 0)); simpa using h
    have he3 := hB3.str HE2.out (by omega)
    have hb3 : Below w.heap.size w W3 := HB2.out.trans (below_of_but hB3 HSZ.out HB2.out.size)
    clear hW3 hB3 x0 x1 x2 x3 x4 x5 x6 x7 g0 g1 g2 g3 g4 g5 g6 g7
    have q0 := hs3.cell 0
    have q1 := hs3.cell 1
    have q2 := hs3.cell 2
    have q3 := hs3.cell 3
    have q4 := hs3.cell 4
    have q5 := hs3.cell 5
    have q6 := hs3.cell 6
    have q7 := hs3.cell 7
    have p0 := he3.cell 0
    have p1 := he3.cell 1
    have p2 := he3.cell 2
    have p3 := he3.cell 3
    have p4 := he3.cell 4
    have HB3 := Lib.hid hb3
    clear hs3 he3 hb3
    go_wp2_with fail
    obtain ⟨W4, hW4⟩ : ∃ W4, W3.alloc (.cells #[.int .i64 19, .int .i64 0, .int .i64 0, .int .i64 0, .int .i64 0, .int .i64 0, .int .i32 (-128 - d), .slice none 0 0] 40) = W4 := ⟨_, rfl⟩
    have hb4 : Below W3.heap.size W3 W4 := by rw [← hW4]; exact (Below.refl _ _).alloc (Nat.le_refl _) _
    have hs4 : Str W4 W3.heap.size 40 [.int .i64 19, .int .i64 0, .int .i64 0, .int .i64 0, .int .i64 0, .int .i64 0, .int .i32 (-128 - d), .slice none 0 0] := by rw [← hW4]; exact World.alloc_heap_new W3 _
    rw [hW4]
    have HB4 := Lib.hid (HB3.out.trans (hb4.mono HB3.out.size))
    have HS4 := Lib.hid hs4
    have HB34 := Lib.hid hb4
    clear hW4 hs4 hb4 q0 q1 q2 q3 q4 q5 q6 q7 p0 p1 p2 p3 p4
    refine (one_any W4 0 7 (-1) 0 0 none (some ⟨W3.heap.size, 0, none⟩) 0 0 1 1).mono ?_
    rintro e w5 ⟨b5, hb5l, rfl, hs5, hb5⟩
    have HBK := Lib.hid (mblocks_one (ins := [lim2 d]) (to := []) hs5 (row_one (lim2 d) (HS4.out.below hb5) (ints_none _)) (ints_none _))
    have HB5 := Lib.hid (HB4.out.trans (hb5.mono HB4.out.size))
    clear hs5 hb5 hb5l HS4
    go_upto_region 35 with (fail)
    obtain ⟨W6, hW6⟩ : ∃ W6, w5.alloc (.cells #[.int .i64 0, .slice (some ⟨b5, 0, none⟩) 1 1] 24) = W6 := ⟨_, rfl⟩
    have hb6 : Below w5.heap.size w5 W6 := by rw [← hW6]; exact (Below.refl _ _).alloc (Nat.le_refl _) _
    have hs6 : Str W6 w5.heap.size 24 [.int .i64 0, .slice (some ⟨b5, 0, none⟩) 1 1] := by rw [← hW6]; exact World.alloc_heap_new w5 _
    rw [hW6]
    have q0 := hs6.cell 0
    have q1 := hs6.cell 1
    have HBK := Lib.hid (HBK.out.keep hb6)
    have HB6 := Lib.hid (HB5.out.trans (hb6.mono HB5.out.size))
    clear hW6 hs6 hb6
    go_wp2_with fail
    refine (func0_any W6 0 (some ⟨b5, 0, none⟩) 1 [⟨[], [lim2 d], finE⟩] HBK.out (wf_one ⟨by have h := HD.out; simp [lim2]; try omega, by have h := HD.out; unfold InI lim2; simp; try omega, by unfold InI lim2; simp, by unfold InI lim2; simp, by unfold InI lim2; simp, by unfold InI lim2; simp, by have h := HD.out; unfold InW lim2; simp; try omega⟩ (by decide)) (by simp)).mono ?_
    rintro e w7 ⟨rfl, hb7⟩
    obtain ⟨⟨r0, r1, r2⟩, hr⟩ : ∃ f, funcM 0 [⟨[], [lim2 d], finE⟩] = f := ⟨_, rfl⟩
    have hsay := lim2_says HD.out
    rw [hr] at hsay
    rw [hr]
    have HB7 := Lib.hid (HB6.out.trans (hb7.mono HB6.out.size))
    obtain ⟨ya, yb⟩ := hsay
    have y0 : r0 = if d ≤ 0 then 0 else 32 := ya
    have y1 : r1 = 0 := yb
    clear ya yb
    subst y1
    clear hb7 q0 q1 hr
    by_cases hd0 : d ≤ 0
    · have z0 : r0 = 0 := by rw [y0, if_pos hd0]
      subst z0
      clear y0
      go_wp2_with fail
      go_ret
      exact ⟨rfl, HB7.out⟩
    · have z0 : r0 = 32 := by rw [y0, if_neg hd0]
      subst z0
      clear y0
      go_wp2_with fail
      go_ret
      exact ⟨rfl, HB7.out⟩
  · have k8 : (a0 % 9 == 8) = false := beq_eq_false_iff_ne.2 (by omega)
    go_upto_region 32 with (fail)
    obtain ⟨W3, hW3⟩ : ∃ W3, ((((((((W2.setCell ⟨ws.heap.size, 0, none⟩ (.int .i64 22)).setCell ⟨ws.heap.size, 1, none⟩ (.int .i64 0)).setCell ⟨ws.heap.size, 2, none⟩ (.int .i64 0)).setCell ⟨ws.heap.size, 3, none⟩ (.int .i64 0)).setCell ⟨ws.heap.size, 4, none⟩ (.int .i64 0)).setCell ⟨ws.heap.size, 5, none⟩ (.int .i64 0)).setCell ⟨ws.heap.size, 6, none⟩ (.int .i32 (31 + d))).setCell ⟨ws.heap.size, 7, none⟩ (.slice none 0 0)) = W3 := ⟨_, rfl⟩
    rw [hW3]
    have hB3 : But ws.heap.size W2 W3 := by rw [← hW3]; exact ((((((((but_set ws.heap.size 0 _ W2).trans (but_set ws.heap.size 1 _ _)).trans (but_set ws.heap.size 2 _ _)).trans (but_set ws.heap.size 3 _ _)).trans (but_set ws.heap.size 4 _ _)).trans (but_set ws.heap.size 5 _ _)).trans (but_set ws.heap.size 6 _ _)).trans (but_set ws.heap.size 7 _ _))
    have hs3 : Str W3 ws.heap.size 40 [.int .i64 22, .int .i64 0, .int .i64 0, .int .i64 0, .int .i64 0, .int .i64 0, .int .i32 (31 + d), .slice none 0 0] := by rw [← hW3]; have h := ((((((((HS2.out.set 0 (.int .i64 22)).set 1 (.int .i64 0)).set 2 (.int .i64 0)).set 3 (.int .i64 0)).set 4 (.int .i64 0)).set 5 (.int .i64 0)).set 6 (.int .i32 (31 + d))).set 7 (.slice none 0 0)); simpa using h
    have he3 := hB3.str HE2.out (by omega)
    have hb3 : Below w.heap.size w W3 := HB2.out.trans (below_of_but hB3 HSZ.out HB2.out.size)
    clear hW3 hB3 x0 x1 x2 x3 x4 x5 x6 x7 g0 g1 g2 g3 g4 g5 g6 g7
    have q0 := hs3.cell 0
    have q1 := hs3.cell 1
    have q2 := hs3.cell 2
    have q3 := hs3.cell 3
    have q4 := hs3.cell 4
    have q5 := hs3.cell 5
    have q6 := hs3.cell 6
    have q7 := hs3.cell 7
    have p0 := he3.cell 0
    have p1 := he3.cell 1
    have p2 := he3.cell 2
    have p3 := he3.cell 3
    have p4 := he3.cell 4
    have HB3 := Lib.hid hb3
    clear hs3 he3 hb3
    go_wp2_with fail
    obtain ⟨W4, hW4⟩ : ∃ W4, W3.alloc (.cells #[.int .i64 22, .int .i64 0, .int .i64 0, .int .i64 0, .int .i64 0, .int .i64 0, .int .i32 (31 + d), .slice none 0 0] 40) = W4 := ⟨_, rfl⟩
    have hb4 : Below W3.heap.size W3 W4 := by rw [← hW4]; exact (Below.refl _ _).alloc (Nat.le_refl _) _
    have hs4 : Str W4 W3.heap.size 40 [.int .i64 22, .int .i64 0, .int .i64 0, .int .i64 0, .int .i64 0, .int .i64 0, .int .i32 (31 + d), .slice none 0 0] := by rw [← hW4]; exact World.alloc_heap_new W3 _
    rw [hW4]
    have HB4 := Lib.hid (HB3.out.trans (hb4.mono HB3.out.size))
    have HS4 := Lib.hid hs4
    have HB34 := Lib.hid hb4
    clear hW4 hs4 hb4 q0 q1 q2 q3 q4 q5 q6 q7 p0 p1 p2 p3 p4
    refine (one_any W4 0 7 (-1) 0 0 none (some ⟨W3.heap.size, 0, none⟩) 0 0 1 1).mono ?_
    rintro e w5 ⟨b5, hb5l, rfl, hs5, hb5⟩
    have HBK := Lib.hid (mblocks_one (ins := [lim3 d]) (to := []) hs5 (row_one (lim3 d) (HS4.out.below hb5) (ints_none _)) (ints_none _))
    have HB5 := Lib.hid (HB4.out.trans (hb5.mono HB4.out.size))
    clear hs5 hb5 hb5l HS4
    go_upto_region 35 with (fail)
    obtain ⟨W6, hW6⟩ : ∃ W6, w5.alloc (.cells #[.int .i64 0, .slice (some ⟨b5, 0, none⟩) 1 1] 24) = W6 := ⟨_, rfl⟩
    have hb6 : Below w5.heap.size w5 W6 := by rw [← hW6]; exact (Below.refl _ _).alloc (Nat.le_refl _) _
    have hs6 : Str W6 w5.heap.size 24 [.int .i64 0, .slice (some ⟨b5, 0, none⟩) 1 1] := by rw [← hW6]; exact World.alloc_heap_new w5 _
    rw [hW6]
    have q0 := hs6.cell 0
    have q1 := hs6.cell 1
    have HBK := Lib.hid (HBK.out.keep hb6)
    have HB6 := Lib.hid (HB5.out.trans (hb6.mono HB5.out.size))
    clear hW6 hs6 hb6
    go_wp2_with fail
    refine (func0_any W6 0 (some ⟨b5, 0, none⟩) 1 [⟨[], [lim3 d], finE⟩] HBK.out (wf_one ⟨by have h := HD.out; simp [lim3]; try omega, by have h := HD.out; unfold InI lim3; simp; try omega, by unfold InI lim3; simp, by unfold InI lim3; simp, by unfold InI lim3; simp, by unfold InI lim3; simp, by have h := HD.out; unfold InW lim3; simp; try omega⟩ (by decide)) (by simp)).mono ?_
    rintro e w7 ⟨rfl, hb7⟩
    obtain ⟨⟨r0, r1, r2⟩, hr⟩ : ∃ f, funcM 0 [⟨[], [lim3 d], finE⟩] = f := ⟨_, rfl⟩
    have hsay := lim3_says HD.out
    rw [hr] at hsay
    rw [hr]
    have HB7 := Lib.hid (HB6.out.trans (hb7.mono HB6.out.size))
    obtain ⟨ya, yb⟩ := hsay
    have y0 : r0 = if d ≤ 0 then 0 else 32 := ya
    have y1 : r1 = 0 := yb
    clear ya yb
    subst y1
    clear hb7 q0 q1 hr
    by_cases hd0 : d ≤ 0
    · have z0 : r0 = 0 := by rw [y0, if_pos hd0]
      subst z0
      clear y0
      go_wp2_with fail
      go_ret
      exact ⟨rfl, HB7.out⟩
    · have z0 : r0 = 32 := by rw [y0, if_neg hd0]
      subst z0
      clear y0
      go_wp2_with fail
      go_ret
      exact ⟨rfl, HB7.out⟩
  · have k8 : (a0 % 9 == 8) = false := beq_eq_false_iff_ne.2 (by omega)
    go_upto_region 32 with (fail)
    obtain ⟨W3, hW3⟩ : ∃ W3, ((((((((W2.setCell ⟨ws.heap.size, 0, none⟩ (.int .i64 26)).setCell ⟨ws.heap.size, 1, none⟩ (.int .i64 0)).setCell ⟨ws.heap.size, 2, none⟩ (.int .i64 0)).setCell ⟨ws.heap.size, 3, none⟩ (.int .i64 0)).setCell ⟨ws.heap.size, 4, none⟩ (.int .i64 0)).setCell ⟨ws.heap.size, 5, none⟩ (.int .i64 0)).setCell ⟨ws.heap.size, 6, none⟩ (.int .i32 (255 + d))).setCell ⟨ws.heap.size, 7, none⟩ (.slice none 0 0)) = W3 := ⟨_, rfl⟩
    rw [hW3]
    have hB3 : But ws.heap.size W2 W3 := by rw [← hW3]; exact ((((((((but_set ws.heap.size 0 _ W2).trans (but_set ws.heap.size 1 _ _)).trans (but_set ws.heap.size 2 _ _)).trans (but_set ws.heap.size 3 _ _)).trans (but_set ws.heap.size 4 _ _)).trans (but_set ws.heap.size 5 _ _)).trans (but_set ws.heap.size 6 _ _)).trans (but_set ws.heap.size 7 _ _))
    have hs3 : Str W3 ws.heap.size 40 [.int .i64 26, .int .i64 0, .int .i64 0, .int .i64 0, .int .i64 0, .int .i64 0, .int .i32 (255 + d), .slice none 0 0] := by rw [← hW3]; have h := ((((((((HS2.out.set 0 (.int .i64 26)).set 1 (.int .i64 0)).set 2 (.int .i64 0)).set 3 (.int .i64 0)).set 4 (.int .i64 0)).set 5 (.int .i64 0)).set 6 (.int .i32 (255 + d))).set 7 (.slice none 0 0)); simpa using h
    have he3 := hB3.str HE2.out (by omega)
    have hb3 : Below w.heap.size w W3 := HB2.out.trans (below_of_but hB3 HSZ.out HB2.out.size)
    clear hW3 hB3 x0 x1 x2 x3 x4 x5 x6 x7 g0 g1 g2 g3 g4 g5 g6 g7
    have q0 := hs3.cell 0
    have q1 := hs3.cell 1
    have q2 := hs3.cell 2
    have q3 := hs3.cell 3
    have q4 := hs3.cell 4
    have q5 := hs3.cell 5
    have q6 := hs3.cell 6
    have q7 := hs3.cell 7
    have p0 := he3.cell 0
    have p1 := he3.cell 1
    have p2 := he3.cell 2
    have p3 := he3.cell 3
    have p4 := he3.cell 4
    have HB3 := Lib.hid hb3
    clear hs3 he3 hb3
    go_wp2_with fail
    obtain ⟨W4, hW4⟩ : ∃ W4, W3.alloc (.cells #[.int .i64 26, .int .i64 0, .int .i64 0, .int .i64 0, .int .i64 0, .int .i64 0, .int .i32 (255 + d), .slice none 0 0] 40) = W4 := ⟨_, rfl⟩
    have hb4 : Below W3.heap.size W3 W4 := by rw [← hW4]; exact (Below.refl _ _).alloc (Nat.le_refl _) _
    have hs4 : Str W4 W3.heap.size 40 [.int .i64 26, .int .i64 0, .int .i64 0, .int .i64 0, .int .i64 0, .int .i64 0, .int .i32 (255 + d), .slice none 0 0] := by rw [← hW4]; exact World.alloc_heap_new W3 _
    rw [hW4]
    have HB4 := Lib.hid (HB3.out.trans (hb4.mono HB3.out.size))
    have HS4 := Lib.hid hs4
    have HB34 := Lib.hid hb4
    clear hW4 hs4 hb4 q0 q1 q2 q3 q4 q5 q6 q7 p0 p1 p2 p3 p4
    refine (one_any W4 0 7 (-1) 0 0 none (some ⟨W3.heap.size, 0, none⟩) 0 0 1 1).mono ?_
    rintro e w5 ⟨b5, hb5l, rfl, hs5, hb5⟩
    have HBK := Lib.hid (mblocks_one (ins := [lim4 d]) (to := []) hs5 (row_one (lim4 d) (HS4.out.below hb5) (ints_none _)) (ints_none _))
    have HB5 := Lib.hid (HB4.out.trans (hb5.mono HB4.out.size))
    clear hs5 hb5 hb5l HS4
    go_upto_region 35 with (fail)
    obtain ⟨W6, hW6⟩ : ∃ W6, w5.alloc (.cells #[.int .i64 0, .slice (some ⟨b5, 0, none⟩) 1 1] 24) = W6 := ⟨_, rfl⟩
    have hb6 : Below w5.heap.size w5 W6 := by rw [← hW6]; exact (Below.refl _ _).alloc (Nat.le_refl _) _
    have hs6 : Str W6 w5.heap.size 24 [.int .i64 0, .slice (some ⟨b5, 0, none⟩) 1 1] := by rw [← hW6]; exact World.alloc_heap_new w5 _
    rw [hW6]
    have q0 := hs6.cell 0
    have q1 := hs6.cell 1
    have HBK := Lib.hid (HBK.out.keep hb6)
    have HB6 := Lib.hid (HB5.out.trans (hb6.mono HB5.out.size))
    clear hW6 hs6 hb6
    go_wp2_with fail
    refine (func0_any W6 0 (some ⟨b5, 0, none⟩) 1 [⟨[], [lim4 d], finE⟩] HBK.out (wf_one ⟨by have h := HD.out; simp [lim4]; try omega, by have h := HD.out; unfold InI lim4; simp; try omega, by unfold InI lim4; simp, by unfold InI lim4; simp, by unfold InI lim4; simp, by unfold InI lim4; simp, by have h := HD.out; unfold InW lim4; simp; try omega⟩ (by decide)) (by simp)).mono ?_
    rintro e w7 ⟨rfl, hb7⟩
    obtain ⟨⟨r0, r1, r2⟩, hr⟩ : ∃ f, funcM 0 [⟨[], [lim4 d], finE⟩] = f := ⟨_, rfl⟩
    have hsay := lim4_says HD.out
    rw [hr] at hsay
    rw [hr]
    have HB7 := Lib.hid (HB6.out.trans (hb7.mono HB6.out.size))
    obtain ⟨ya, yb⟩ := hsay
    have y0 : r0 = if d ≤ 0 then 0 else 32 := ya
    have y1 : r1 = 0 := yb
    clear ya yb
    subst y1
    clear hb7 q0 q1 hr
    by_cases hd0 : d ≤ 0
    · have z0 : r0 = 0 := by rw [y0, if_pos hd0]
      subst z0
      clear y0
      go_wp2_with fail
      go_ret
      exact ⟨rfl, HB7.out⟩
    · have z0 : r0 = 32 := by rw [y0, if_neg hd0]
      subst z0
      clear y0
      go_wp2_with fail
      go_ret
      exact ⟨rfl, HB7.out⟩
  · have k8 : (a0 % 9 == 8) = false := beq_eq_false_iff_ne.2 (by omega)
    go_upto_region 32 with (fail)
    obtain ⟨W3, hW3⟩ : ∃ W3, ((((((((W2.setCell ⟨ws.heap.size, 0, none⟩ (.int .i64 24)).setCell ⟨ws.heap.size, 1, none⟩ (.int .i64 0)).setCell ⟨ws.heap.size, 2, none⟩ (.int .i64 0)).setCell ⟨ws.heap.size, 3, none⟩ (.int .i64 0)).setCell ⟨ws.heap.size, 4, none⟩ (.int .i64 0)).setCell ⟨ws.heap.size, 5, none⟩ (.int .i64 0)).setCell ⟨ws.heap.size, 6, none⟩ (.int .i32 (-d))).setCell ⟨ws.heap.size, 7, none⟩ (.slice none 0 0)) = W3 := ⟨_, rfl⟩
    rw [hW3]
    have hB3 : But ws.heap.size W2 W3 := by rw [← hW3]; exact ((((((((but_set ws.heap.size 0 _ W2).trans (but_set ws.heap.size 1 _ _)).trans (but_set ws.heap.size 2 _ _)).trans (but_set ws.heap.size 3 _ _)).trans (but_set ws.heap.size 4 _ _)).trans (but_set ws.heap.size 5 _ _)).trans (but_set ws.heap.size 6 _ _)).trans (but_set ws.heap.size 7 _ _))
    have hs3 : Str W3 ws.heap.size 40 [.int .i64 24, .int .i64 0, .int .i64 0, .int .i64 0, .int .i64 0, .int .i64 0, .int .i32 (-d), .slice none 0 0] := by rw [← hW3]; have h := ((((((((HS2.out.set 0 (.int .i64 24)).set 1 (.int .i64 0)).set 2 (.int .i64 0)).set 3 (.int .i64 0)).set 4 (.int .i64 0)).set 5 (.int .i64 0)).set 6 (.int .i32 (-d))).set 7 (.slice none 0 0)); simpa using h
    have he3 := hB3.str HE2.out (by omega)
    have hb3 : Below w.heap.size w W3 := HB2.out.trans (below_of_but hB3 HSZ.out HB2.out.size)
    clear hW3 hB3 x0 x1 x2 x3 x4 x5 x6 x7 g0 g1 g2 g3 g4 g5 g6 g7
    have q0 := hs3.cell 0
    have q1 := hs3.cell 1
    have q2 := hs3.cell 2
    have q3 := hs3.cell 3
    have q4 := hs3.cell 4
    have q5 := hs3.cell 5
    have q6 := hs3.cell 6
    have q7 := hs3.cell 7
    have p0 := he3.cell 0
    have p1 := he3.cell 1
    have p2 := he3.cell 2
    have p3 := he3.cell 3
    have p4 := he3.cell 4
    have HB3 := Lib.hid hb3
    clear hs3 he3 hb3
    go_wp2_with fail
    obtain ⟨W4, hW4⟩ : ∃ W4, W3.alloc (.cells #[.int .i64 24, .int .i64 0, .int .i64 0, .int .i64 0, .int .i64 0, .int .i64 0, .int .i32 (-d), .slice none 0 0] 40) = W4 := ⟨_, rfl⟩
    have hb4 : Below W3.heap.size W3 W4 := by rw [← hW4]; exact (Below.refl _ _).alloc (Nat.le_refl _) _
    have hs4 : Str W4 W3.heap.size 40 [.int .i64 24, .int .i64 0, .int .i64 0, .int .i64 0, .int .i64 0, .int .i64 0, .int .i32 (-d), .slice none 0 0] := by rw [← hW4]; exact World.alloc_heap_new W3 _
    rw [hW4]
    have HB4 := Lib.hid (HB3.out.trans (hb4.mono HB3.out.size))
    have HS4 := Lib.hid hs4
    have HB34 := Lib.hid hb4
    clear hW4 hs4 hb4 q0 q1 q2 q3 q4 q5 q6 q7 p0 p1 p2 p3 p4
    refine (one_any W4 0 7 (-1) 0 0 none (some ⟨W3.heap.size, 0, none⟩) 0 0 1 1).mono ?_
    rintro e w5 ⟨b5, hb5l, rfl, hs5, hb5⟩
    have HBK := Lib.hid (mblocks_one (ins := [lim5 d]) (to := []) hs5 (row_one (lim5 d) (HS4.out.below hb5) (ints_none _)) (ints_none _))
    have HB5 := Lib.hid (HB4.out.trans (hb5.mono HB4.out.size))
    clear hs5 hb5 hb5l HS4
    go_upto_region 35 with (fail)
    obtain ⟨W6, hW6⟩ : ∃ W6, w5.alloc (.cells #[.int .i64 0, .slice (some ⟨b5, 0, none⟩) 1 1] 24) = W6 := ⟨_, rfl⟩
    have hb6 : Below w5.heap.size w5 W6 := by rw [← hW6]; exact (Below.refl _ _).alloc (Nat.le_refl _) _
    have hs6 : Str W6 w5.heap.size 24 [.int .i64 0, .slice (some ⟨b5, 0, none⟩) 1 1] := by rw [← hW6]; exact World.alloc_heap_new w5 _
    rw [hW6]
    have q0 := hs6.cell 0
    have q1 := hs6.cell 1
    have HBK := Lib.hid (HBK.out.keep hb6)
    have HB6 := Lib.hid (HB5.out.trans (hb6.mono HB5.out.size))
    clear hW6 hs6 hb6
    go_wp2_with fail
    refine (func0_any W6 0 (some ⟨b5, 0, none⟩) 1 [⟨[], [lim5 d], finE⟩] HBK.out (wf_one ⟨by have h := HD.out; simp [lim5]; try omega, by have h := HD.out; unfold InI lim5; simp; try omega, by unfold InI lim5; simp, by unfold InI lim5; simp, by unfold InI lim5; simp, by unfold InI lim5; simp, by have h := HD.out; unfold InW lim5; simp; try omega⟩ (by decide)) (by simp)).mono ?_
    rintro e w7 ⟨rfl, hb7⟩
    obtain ⟨⟨r0, r1, r2⟩, hr⟩ : ∃ f, funcM 0 [⟨[], [lim5 d], finE⟩] = f := ⟨_, rfl⟩
    have hsay := lim5_says HD.out
    rw [hr] at hsay
    rw [hr]
    have HB7 := Lib.hid (HB6.out.trans (hb7.mono HB6.out.size))
    obtain ⟨ya, yb⟩ := hsay
    have y0 : r0 = if d ≤ 0 then 0 else 32 := ya
    have y1 : r1 = 0 := yb
    clear ya yb
    subst y1
    clear hb7 q0 q1 hr
    by_cases hd0 : d ≤ 0
    · have z0 : r0 = 0 := by rw [y0, if_pos hd0]
      subst z0
      clear y0
      go_wp2_with fail
      go_ret
      exact ⟨rfl, HB7.out⟩
    · have z0 : r0 = 32 := by rw [y0, if_neg hd0]
      subst z0
      clear y0
      go_wp2_with fail
      go_ret
      exact ⟨rfl, HB7.out⟩
  · have k8 : (a0 % 9 == 8) = false := beq_eq_false_iff_ne.2 (by omega)
    go_upto_region 32 with (fail)
    obtain ⟨W3, hW3⟩ : ∃ W3, (W2.setCell ⟨ws.heap.size, 3, none⟩ (.int .i64 (8191 + d))) = W3 := ⟨_, rfl⟩
    rw [hW3]
    have hB3 : But ws.heap.size W2 W3 := by rw [← hW3]; exact (but_set ws.heap.size 3 _ W2)
    have hs3 : Str W3 ws.heap.size 40 [.int .i64 1, .int .i64 0, .int .i64 0, .int .i64 (8191 + d), .int .i64 0, .int .i64 0, .int .i32 0, .slice none 0 0] := by rw [← hW3]; have h := (HS2.out.set 3 (.int .i64 (8191 + d))); simpa using h
    have he3 := hB3.str HE2.out (by omega)
    have hb3 : Below w.heap.size w W3 := HB2.out.trans (below_of_but hB3 HSZ.out HB2.out.size)
    clear hW3 hB3 x0 x1 x2 x3 x4 x5 x6 x7 g0 g1 g2 g3 g4 g5 g6 g7
    have q0 := hs3.cell 0
    have q1 := hs3.cell 1
    have q2 := hs3.cell 2
    have q3 := hs3.cell 3
    have q4 := hs3.cell 4
    have q5 := hs3.cell 5
    have q6 := hs3.cell 6
    have q7 := hs3.cell 7
    have p0 := he3.cell 0
    have p1 := he3.cell 1
    have p2 := he3.cell 2
    have p3 := he3.cell 3
    have p4 := he3.cell 4
    have HB3 := Lib.hid hb3
    clear hs3 he3 hb3
    go_wp2_with fail
    obtain ⟨W4, hW4⟩ : ∃ W4, W3.alloc (.cells #[.int .i64 1, .int .i64 0, .int .i64 0, .int .i64 (8191 + d), .int .i64 0, .int .i64 0, .int .i32 0, .slice none 0 0] 40) = W4 := ⟨_, rfl⟩
    have hb4 : Below W3.heap.size W3 W4 := by rw [← hW4]; exact (Below.refl _ _).alloc (Nat.le_refl _) _
    have hs4 : Str W4 W3.heap.size 40 [.int .i64 1, .int .i64 0, .int .i64 0, .int .i64 (8191 + d), .int .i64 0, .int .i64 0, .int .i32 0, .slice none 0 0] := by rw [← hW4]; exact World.alloc_heap_new W3 _
    rw [hW4]
    have HB4 := Lib.hid (HB3.out.trans (hb4.mono HB3.out.size))
    have HS4 := Lib.hid hs4
    have HB34 := Lib.hid hb4
    clear hW4 hs4 hb4 q0 q1 q2 q3 q4 q5 q6 q7 p0 p1 p2 p3 p4
    refine (one_any W4 0 7 (-1) 0 0 none (some ⟨W3.heap.size, 0, none⟩) 0 0 1 1).mono ?_
    rintro e w5 ⟨b5, hb5l, rfl, hs5, hb5⟩
    have HBK := Lib.hid (mblocks_one (ins := [lim6 d]) (to := []) hs5 (row_one (lim6 d) (HS4.out.below hb5) (ints_none _)) (ints_none _))
    have HB5 := Lib.hid (HB4.out.trans (hb5.mono HB4.out.size))
    clear hs5 hb5 hb5l HS4
    go_upto_region 35 with (fail)
    obtain ⟨W6, hW6⟩ : ∃ W6, w5.alloc (.cells #[.int .i64 0, .slice (some ⟨b5, 0, none⟩) 1 1] 24) = W6 := ⟨_, rfl⟩
    have hb6 : Below w5.heap.size w5 W6 := by rw [← hW6]; exact (Below.refl _ _).alloc (Nat.le_refl _) _
    have hs6 : Str W6 w5.heap.size 24 [.int .i64 0, .slice (some ⟨b5, 0, none⟩) 1 1] := by rw [← hW6]; exact World.alloc_heap_new w5 _
    rw [hW6]
    have q0 := hs6.cell 0
    have q1 := hs6.cell 1
    have HBK := Lib.hid (HBK.out.keep hb6)
    have HB6 := Lib.hid (HB5.out.trans (hb6.mono HB5.out.size))
    clear hW6 hs6 hb6
    go_wp2_with fail
    refine (func0_any W6 0 (some ⟨b5, 0, none⟩) 1 [⟨[], [lim6 d], finE⟩] HBK.out (wf_one ⟨by have h := HD.out; simp [lim6]; try omega, by have h := HD.out; unfold InI lim6; simp; try omega, by unfold InI lim6; simp, by unfold InI lim6; simp, by unfold InI lim6; simp, by unfold InI lim6; simp, by have h := HD.out; unfold InW lim6; simp; try omega⟩ (by decide)) (by simp)).mono ?_
    rintro e w7 ⟨rfl, hb7⟩
    obtain ⟨⟨r0, r1, r2⟩, hr⟩ : ∃ f, funcM 0 [⟨[], [lim6 d], finE⟩] = f := ⟨_, rfl⟩
    have hsay := lim6_says HD.out
    rw [hr] at hsay
    rw [hr]
    have HB7 := Lib.hid (HB6.out.trans (hb7.mono HB6.out.size))
    obtain ⟨ya, yb⟩ := hsay
    have y0 : r0 = if d ≤ 0 then 0 else 31 := ya
    have y1 : r1 = 0 := yb
    clear ya yb
    subst y1
    clear hb7 q0 q1 hr
    by_cases hd0 : d ≤ 0
    · have z0 : r0 = 0 := by rw [y0, if_pos hd0]
      subst z0
      clear y0
      go_wp2_with fail
      go_ret
      exact ⟨rfl, HB7.out⟩
    · have z0 : r0 = 31 := by rw [y0, if_neg hd0]
      subst z0
      clear y0
      go_wp2_with fail
      go_ret
      exact ⟨rfl, HB7.out⟩
  · have k8 : (a0 % 9 == 8) = false := beq_eq_false_iff_ne.2 (by omega)
    obtain ⟨m, hm⟩ : ∃ m : Nat, 4 + d = (m : Int) := ⟨(4 + d).toNat, by omega⟩
    have hm6 : m ≤ 6 := by omega
    have HMD := Lib.hid hm
    obtain ⟨i0, hi, hz0, hz1, hz2⟩ := info_parts info_int
    have HI := Lib.hid hi
    have HZ0 := Lib.hid hz0
    have HZ1 := Lib.hid hz1
    have HZ2 := Lib.hid hz2
    clear hi hz0 hz1 hz2 x0 x1 x2 x3 x4 x5 x6 x7 g0 g1 g2 g3 g4 g5 g6 g7
    go_wp2_with (at_make; refine wpList_make_full _ rfl _ _ 38 rfl W2.heap.size 3 i0 (.int .i64 0) 1 Tryz.underlying38 HI.out HZ0.out HZ1.out .i64 .i64 _ _ m rfl rfl rfl rfl ?c1 ?c2 ?c3 ?_)
    case c1 => rw [HZ2.out]; omega
    case c2 => unfold maxLen; omega
    case c3 => exact Nat.le_refl _
    intro w3 hown hgr
    have hb23 : Below W2.heap.size W2 w3 := (Below.refl _ _).grown hgr (Nat.le_refl _) (fun j hj => by cases hj)
    have hoi : OwnInts W2.heap.size w3 (.slice (some ⟨W2.heap.size, 0, none⟩) m m) (List.replicate m 0) := by
      unfold OwnInts
      rw [List.length_replicate, List.map_replicate]
      rw [toList_madeCells_one] at hown
      simpa using hown
    have HS3 := Lib.hid (HS2.out.below hb23)
    have HE3 := Lib.hid (HE2.out.below hb23)
    have HM3 := Lib.hid (OwnInts.ints hoi)
    have HB3' := Lib.hid (HB2.out.trans (hb23.mono HB2.out.size))
    have HNE := Lib.hid (show W2.heap.size ≠ ws.heap.size from by have := HS2.out.lt; omega)
    have x0 := HS3.out.cell 0
    have x1 := HS3.out.cell 1
    have x2 := HS3.out.cell 2
    have x3 := HS3.out.cell 3
    have x4 := HS3.out.cell 4
    have x5 := HS3.out.cell 5
    have x6 := HS3.out.cell 6
    have x7 := HS3.out.cell 7
    have g0 := HS3.out.frozen 0
    have g1 := HS3.out.frozen 1
    have g2 := HS3.out.frozen 2
    have g3 := HS3.out.frozen 3
    have g4 := HS3.out.frozen 4
    have g5 := HS3.out.frozen 5
    have g6 := HS3.out.frozen 6
    have g7 := HS3.out.frozen 7
    clear hown hgr hoi hb23
    go_upto_region 32 with (fail)
    obtain ⟨W3, hW3⟩ : ∃ W3, ((((((((w3.setCell ⟨ws.heap.size, 0, none⟩ (.int .i64 28)).setCell ⟨ws.heap.size, 1, none⟩ (.int .i64 0)).setCell ⟨ws.heap.size, 2, none⟩ (.int .i64 0)).setCell ⟨ws.heap.size, 3, none⟩ (.int .i64 0)).setCell ⟨ws.heap.size, 4, none⟩ (.int .i64 0)).setCell ⟨ws.heap.size, 5, none⟩ (.int .i64 0)).setCell ⟨ws.heap.size, 6, none⟩ (.int .i32 0)).setCell ⟨ws.heap.size, 7, none⟩ (.slice (some ⟨W2.heap.size, 0, none⟩) m m)) = W3 := ⟨_, rfl⟩
    rw [hW3]
    have hB3 : But ws.heap.size w3 W3 := by rw [← hW3]; exact ((((((((but_set ws.heap.size 0 _ w3).trans (but_set ws.heap.size 1 _ _)).trans (but_set ws.heap.size 2 _ _)).trans (but_set ws.heap.size 3 _ _)).trans (but_set ws.heap.size 4 _ _)).trans (but_set ws.heap.size 5 _ _)).trans (but_set ws.heap.size 6 _ _)).trans (but_set ws.heap.size 7 _ _))
    have hs3 : Str W3 ws.heap.size 40 [.int .i64 28, .int .i64 0, .int .i64 0, .int .i64 0, .int .i64 0, .int .i64 0, .int .i32 0, .slice (some ⟨W2.heap.size, 0, none⟩) m m] := by rw [← hW3]; have h := ((((((((HS3.out.set 0 (.int .i64 28)).set 1 (.int .i64 0)).set 2 (.int .i64 0)).set 3 (.int .i64 0)).set 4 (.int .i64 0)).set 5 (.int .i64 0)).set 6 (.int .i32 0)).set 7 (.slice (some ⟨W2.heap.size, 0, none⟩) m m)); simpa using h
    have he3 := hB3.str HE3.out (by omega)
    have hb3 : Below w.heap.size w W3 := HB3'.out.trans (below_of_but hB3 HSZ.out HB3'.out.size)
    have HM7 := Lib.hid (show Ints W3 (.slice (some ⟨W2.heap.size, 0, none⟩) m m) (List.replicate m 0) from by
      obtain ⟨A', c', e1, e2, e3, e4⟩ := HM3.out
      refine ⟨A', c', e1, e2, e3, fun j hj => ?_⟩
      obtain ⟨ad, ea, ec⟩ := e4 j hj
      injection e1 with e1 _ _
      rw [← e1] at ea
      injection ea with ea
      subst ea
      exact ⟨_, e1.symm, hB3.cell ec (by rw [at_add0]; exact HNE.out)⟩)
    have HL7 := Lib.hid (show (lim7 d).args = List.replicate m 0 from by unfold lim7; rw [show (4 + d).toNat = m by omega])
    have HLN := Lib.hid (show (lim7 d).args.length = m from by rw [HL7.out, List.length_replicate])
    clear hW3 hB3 x0 x1 x2 x3 x4 x5 x6 x7 g0 g1 g2 g3 g4 g5 g6 g7
    have q0 := hs3.cell 0
    have q1 := hs3.cell 1
    have q2 := hs3.cell 2
    have q3 := hs3.cell 3
    have q4 := hs3.cell 4
    have q5 := hs3.cell 5
    have q6 := hs3.cell 6
    have q7 := hs3.cell 7
    have p0 := he3.cell 0
    have p1 := he3.cell 1
    have p2 := he3.cell 2
    have p3 := he3.cell 3
    have p4 := he3.cell 4
    have HB3 := Lib.hid hb3
    clear hs3 he3 hb3
    go_wp2_with fail
    obtain ⟨W4, hW4⟩ : ∃ W4, W3.alloc (.cells #[.int .i64 28, .int .i64 0, .int .i64 0, .int .i64 0, .int .i64 0, .int .i64 0, .int .i32 0, .slice (some ⟨W2.heap.size, 0, none⟩) m m] 40) = W4 := ⟨_, rfl⟩
    have hb4 : Below W3.heap.size W3 W4 := by rw [← hW4]; exact (Below.refl _ _).alloc (Nat.le_refl _) _
    have hs4 : Str W4 W3.heap.size 40 [.int .i64 28, .int .i64 0, .int .i64 0, .int .i64 0, .int .i64 0, .int .i64 0, .int .i32 0, .slice (some ⟨W2.heap.size, 0, none⟩) m m] := by rw [← hW4]; exact World.alloc_heap_new W3 _
    rw [hW4]
    have HB4 := Lib.hid (HB3.out.trans (hb4.mono HB3.out.size))
    have HS4 := Lib.hid hs4
    have HB34 := Lib.hid hb4
    clear hW4 hs4 hb4 q0 q1 q2 q3 q4 q5 q6 q7 p0 p1 p2 p3 p4
    refine (one_any W4 0 7 (-1) 0 0 none (some ⟨W3.heap.size, 0, none⟩) 0 0 1 1).mono ?_
    rintro e w5 ⟨b5, hb5l, rfl, hs5, hb5⟩
    have HBK := Lib.hid (mblocks_one (ins := [lim7 d]) (to := []) hs5 (row_one (lim7 d) (A := some ⟨W2.heap.size, 0, none⟩) (k := m) (by rw [HLN.out]; exact HS4.out.below hb5) (by rw [HLN.out, HL7.out]; exact (HM7.out.keep HB34.out).keep hb5)) (ints_none _))
    have HB5 := Lib.hid (HB4.out.trans (hb5.mono HB4.out.size))
    clear hs5 hb5 hb5l HS4
    go_upto_region 35 with (fail)
    obtain ⟨W6, hW6⟩ : ∃ W6, w5.alloc (.cells #[.int .i64 0, .slice (some ⟨b5, 0, none⟩) 1 1] 24) = W6 := ⟨_, rfl⟩
    have hb6 : Below w5.heap.size w5 W6 := by rw [← hW6]; exact (Below.refl _ _).alloc (Nat.le_refl _) _
    have hs6 : Str W6 w5.heap.size 24 [.int .i64 0, .slice (some ⟨b5, 0, none⟩) 1 1] := by rw [← hW6]; exact World.alloc_heap_new w5 _
    rw [hW6]
    have q0 := hs6.cell 0
    have q1 := hs6.cell 1
    have HBK := Lib.hid (HBK.out.keep hb6)
    have HB6 := Lib.hid (HB5.out.trans (hb6.mono HB5.out.size))
    clear hW6 hs6 hb6
    go_wp2_with fail
    refine (func0_any W6 0 (some ⟨b5, 0, none⟩) 1 [⟨[], [lim7 d], finE⟩] HBK.out (wf_one ⟨by have h := HD.out; simp [lim7]; try omega, by have h := HD.out; unfold InI lim7; simp; try omega, by unfold InI lim7; simp, by unfold InI lim7; simp, by unfold InI lim7; simp, by unfold InI lim7; simp, by have h := HD.out; unfold InW lim7; simp; try omega⟩ (by decide)) (by simp)).mono ?_
    rintro e w7 ⟨rfl, hb7⟩
    obtain ⟨⟨r0, r1, r2⟩, hr⟩ : ∃ f, funcM 0 [⟨[], [lim7 d], finE⟩] = f := ⟨_, rfl⟩
    have hsay := lim7_says HD.out
    rw [hr] at hsay
    rw [hr]
    have HB7 := Lib.hid (HB6.out.trans (hb7.mono HB6.out.size))
    obtain ⟨ya, yb⟩ := hsay
    have y0 : r0 = if d ≤ 0 then 0 else 30 := ya
    have y1 : r1 = 0 := yb
    clear ya yb
    subst y1
    clear hb7 q0 q1 hr
    by_cases hd0 : d ≤ 0
    · have z0 : r0 = 0 := by rw [y0, if_pos hd0]
      subst z0
      clear y0
      go_wp2_with fail
      go_ret
      exact ⟨rfl, HB7.out⟩
    · have z0 : r0 = 30 := by rw [y0, if_neg hd0]
      subst z0
      clear y0
      go_wp2_with fail
      go_ret
      exact ⟨rfl, HB7.out⟩
  · have k8 : (a0 % 9 == 8) = true := beq_iff_eq.2 (by omega)
    obtain ⟨n, hn⟩ : ∃ n : Nat, 65 + d = (n : Int) := ⟨(65 + d).toNat, by omega⟩
    have hn6 : 63 ≤ n ∧ n ≤ 67 := by omega
    have HN := Lib.hid hn
    obtain ⟨i0, hi, hz0, hz1, hz2⟩ := info_parts info_int
    obtain ⟨i1, hi', hy0, hy1, hy2⟩ := info_parts info_mb
    have HI := Lib.hid hi
    have HZ0 := Lib.hid hz0
    have HZ1 := Lib.hid hz1
    have HZ2 := Lib.hid hz2
    have HJ := Lib.hid hi'
    have HY0 := Lib.hid hy0
    have HY1 := Lib.hid hy1
    have HY2 := Lib.hid hy2
    clear hi hz0 hz1 hz2 hi' hy0 hy1 hy2 x0 x1 x2 x3 x4 x5 x6 x7 g0 g1 g2 g3 g4 g5 g6 g7
    have x0 := HE2.out.cell 0
    have x1 := HE2.out.cell 1
    have x2 := HE2.out.cell 2
    have x3 := HE2.out.cell 3
    have x4 := HE2.out.cell 4
    have g0 := HE2.out.frozen 0
    have g1 := HE2.out.frozen 1
    have g2 := HE2.out.frozen 2
    have g3 := HE2.out.frozen 3
    have g4 := HE2.out.frozen 4
    go_upto_region 9 with (fail)
    clear hk9
    obtain ⟨W3, hW3⟩ : ∃ W3, (((((W2.setCell ⟨ws.heap.size + 1, 0, none⟩ (.int .i64 6)).setCell ⟨ws.heap.size + 1, 1, none⟩ (.int .i64 0)).setCell ⟨ws.heap.size + 1, 2, none⟩ (.int .i64 0)).setCell ⟨ws.heap.size + 1, 3, none⟩ (.slice none 0 0)).setCell ⟨ws.heap.size + 1, 4, none⟩ (.int .i32 0)) = W3 := ⟨_, rfl⟩
    rw [hW3]
    have hB3 : But (ws.heap.size + 1) W2 W3 := by rw [← hW3]; exact (((((but_set (ws.heap.size + 1) 0 _ W2).trans (but_set (ws.heap.size + 1) 1 _ _)).trans (but_set (ws.heap.size + 1) 2 _ _)).trans (but_set (ws.heap.size + 1) 3 _ _)).trans (but_set (ws.heap.size + 1) 4 _ _))
    have he3 : Str W3 (ws.heap.size + 1) 42 [.int .i64 6, .int .i64 0, .int .i64 0, .slice none 0 0, .int .i32 0] := by rw [← hW3]; have h := (((((HE2.out.set 0 (.int .i64 6)).set 1 (.int .i64 0)).set 2 (.int .i64 0)).set 3 (.slice none 0 0)).set 4 (.int .i32 0)); simpa using h
    have hs3 := hB3.str HS2.out (by omega)
    have hb3 : Below w.heap.size w W3 := HB2.out.trans (below_of_but hB3 (by have := HSZ.out; omega) HB2.out.size)
    have HS3 := Lib.hid hs3
    have HB3 := Lib.hid hb3
    have HL3 := Lib.hid he3.lt
    have HE3 := Lib.hid he3
    clear hW3 hB3 x0 x1 x2 x3 x4 g0 g1 g2 g3 g4 hs3 hb3 he3
    go_wp2
    go_loopw [11] (fun i wr => ∃ k : Nat, k ≤ n ∧ i = .int .i64 k ∧ ∃ A c, wr.ownsRow W3.heap.size 3 1 (.slice A k c) k (List.replicate k (.int .i64 1)) ∧ Str wr (ws.heap.size + 1) 42 [.int .i64 6, .int .i64 0, .int .i64 0, .slice A k c, .int .i32 0] ∧ But (ws.heap.size + 1) W3 wr) (fun i _ => n - (intOf i).toNat)
    case atStart => exact ⟨0, by omega, rfl, none, 0, World.ownsRow_nil _ _ _ _, HE3.out, But.refl _ _⟩
    case round =>
      obtain ⟨k, hk, rfl, A, c, hown, hst, hbut⟩ := hrel
      obtain ⟨wo, rfl⟩ : ∃ wo : World, wo = wr := ⟨_, rfl⟩
      have HO := Lib.hid hown
      have HST := Lib.hid hst
      have HBT := Lib.hid hbut
      have HSO := Lib.hid hbut.size
      have e3 := hst.cell 3
      clear hown hst hbut
      by_cases hlt : k < n
      · go_wp2_with (at_builtin; refine wpList_append_own _ rfl _ _ 38 rfl W3.heap.size 3 i0 (.int .i64 0) 1 8 Tryz.underlying38 HI.out HZ0.out HZ1.out HZ2.out rfl (by decide) _ _ _ rfl (HO.out.alloc _) ⟨_, 0, none⟩ 1 1 [.int .i64 1] rfl rfl ?c1 ?c2 ?c3 ?c4 ?c5 ?_)
        case c1 =>
          intro i u hj
          match i, hj with
          | 0, hj => simp at hj; subst hj; simp [Addr.add]
        case c2 => intro u hu; simp at hu; subst hu; rfl
        case c3 => unfold maxLen; omega
        case c4 => omega
        case c5 => have := HSO.out; simp; omega
        intro vn w6 hown' hgrow _
        obtain ⟨AX, cX, rfl⟩ := own_form hown'
        have hb6 : Below W3.heap.size wo w6 := ((Below.refl _ _).alloc HSO.out _).grown hgrow (by rw [World.size_alloc]; have := HSO.out; omega) (fun j hj => (HO.out.lt j hj).1)
        have hst6 : Str w6 (ws.heap.size + 1) 42 [.int .i64 6, .int .i64 0, .int .i64 0, .slice A k c, .int .i32 0] := (hb6.block _ HL3.out).trans HST.out
        have c6 := hst6.cell 3
        have f6 := hst6.frozen 3
        have HO6 := Lib.hid hown'
        have HB6 := Lib.hid hb6
        have HST6 := Lib.hid hst6
        clear hown' hgrow hb6 hst6 e3
        go_wp2
        go_roundw
        case rel =>
          refine ⟨k + 1, by omega, by go_num, AX, cX, ?_, ?_, ?_⟩
          · rw [List.replicate_succ']
            exact ownsRow_setCell_below HO6.out HL3.out _
          · exact HST6.out.set 3 _
          · have h := HBT.out
            have h6 := HB6.out
            exact But.trans ⟨h6.os.trans h.os, h6.tape.trans h.tape, h6.output.trans h.output, Nat.le_trans h.size h6.size, fun x hx hn => (h6.block x hx).trans (h.block x hx hn)⟩ (but_set _ 3 _ _)
        case measure => simp [intOf]; omega
      · have hkn : k = n := by omega
        subst hkn
        have hs3 := HBT.out.str HS3.out (by omega)
        have q0 := hs3.cell 0
        have q1 := hs3.cell 1
        have q2 := hs3.cell 2
        have q3 := hs3.cell 3
        have q4 := hs3.cell 4
        have q5 := hs3.cell 5
        have q6 := hs3.cell 6
        have q7 := hs3.cell 7
        have p0 := HST.out.cell 0
        have p1 := HST.out.cell 1
        have p2 := HST.out.cell 2
        have p3 := HST.out.cell 3
        have p4 := HST.out.cell 4
        have HBW := Lib.hid (HB3.out.trans (below_of_but HBT.out (by have := HSZ.out; omega) HB3.out.size))
        clear hs3 e3
        go_wp2_with fail
        obtain ⟨W4, hW4⟩ : ∃ W4, wo.alloc (.cells #[.int .i64 1, .int .i64 0, .int .i64 0, .int .i64 0, .int .i64 0, .int .i64 0, .int .i32 0, .slice none 0 0] 40) = W4 := ⟨_, rfl⟩
        have hb4 : Below wo.heap.size wo W4 := by rw [← hW4]; exact (Below.refl _ _).alloc (Nat.le_refl _) _
        have hs4 : Str W4 wo.heap.size 40 [.int .i64 1, .int .i64 0, .int .i64 0, .int .i64 0, .int .i64 0, .int .i64 0, .int .i32 0, .slice none 0 0] := by rw [← hW4]; exact World.alloc_heap_new wo _
        rw [hW4]
        have HTO := Lib.hid (OwnInts.ints (B := W3.heap.size) (l := List.replicate k 1) (v := .slice A k c) (w := W4) (by
          unfold OwnInts
          rw [List.length_replicate, List.map_replicate]
          exact own_below HO.out hb4))
        have HB4 := Lib.hid (HBW.out.trans (hb4.mono HBW.out.size))
        have HS4 := Lib.hid hs4
        clear hW4 hs4 hb4 q0 q1 q2 q3 q4 q5 q6 q7 p0 p1 p2 p3 p4
        refine (one_any W4 0 6 0 0 0 A (some ⟨wo.heap.size, 0, none⟩) k c 1 1).mono ?_
        rintro e w5 ⟨b5, hb5l, rfl, hs5, hb5⟩
        have HRO := Lib.hid (row_one mov0 HS4.out (ints_none _))
        have HW5 := Lib.hid hb5
        have HB5 := Lib.hid (HB4.out.trans (hb5.mono HB4.out.size))
        have HS5 := Lib.hid hs5
        have HLB := Lib.hid hb5l
        have HLW := Lib.hid hb5.size
        clear hs5 hb5 hb5l HS4
        go_upto_region 33 with (fail)
        obtain ⟨W6, hW6⟩ : ∃ W6, w5.alloc (.cells #[.int .i64 0, .slice (some ⟨b5, 0, none⟩) 1 1] 24) = W6 := ⟨_, rfl⟩
        have hb6 : Below w5.heap.size w5 W6 := by rw [← hW6]; exact (Below.refl _ _).alloc (Nat.le_refl _) _
        have hs6 : Str W6 w5.heap.size 24 [.int .i64 0, .slice (some ⟨b5, 0, none⟩) 1 1] := by rw [← hW6]; exact World.alloc_heap_new w5 _
        rw [hW6]
        have q1 := hs6.cell 1
        have HW6 := Lib.hid (HW5.out.trans (hb6.mono HW5.out.size))
        have HB6 := Lib.hid (HB5.out.trans (hb6.mono HB5.out.size))
        have HS6 := Lib.hid hs6
        have HG6 := Lib.hid (HS5.out.below hb6)
        have HLW6 := Lib.hid hb6.size
        have HOW := Lib.hid (show W6.ownsRow b5 67 7 (.slice (some ⟨b5, 0, none⟩) 1 1) 1 [.slice none 0 0, .slice (some ⟨wo.heap.size, 0, none⟩) 1 1, .int .i64 6, .int .i64 0, .int .i64 0, .slice A k c, .int .i32 0] from
          ⟨by simp, .inr ⟨b5, 1, _, rfl, Nat.le_refl _, HG6.out, Nat.le_refl _, by decide, rfl, rfl⟩⟩)
        clear hW6 hb6 hs6
        go_wp2_with (at_builtin; refine wpList_append_own _ rfl _ _ 22 rfl b5 67 i1 ZMB 7 104 Tryz.underlying22 HJ.out HY0.out HY1.out HY2.out rfl (by decide) _ _ _ rfl (HOW.out.alloc _) ⟨_, 0, none⟩ 1 1 [.slice none 0 0, .slice none 0 0, .int .i64 8, .int .i64 0, .int .i64 0, .slice none 0 0, .int .i32 0] rfl rfl ?c1 ?c2 ?c3 ?c4 ?c5 ?_)
        case c1 =>
          intro i u hj
          match i, hj with
        | 0, hj => simp at hj; subst hj; simp [Addr.add]
        | 1, hj => simp at hj; subst hj; simp [Addr.add]
        | 2, hj => simp at hj; subst hj; simp [Addr.add]
        | 3, hj => simp at hj; subst hj; simp [Addr.add]
        | 4, hj => simp at hj; subst hj; simp [Addr.add]
        | 5, hj => simp at hj; subst hj; simp [Addr.add]
        | 6, hj => simp at hj; subst hj; simp [Addr.add]
        case c2 => intro u hu; simp only [List.mem_cons, List.not_mem_nil, or_false] at hu; rcases hu with rfl | rfl | rfl | rfl | rfl | rfl | rfl <;> rfl
        case c3 => unfold maxLen; omega
        case c4 => omega
        case c5 => have := HG6.out.lt; simp; omega
        intro vn w7 hown' hgrow _
        obtain ⟨AX, cX, rfl⟩ := own_form hown'
        obtain ⟨g, eg⟩ := own_at hown' (by decide)
        subst eg
        have hb7 : Below b5 W6 w7 := ((Below.refl _ _).alloc (Nat.le_of_lt HG6.out.lt) _).grown hgrow (by rw [World.size_alloc]; have := HG6.out.lt; omega) (fun j hj => (HOW.out.lt j hj).1)
        have hs7 : Str w7 w5.heap.size 24 [.int .i64 0, .slice (some ⟨b5, 0, none⟩) 1 1] :=
          (hgrow.block _ (by rw [World.size_alloc]; have := HS6.out.lt; omega) (fun e => by have e2 : w5.heap.size = b5 := Option.some.inj e; have := HS5.out.lt; omega)).trans (HS6.out.below ((Below.refl _ _).alloc (Nat.le_refl _) _))
        have hgc : g ≠ w5.heap.size ∧ 2 ≤ cX ∧ cX ≤ maxLen := by
          obtain ⟨_, ⟨e1, _⟩ | ⟨g', cap, cur, e1, _, hc, hl1, hl2, _⟩⟩ := hown'
          · cases e1
          · injection e1 with e1 _ e3
            injection e1 with e1
            injection e1 with e1
            subst e1 e3
            refine ⟨fun e => ?_, hl1, hl2⟩
            rw [e, show w7.heap[w5.heap.size]? = _ from hs7] at hc
            injection hc with hc
            injection hc with _ ht _
            exact absurd ht (by decide)
        have HGC := Lib.hid hgc
        have HO7 := Lib.hid hown'
        have HW7 := Lib.hid (HW6.out.trans (hb7.mono HLB.out))
        have HB7 := Lib.hid (HB6.out.trans (hb7.mono (Nat.le_trans HB4.out.size HLB.out)))
        have HS7 := Lib.hid hs7
        have c7 := hs7.cell 1
        have f7 := hs7.frozen 1
        clear hown' hgrow hb7 hs7 hgc q1
        go_upto_region 35 with (fail)
        obtain ⟨W8, hW8⟩ : ∃ W8, w7.setCell ⟨w5.heap.size, 1, none⟩ (.slice (some ⟨g, 0, none⟩) 2 cX) = W8 := ⟨_, rfl⟩
        rw [hW8]
        have hB8 : But w5.heap.size w7 W8 := by rw [← hW8]; exact but_set _ 1 _ _
        have hs8 : Str W8 w5.heap.size 24 [.int .i64 0, .slice (some ⟨g, 0, none⟩) 2 cX] := by rw [← hW8]; have h := HS7.out.set 1 (.slice (some ⟨g, 0, none⟩) 2 cX); simpa using h
        have hw8 : Below W4.heap.size W4 W8 := HW7.out.trans (below_of_but hB8 (by have := HLB.out; have := HS5.out.lt; omega) HW7.out.size)
        have HB8 := Lib.hid (HB7.out.trans (below_of_but hB8 (by have := HB4.out.size; have := HLB.out; have := HS5.out.lt; omega) HB7.out.size))
        have hcell : ∀ (j : Nat) (u : Value), ([.slice none 0 0, .slice (some ⟨wo.heap.size, 0, none⟩) 1 1, .int .i64 6, .int .i64 0, .int .i64 0, .slice A k c, .int .i32 0] ++ [.slice none 0 0, .slice none 0 0, .int .i64 8, .int .i64 0, .int .i64 0, .slice none 0 0, .int .i32 0])[j]? = some u → W8.cell? ⟨g, j, none⟩ = some u := fun j u h => hB8.cell (by
          have h2 := World.ownsRow.cells HO7.out (g := g) rfl j u h
          have h3 : (⟨g, 0, none⟩ : Addr).add j = ⟨g, j, none⟩ := by cases j <;> simp [Addr.add]
          rwa [h3] at h2) HGC.out.1
        have hbk : MBlocksAt W8 (.slice (some ⟨g, 0, none⟩) 2 cX) [⟨[], [mov0], tabE k⟩, ⟨[], [], trapE⟩] := by
          refine ⟨_, cX, g, 0, rfl, HGC.out.2.1, HGC.out.2.2, fun _ => rfl, fun j hj => ?_⟩
          match j, hj with
          | 0, _ => exact ⟨⟨_, hcell 0 _ rfl, rowAt_nil⟩, ⟨_, hcell 1 _ rfl, HRO.out.kept (MachAt.keep hw8)⟩, hcell 2 _ rfl, hcell 3 _ rfl, hcell 4 _ rfl, ⟨_, hcell 5 _ rfl, HTO.out.keep hw8⟩, hcell 6 _ rfl⟩
          | 1, _ => exact ⟨⟨_, hcell 7 _ rfl, rowAt_nil⟩, ⟨_, hcell 8 _ rfl, rowAt_nil⟩, hcell 9 _ rfl, hcell 10 _ rfl, hcell 11 _ rfl, ⟨_, hcell 12 _ rfl, ints_none _⟩, hcell 13 _ rfl⟩
        have HBK := Lib.hid hbk
        have q0 := hs8.cell 0
        have q1 := hs8.cell 1
        clear hW8 hB8 hs8 hw8 hcell hbk c7 f7
        go_wp2_with fail
        have hkk : (65 + d).toNat = k := by have := HN.out; omega
        refine (func0_any W8 0 (some ⟨g, 0, none⟩) cX [⟨[], [mov0], tabE k⟩, ⟨[], [], trapE⟩] HBK.out ⟨by simp, ?wsz, ?win, ?wph⟩ (by simp)).mono ?_
        case wsz =>
          intro x hx
          simp only [List.mem_cons, List.not_mem_nil, or_false] at hx
          rcases hx with rfl | rfl <;> simp [tabE, trapE] <;> omega
        case win =>
          intro x hx j hj
          simp only [List.mem_cons, List.not_mem_nil, or_false] at hx
          rcases hx with rfl | rfl
          · rw [List.mem_singleton.1 hj]; exact ⟨by decide, by unfold InI; decide, by unfold InI; decide, by unfold InI; decide, by unfold InI; decide, by unfold InI; decide, by unfold InW; decide⟩
          · cases hj
        case wph =>
          intro x hx p hp
          simp only [List.mem_cons, List.not_mem_nil, or_false] at hx
          rcases hx with rfl | rfl <;> cases hp
        rintro e w9 ⟨rfl, hb9⟩
        obtain ⟨⟨r0, r1, r2⟩, hr⟩ : ∃ f, funcM 0 [⟨[], [mov0], tabE k⟩, ⟨[], [], trapE⟩] = f := ⟨_, rfl⟩
        have hsay := lim8_says HD.out
        rw [hkk, hr] at hsay
        rw [hr]
        have HB9 := Lib.hid (HB8.out.trans (hb9.mono HB8.out.size))
        obtain ⟨ya, yb⟩ := hsay
        have y0 : r0 = if d ≤ 0 then 0 else 30 := ya
        have y1 : r1 = 0 := yb
        clear ya yb
        subst y1
        clear hb9 q0 q1 hr hkk
        by_cases hd0 : d ≤ 0
        · have z0 : r0 = 0 := by rw [y0, if_pos hd0]
          subst z0
          clear y0
          go_wp2_with fail
          go_ret
          exact ⟨rfl, HB9.out⟩
        · have z0 : r0 = 30 := by rw [y0, if_neg hd0]
          subst z0
          clear y0
          go_wp2_with fail
          go_ret
          exact ⟨rfl, HB9.out⟩

/-! ### THE ROW's STEP: WRITTEN OUT: LEAVE IT -/
set_option maxRecDepth 100000 in
theorem lifted (os : Os) (started : os.Started) (H : Type) (enc : TypeId × Value → H) :
    ReturnsInHanded {} Tryz.checked os 7 .any (Rows.machLimitsSpec.pre6 enc Tryz.prog Tryz.f7 Rows.machLimitsRow.domain false) (Rows.machLimitsSpec.post enc Tryz.prog Tryz.f7 false true false false) := by
  refine returnsInHanded_of_change (C := Tryz.checked) own started (by kernel_rfl) Tryz.func7
    (ChangeSpec.witness6 (enc := enc) (C := Tryz.checked) false ⟨#[], #[.int .u8 0, .int .u8 0], []⟩ 8 (by kernel_rfl) (by kernel_rfl) (by kernel_rfl) (by kernel_rfl)) ?_
  intro W base args ds gs before hval0 hW hcnd _
  have hval : ∀ (j : Nat) t v, Tryz.f7.params[j]? = some t → args[j]? = some v → Value.okWide Tryz.prog W .any base t v := hval0
  have hW' := hW
  obtain ⟨p, q, hA0, hV, rfl, hfz, hnd⟩ := hW
  have hA : DataW.TrodAll enc Tryz.prog W 0 (fun _ => true) true Tryz.f7.params.toList args.toList ds p := hA0
  rw [Tryz.params7] at hA hval
  obtain ⟨v0, vs0, d0, ds0, p0, q0, hargs, rfl, rfl, h0, r0⟩ := trodAll_cons hA
  obtain ⟨v1, vs1, d1, ds1, p1, q1, rfl, rfl, rfl, h1, r1⟩ := trodAll_cons r0
  obtain ⟨rfl, rfl, rfl⟩ := trodAll_nil r1
  obtain rfl : args = #[v0, v1] := by cases args; simp_all
  obtain ⟨rfl, rfl⟩ := trodVars_none hV
  obtain ⟨a0, rfl, rfl, rfl, w0⟩ := open_int Tryz.underlying5 (hval 0 5 v0 rfl rfl) h0
  obtain ⟨a1, rfl, rfl, rfl, w1⟩ := open_int Tryz.underlying5 (hval 1 5 v1 rfl rfl) h1
  clear hA0 hval0
  simp only [List.append_nil] at hW'
  refine (walk a0 a1 w0 w1 W).mono fun e W' ⟨he, hg⟩ => ?_
  subst he
  exact ⟨_, rfl, _, _, _, [], [], [], hW', (trodAll_cons_mk (shut_bool Tryz.underlying4 _) trodAll_mk0), (trodAll_cons_mk (shut_int Tryz.underlying5 w0) (trodAll_cons_mk (shut_int Tryz.underlying5 w1) trodAll_mk0)), rfl, hg.frame _, fun h => by cases h⟩

theorem over : Rows.machLimitsRow.holds Tryz.pinned (OpenSpec.ofChange Rows.machLimitsSpec) :=
  OpenClaim.holds_of_wide 7 Tryz.f7 rfl rfl rfl rfl rfl rfl rfl ⟨rfl, rfl, rfl, rfl, rfl⟩ rfl rfl rfl rfl rfl (by kernel_rfl) Tryz.func7 (by kernel_rfl)
    (of_decide_eq_true (by kernel_rfl)) (by unfold Func.isWrapper; first | (rw [if_pos (by decide +kernel)]; kernel_rfl) | (rw [if_neg (by decide +kernel)]; exact ⟨rfl, rfl⟩))
    (fun os started H enc _ => lifted os started H enc)

/-- ████ THE STATEMENT ████ -/
theorem proved : Rows.MachLimitsSaid :=
  over
#print axioms proved
end Go.Proofs.YtceoiimochojeaaGreat.machLimits
