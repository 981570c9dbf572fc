/- What is proved: a switch goes to the entry of the number that a word is without its sign; beyond, and below 0, to the last one (law InterpSwitch): for every number of entries and any word the law answers true. Conditions: none beside those that the given form carries. -/
import Derived.Test.YtcangooibfddmaaRows
import Derived.Test.YtcangooibfddmaaILawS
import Derived.Test.YtcangooibfddmaaHeldR
import Derived.Deep.QuietTactic
import Derived.BigQuiet
import Derived.Deep.DeepCutAuto
import Derived.WalkKit
import Derived.Below
import Derived.ProofKit
import Derived.OpenShut
namespace Go.Proofs.Ytcangooibfddmaa.interpSwitch
open Go.ChangeShapes Go.WideShapes Go.ChangeAt Go.RowKit
set_option linter.unusedVariables false      -- a walk need not use every 'w<i>' (that an integer argument fits its kind)

theorem own : ownKnob Try.prog.godebug = none := by kernel_rfl

open Go.Maps Go.Proofs.Ytcangooibfddmaa.Mem Go.Proofs.Ytcangooibfddmaa.Kc Go.Proofs.Ytcangooibfddmaa.Br Go.Proofs.Ytcangooibfddmaa.Pl Go.Proofs.Ytcangooibfddmaa.Gr Go.Proofs.Ytcangooibfddmaa.Wd Go.Proofs.Ytcangooibfddmaa.Ic
theorem five_set {w : World} {p : Nat} {t : TypeId} {a0 a1 a2 a3 a4 : Value} (h : Str w p t [a0, a1, a2, a3, a4]) (b0 b1 b2 b3 b4 : Value) :
    Str (((((w.setCell ⟨p, 0, none⟩ b0).setCell ⟨p, 1, none⟩ b1).setCell ⟨p, 2, none⟩ b2).setCell ⟨p, 3, none⟩ b3).setCell ⟨p, 4, none⟩ b4) p t [b0, b1, b2, b3, b4] ∧ But p w (((((w.setCell ⟨p, 0, none⟩ b0).setCell ⟨p, 1, none⟩ b1).setCell ⟨p, 2, none⟩ b2).setCell ⟨p, 3, none⟩ b3).setCell ⟨p, 4, none⟩ b4) :=
  ⟨((((h.set 0 b0).set 1 b1).set 2 b2).set 3 b3).set 4 b4, But.five _ _ _ _ _⟩

/-! ### STEP 1: THE WALK: the Go text returns true. 'Below w.heap.size w w'': the world has at most new blocks (Derived/RowKit3.lean). Part the cases AHEAD of 'go_enter' where a test parts the walk; take each callee by a contract of your own. -/
set_option maxRecDepth 100000 in
set_option maxHeartbeats 2000000 in
theorem walk (a0 : Int) (a1 : Int) (w0 : (Lit.int .u8 a0).wf = true) (w1 : (Lit.int .i32 a1).wf = true) (w : World) :
    Calls Try.prog 9 #[.int .u8 a0, .int .i32 a1] w fun e w' => e = .returned (.bool true) ∧ Below w.heap.size w w' := by
  have hv : InW a1 := bounds_i32 w1
  obtain ⟨u0, u1⟩ := bounds_u8 w0
  have HV := Lib.hid hv
  obtain ⟨hv1, hv2⟩ := hv
  obtain ⟨i0, hi, hz0, hz1, hz2⟩ := info_parts info_block
  have HI0 := Lib.hid hi
  have HZ0 := Lib.hid hz0
  have HZ1 := Lib.hid hz1
  have HZ2 := Lib.hid hz2
  obtain ⟨i1, hi, hz0, hz1, hz2⟩ := info_parts info_num
  have HI1 := Lib.hid hi
  have HY0 := Lib.hid hz0
  have HY1 := Lib.hid hz1
  have HY2 := Lib.hid hz2
  clear w0 w1 hi hz0 hz1 hz2
  go_enter Try.func9, Try.ntmps9
  go_wp2_with fail
  refine (shown_any w).mono ?_
  rintro e ws ⟨rfl, hs⟩
  have HBS := Lib.hid hs
  have hzs := hs.size
  clear hs
  go_wp2_with fail
  obtain ⟨many, hmany⟩ : ∃ m : Nat, 1 + a0 % 64 = m := ⟨(1 + a0 % 64).toNat, by omega⟩
  have hm1 : 1 ≤ many := by omega
  have hm2 : many ≤ 64 := by omega
  rw [hmany]
  clear hmany
  obtain ⟨W1, hLW1⟩ : ∃ W, ((ws.alloc (.cells #[.int .i64 0] 3)).alloc (.cells #[.slice none 0 0, .slice none 0 0, .int .i64 3, .slice (some ⟨ws.heap.size, 0, none⟩) 1 1, .slice none 0 0, .int .i32 0] 34)).alloc (.cells #[.int .i64 1, .slice (some ⟨ws.heap.size + 1, 0, none⟩) 1 1] 24) = W := ⟨_, rfl⟩
  rw [hLW1]
  have hMW1 : laid ws [([.int .i64 0], 3), ([.slice none 0 0, .slice none 0 0, .int .i64 3, .slice (some ⟨ws.heap.size, 0, none⟩) 1 1, .slice none 0 0, .int .i32 0], 34), ([.int .i64 1, .slice (some ⟨ws.heap.size + 1, 0, none⟩) 1 1], 24)] = W1 := hLW1
  have hbW1 : Below ws.heap.size ws W1 := by rw [← hMW1]; exact laid_below _ _ _ (Nat.le_refl _)
  have q0 : Str W1 (ws.heap.size) 3 [.int .i64 0] := by rw [← hMW1]; exact laid_at _ ws 0 _ _ rfl
  have q1 : Str W1 (ws.heap.size + 1) 34 [.slice none 0 0, .slice none 0 0, .int .i64 3, .slice (some ⟨ws.heap.size, 0, none⟩) 1 1, .slice none 0 0, .int .i32 0] := by rw [← hMW1]; exact laid_at _ ws 1 _ _ rfl
  have q2 : Str W1 (ws.heap.size + 1 + 1) 24 [.int .i64 1, .slice (some ⟨ws.heap.size + 1, 0, none⟩) 1 1] := by rw [← hMW1]; exact laid_at _ ws 2 _ _ rfl
  have hzW1 : W1.heap.size = ws.heap.size + 3 := by rw [← hMW1]; exact laid_size _ _
  clear hLW1 hMW1
  have HC1 := Lib.hid (show SwAt w.heap.size (ws.heap.size + 1 + 1) ws.heap.size (.slice (some ⟨ws.heap.size + 1, 0, none⟩) 1 1) (.slice none 0 0) 0 0 W1 from {
    box := q2
    row := ⟨headCells ws.heap.size (.slice none 0 0), ⟨rfl, Or.inr ⟨ws.heap.size + 1, 1, _, rfl, by omega, q1, Nat.le_refl _, by unfold maxLen; omega, rfl, rfl⟩⟩, ⟨[], by simp⟩, fun j hj => absurd hj (by omega)⟩
    tos := World.ownsRow_nil _ _ _ _
    arg := q0
    far := ⟨by omega, hzs⟩
    apart := by intro e; cases e })
  have HB1 := Lib.hid (HBS.out.trans (hbW1.mono hzs))
  clear q0 q1 q2 hbW1 hzW1
  obtain ⟨fb, hfb⟩ : ∃ fb, ws.heap.size + 1 + 1 = fb := ⟨_, rfl⟩
  rw [hfb] at HC1 ⊢
  have HFB := Lib.hid hfb
  clear hfb
  go_loopw [8] (fun i wr => ∃ (k : Nat) (vB vT : Value), k ≤ many + 1 ∧ i = .int .i64 k ∧ SwAt w.heap.size fb ws.heap.size vB vT k k wr ∧ Below w.heap.size w wr) (fun i _ => many + 1 - (intOf i).toNat)
  case atStart => exact ⟨0, _, _, by omega, rfl, HC1.out, HB1.out⟩
  case round =>
    obtain ⟨k, vB, vT, hk, rfl, hsw, hb⟩ := hrel
    obtain ⟨wo, rfl⟩ : ∃ wo : World, wo = wr := ⟨_, rfl⟩
    have HSW := Lib.hid hsw
    have HBo := Lib.hid hb
    have hzo := hb.size
    obtain ⟨gB, c, rfl, hc1, hc2, c4, f4, hgb, hgl⟩ := hsw.form
    unfold maxLen at hc2
    have c1 : wo.cell? ⟨fb, 1, none⟩ = some (.slice (some ⟨gB, 0, none⟩) (k + 1) c) := hsw.box.cell 1
    have hfl := hsw.box.lt
    have htl : (tosL k).length = k := by simp [tosL]
    obtain ⟨tA, tc, htf⟩ := own_form hsw.tos
    rw [htl] at htf
    subst htf
    have HTL := Lib.hid htl
    clear hsw hb htl
    by_cases hlt : k ≤ many
    · have hk64 : k ≤ 64 := by omega
      go_wp2_with fail
      have E1 : IntKind.i64.wrap ((k : Int) + 1) = (k : Int) + 1 := IntWalk.i64_in _ (by omega)
      have E2 : RowKit.wrap64 ((k : Int) + 1) = (k : Int) + 1 := by unfold RowKit.wrap64; omega
      refine region_heldT_wp (fun w' => w'.cell? ⟨fb, 1, none⟩ = some (.slice (some ⟨gB, 0, none⟩) (k + 1) c) ∧ w'.cell? ⟨gB, 4, none⟩ = some (.slice tA k tc)) [0, 1, 2, 3, 4, 5, 6, 7, 8, 9, 12, 13, 14] [0, 1, 2, 3, 4, 5, 6, 7, 8, 9, 10, 11, 12, 13, 14, 15] 15 (by kernel_rfl) (by kernel_rfl) (by kernel_rfl) (by kernel_rfl) rfl (by intro c a d v w h; cases d <;> exact h) ⟨c1, c4⟩ ?_
      refine walkH_still _ ?u0 rfl rfl rfl ?uy0 ?_
      case uy0 => intro w hS; go_simp; first | done | with_reducible rfl
      simp only [Act.put]
      refine walkH_still _ ?u1 rfl rfl rfl ?uy1 ?_
      case uy1 => intro w hS; go_simp; first | done | with_reducible rfl
      simp only [Act.put]
      refine walkH_still _ ?u2 rfl rfl rfl ?uy2 ?_
      case uy2 => intro w hS; go_simp; first | done | with_reducible rfl
      simp only [Act.put]
      refine walkH_still _ ?u3 rfl rfl rfl ?uy3 ?_
      case uy3 => intro w hS; go_simp; first | done | with_reducible rfl
      simp only [Act.put]
      refine walkH_still _ ?u4 rfl rfl rfl ?uy4 ?_
      case uy4 => intro w hS; go_simp; first | done | with_reducible rfl
      simp only [Act.put]
      refine walkH_still _ ?u5 rfl rfl rfl ?uy5 ?_
      case uy5 => intro w hS; go_simp; first | done | with_reducible rfl
      simp only [Act.put]
      refine walkH_still _ ?u6 rfl rfl rfl ?uy6 ?_
      case uy6 => intro w hS; go_simp; first | done | with_reducible rfl
      simp only [Act.put]
      refine walkH_still _ ?u7 rfl rfl rfl ?uy7 ?_
      case uy7 => intro w hS; go_simp; first | done | with_reducible rfl
      simp only [Act.put]
      refine walkH_still _ ?u8 rfl rfl rfl ?uy8 ?_
      case uy8 => intro w hS; go_simp; first | done | with_reducible rfl
      simp only [Act.put]
      refine walkH_still _ ?u9 rfl rfl rfl ?uy9 ?_
      case uy9 => intro w hS; go_simp; first | done | with_reducible rfl
      simp only [Act.put]
      try simp only [List.setIfInBounds_toArray, List.set_cons_zero, List.set_cons_succ]
      refine walkHd _ rfl rfl ?_
      go_wp2
      clear E1 E2
      obtain ⟨W2, hW2⟩ : ∃ W2, (wo.alloc (.cells #[.int .i64 ((k : Int) + 1)] 3)).drew = W2 := ⟨_, rfl⟩
      rw [hW2]
      have hb2 : Below wo.heap.size wo W2 := by rw [← hW2]; exact ((Below.refl _ _).alloc (Nat.le_refl _) _).drew
      have hs2 : Str W2 wo.heap.size 3 [.int .i64 ((k : Int) + 1)] := by rw [← hW2]; exact World.alloc_heap_new wo _
      have c12 := cell_keep hb2 (Nat.le_refl _) c1
      have c42 := cell_keep hb2 (Nat.le_refl _) c4
      have HS2 := Lib.hid hs2
      have HB2 := Lib.hid hb2
      have hz2 := hb2.size
      have HSW2 := Lib.hid (HSW.out.below hb2)
      clear hW2 hb2 hs2
      refine behindH (Or.inl ⟨c12, c42⟩) ?_
      try simp only [List.setIfInBounds_toArray, List.set_cons_zero, List.set_cons_succ]
      refine walkHd _ rfl rfl ?_
      refine wpList_append1 rfl _ _ _ rfl w.heap.size 3 i1 (.int .i64 0) 8 Try.underlying28 HI1.out HY0.out HY1.out HY2.out rfl (.slice tA k tc) (tosL k).length ((tosL k).map (Value.int .i64)) rfl HSW2.out.tos ⟨wo.heap.size, 0, none⟩ (.int .i64 ((k : Int) + 1)) rfl (HS2.out.cell 0) rfl (by rw [HTL.out]; omega) (by omega) (by omega) ?_
      intro v3 w3 hr3 hg3 hm3
      obtain ⟨t1, t2, t3, t4⟩ := HSW.out.toed HB2.out hr3 hg3 hm3
      obtain ⟨vA, vc, hvf⟩ := own_form hr3
      rw [HTL.out] at hvf
      subst hvf
      have HT4 := Lib.hid t4
      have HBX := Lib.hid (below_of_own (HBo.out.trans (HB2.out.mono hzo)) hg3 (fun g hg => (HSW2.out.tos.lt g hg).1))
      clear hr3 hg3 hm3 t4
      refine wpList_nil (behindH (Or.inl ⟨t3, t1⟩) ?_)
      refine walkH_still _ ?q12 rfl rfl rfl ?qy12 ?_
      case qy12 => intro w hS; go_simp; first | done | with_reducible rfl
      simp only [Act.put]
      refine walkH_still _ ?q13 rfl rfl rfl ?qy13 ?_
      case qy13 => intro w hS; go_simp; first | done | with_reducible rfl
      simp only [Act.put]
      refine walkH_still _ ?q14 rfl rfl rfl ?qy14 ?_
      case qy14 => intro w hS; go_simp; first | done | with_reducible rfl
      simp only [Act.put]
      try simp only [List.setIfInBounds_toArray, List.set_cons_zero, List.set_cons_succ]
      refine walkHd _ rfl rfl ?_
      go_wp2
      refine behindH (Or.inr rfl) (walkH_nil ?_)
      obtain ⟨W4, hW4⟩ : ∃ W4, w3.setCell ⟨gB, 4, none⟩ (.slice vA (k + 1) vc) = W4 := ⟨_, rfl⟩
      have ht4 := HT4.out
      rw [hW4] at ht4 ⊢
      have HBX4 := Lib.hid (show Below w.heap.size w W4 by rw [← hW4]; exact HBX.out.setCell (p := ⟨gB, 4, none⟩) (by show w.heap.size ≤ gB; omega) _)
      have hz4 := HBX4.out.size
      have HSW4 := Lib.hid ht4
      have c14 : W4.cell? ⟨fb, 1, none⟩ = some (.slice (some ⟨gB, 0, none⟩) (k + 1) c) := ht4.box.cell 1
      clear hW4 ht4 HT4 HBX t1 t2 t3 c12 c42
      obtain ⟨W5, hLW5⟩ : ∃ W, W4.alloc (.cells #[.slice none 0 0, .slice none 0 0, .int .i64 5, .slice none 0 0, .slice none 0 0, .int .i32 k] 34) = W := ⟨_, rfl⟩
      have hMW5 : laid W4 [([.slice none 0 0, .slice none 0 0, .int .i64 5, .slice none 0 0, .slice none 0 0, .int .i32 k], 34)] = W5 := hLW5
      have hbW5 : Below W4.heap.size W4 W5 := by rw [← hMW5]; exact laid_below _ _ _ (Nat.le_refl _)
      have p0 : Str W5 (W4.heap.size) 34 [.slice none 0 0, .slice none 0 0, .int .i64 5, .slice none 0 0, .slice none 0 0, .int .i32 k] := by rw [← hMW5]; exact laid_at _ W4 0 _ _ rfl
      have hzW5 : W5.heap.size = W4.heap.size + 1 := by rw [← hMW5]; exact laid_size _ _
      clear hMW5
      obtain ⟨es, h1, he, h3⟩ := (HSW4.out.below hbW5).row
      have HLW := Lib.hid hLW5
      have HP0 := Lib.hid p0
      have HE1 := Lib.hid h1
      have HE := Lib.hid he
      have HE3 := Lib.hid h3
      have HB5 := Lib.hid hbW5
      have hz5 := hbW5.size
      clear hLW5 p0 h1 he h3 hbW5 hzW5
      go_wp2_with (at_builtin; rw [HLW.out]; refine wpList_appendM rfl _ _ _ rfl w.heap.size 34 i0 (.agg #[.slice none 0 0, .slice none 0 0, .int .i64 0, .slice none 0 0, .slice none 0 0, .int .i32 0]) 6 112 Try.underlying22 HI0.out HZ0.out HZ1.out HZ2.out rfl (by decide) (.slice (some ⟨gB, 0, none⟩) (k + 1) c) (k + 1) es rfl HE1.out ⟨W4.heap.size, 0, none⟩ (trapCells k) rfl rfl ?news ?one (by omega) (by omega) (by omega) ?_)
      case news =>
        intro j u hj
        rw [at_add0, HP0.out.cell j]
        exact hj
      case one =>
        intro u hu
        simp only [trapCells, List.mem_cons, List.not_mem_nil, or_false] at hu
        rcases hu with rfl | rfl | rfl | rfl | rfl | rfl <;> rfl
      intro v6 w6 hr6 hg6 hm6
      obtain ⟨t1, t2, t3⟩ := HSW4.out.blocked HB5.out HE1.out HE.out HE3.out hr6 hg6
      obtain ⟨bA, bc, rfl⟩ := own_form hr6
      have HT := Lib.hid t3
      have HB6 := Lib.hid (below_of_own (HBX4.out.trans (HB5.out.mono hz4)) hg6 (fun g hg => (HE1.out.lt g hg).1))
      have hfw : w.heap.size ≤ fb := HSW4.out.far.1
      clear hr6 hg6 hm6 t3
      go_wp2
      exact ⟨⟨k + 1, _, _, by omega, by go_num, HT.out, HB6.out.setCell (p := ⟨fb, 1, none⟩) hfw _⟩, by simp [intOf]; omega⟩
    · obtain rfl : k = many + 1 := by omega
      have hlt' : (many : Int) < ((many + 1 : Nat) : Int) := by omega
      clear c4 f4
      go_wp2_with fail
      obtain ⟨x, hx⟩ : ∃ x, a1 % 4294967296 % 70 = x := ⟨_, rfl⟩
      have hxw : InW x := ⟨by omega, by omega⟩
      obtain ⟨y, hy⟩ : ∃ y, (many : Int) - 1 = y := ⟨_, rfl⟩
      have hyw : InW y := ⟨by omega, by omega⟩
      rw [hx, hy]
      clear hx hy
      obtain ⟨gL, hgL⟩ : ∃ gL, wo.heap.size = gL := ⟨_, rfl⟩
      obtain ⟨W5, hLW5⟩ : ∃ W, wo.alloc (.cells #[.int .i32 a1, .int .i32 x, .int .i32 many, .int .i32 y, .int .i32 (-1)] 21) = W := ⟨_, rfl⟩
      rw [hLW5]
      have hMW5 : laid wo [([.int .i32 a1, .int .i32 x, .int .i32 many, .int .i32 y, .int .i32 (-1)], 21)] = W5 := hLW5
      have hbW5 : Below wo.heap.size wo W5 := by rw [← hMW5]; exact laid_below _ _ _ (Nat.le_refl _)
      have p0 : Str W5 (wo.heap.size) 21 [.int .i32 a1, .int .i32 x, .int .i32 many, .int .i32 y, .int .i32 (-1)] := by rw [← hMW5]; exact laid_at _ wo 0 _ _ rfl
      have hzW5 : W5.heap.size = wo.heap.size + 1 := by rw [← hMW5]; exact laid_size _ _
      clear hLW5 hMW5
      rw [hgL] at p0 ⊢
      have hgL2 : fb < gL := by omega
      have hgL3 : w.heap.size ≤ gL := by omega
      obtain ⟨gB', hgB', hbl⟩ := (HSW.out.below hbW5).blocks
      injection hgB' with hgB'
      injection hgB' with hgB'
      subst hgB'
      have HFW := Lib.hid hbl
      have HDW := Lib.hid (HSW.out.below hbW5).box
      have HLL := Lib.hid (show Str W5 gL 21 ([a1, x, (many : Int), y, -1].map (Value.int .i32)) from p0)
      have HLW := Lib.hid (show ∀ z ∈ [a1, x, (many : Int), y, -1], InW z from fun z hz => by
        simp only [List.mem_cons, List.not_mem_nil, or_false] at hz
        rcases hz with rfl | rfl | rfl | rfl | rfl
        · exact ⟨hv1, hv2⟩
        · exact hxw
        · exact ⟨by omega, by omega⟩
        · exact hyw
        · exact ⟨by omega, by omega⟩)
      have HB5 := Lib.hid (HBo.out.trans (hbW5.mono hzo))
      have hz5 := Nat.le_trans hzo hbW5.size
      have hL5 : gL < W5.heap.size := p0.lt
      clear p0 hbW5 hzW5 hbl hgL c1
      go_loopw [10, 11, 12] (fun i _ _ wr => ∃ k : Nat, k ≤ 5 ∧ i = .int .i64 k ∧ Below W5.heap.size W5 wr) (fun i _ _ _ => 5 - (intOf i).toNat)
      case atStart => exact ⟨0, by omega, rfl, Below.refl _ _⟩
      case round =>
        obtain ⟨k, hk, rfl, hb⟩ := hrel
        obtain ⟨wo', rfl⟩ : ∃ wo' : World, wo' = wr := ⟨_, rfl⟩
        have HBq := Lib.hid hb
        have hzq := hb.size
        by_cases hlt2 : k < 5
        · obtain ⟨v, hv⟩ : ∃ v, [a1, x, (many : Int), y, -1][k]? = some v := ⟨_, List.getElem?_eq_getElem (by simpa using hlt2)⟩
          have HVW := Lib.hid (HLW.out v (List.mem_of_getElem? hv))
          have hvw := HVW.out
          obtain ⟨vb1, vb2⟩ := hvw
          have lk : wo'.cell? ⟨gL, k, none⟩ = some (.int .i32 v) := by rw [(HLL.out.below hb).cell k, List.getElem?_map, hv]; rfl
          have d0 : wo'.cell? ⟨fb, 0, none⟩ = some (.int .i64 1) := (HDW.out.below hb).cell 0
          have d1 : wo'.cell? ⟨fb, 1, none⟩ = some (.slice (some ⟨gB, 0, none⟩) (many + 1 + 1) c) := (HDW.out.below hb).cell 1
          have HFN := HFW
          have HVK := Lib.hid hv
          clear hb hv
          go_upto_region 13 with (fail)
          go_cut [11] (fun s11 wx => ∃ p : Nat, s11 = .pointer (some ⟨p, 0, none⟩) ∧ (∃ mA mn mc cA cn ck, Str wx p 45 [.int .i64 2, .int .i32 (switchV many v), .slice mA mn mc, .slice cA cn ck, .int .i64 2]) ∧ Below W5.heap.size W5 wx)
          case first =>
            refine region_heldR_wp (fun w' => w'.cell? ⟨fb, 0, none⟩ = some (.int .i64 1) ∧ w'.cell? ⟨fb, 1, none⟩ = some (.slice (some ⟨gB, 0, none⟩) (many + 1 + 1) c) ∧ w'.cell? ⟨gL, k, none⟩ = some (.int .i32 v)) [0, 1, 2, 3, 4, 6] (.step 0 (.step 1 (.step 2 (.step 3 (.step 4 (.fork 5 8 (.step 6 (.fork 7 8 (.step 8 (.step 9 .done)) (.step 7 (.step 9 .done)))) (.step 5 (.step 6 (.step 7 (.step 9 .done)))))))))) (by kernel_rfl) (by kernel_rfl) (by kernel_rfl) rfl (by intro c a d v w h; cases d <;> exact h) ⟨d0, d1, lk⟩ ?_
            refine walkR_still _ ?t0 rfl rfl rfl ?ty0 ?_
            case ty0 => intro w hS; go_simp; first | done | with_reducible rfl
            simp only [Act.put]
            refine walkR_still _ ?t1 rfl rfl rfl ?ty1 ?_
            case ty1 => intro w hS; go_simp; first | done | with_reducible rfl
            simp only [Act.put]
            refine walkR_still _ ?t2 rfl rfl rfl ?ty2 ?_
            case ty2 => intro w hS; go_simp; first | done | with_reducible rfl
            simp only [Act.put]
            refine walkR_still _ ?t3 rfl rfl rfl ?ty3 ?_
            case ty3 => intro w hS; go_simp; first | done | with_reducible rfl
            simp only [Act.put]
            refine walkR_still _ ?t4 rfl rfl rfl ?ty4 ?_
            case ty4 => intro w hS; go_simp; first | done | with_reducible rfl
            simp only [Act.put]
            try simp only [List.setIfInBounds_toArray, List.set_cons_zero, List.set_cons_succ]
            refine walkR_fork _ _ rfl rfl ?fa ?fb
            case fa =>
              go_wp2
              obtain ⟨W2, hW2⟩ : ∃ W, (wo'.alloc (.cells #[.int .i32 v] 21)).drew = W := ⟨_, rfl⟩
              rw [hW2]
              have hbW2 : Below wo'.heap.size wo' W2 := by rw [← hW2]; exact ((Below.refl _ _).alloc (Nat.le_refl _) _).drew
              have hsW2 : Str W2 wo'.heap.size 21 [.int .i32 v] := by rw [← hW2]; exact World.alloc_heap_new wo' _
              clear hW2
              have d02 := cell_keep hbW2 (Nat.le_refl _) d0
              have d12 := cell_keep hbW2 (Nat.le_refl _) d1
              have lk2 := cell_keep hbW2 (Nat.le_refl _) lk
              refine behindR ⟨d02, d12, lk2⟩ ?_
              refine walkR_still _ ?r6 rfl rfl rfl ?ry6 ?_
              case ry6 => intro w hS; go_simp; first | done | with_reducible rfl
              simp only [Act.put]
              try simp only [List.setIfInBounds_toArray, List.set_cons_zero, List.set_cons_succ]
              refine walkR_fork _ _ rfl rfl ?ga ?gb
              case ga =>
                go_wp2_with fail
                refine (run_switch W2 gB c many ⟨hm1, hm2⟩ v HVW.out (HFN.out.keep (HBq.out.trans (hbW2.mono hzq))) _ (words1 hsW2 ⟨by omega, fits (by omega)⟩)).mono ?_
                rintro e w7 ⟨mem, calls, mA, mn, mc, cA, cn, ck, rfl, _, _, hb7⟩
                go_wp2
                have d07 := cell_keep hb7 (Nat.le_refl _) d02
                have d17 := cell_keep hb7 (Nat.le_refl _) d12
                have lk7 := cell_keep hb7 (Nat.le_refl _) lk2
                refine behindR ⟨d07, d17, lk7⟩ ?_
                try simp only [List.setIfInBounds_toArray, List.set_cons_zero, List.set_cons_succ]
                refine walkR_does _ rfl rfl ?_
                go_wp2
                obtain ⟨W8, hW8⟩ : ∃ W, w7.alloc (.cells #[.int .i64 0, .int .i32 0, .slice none 0 0, .slice none 0 0, .int .i64 0] 45) = W := ⟨_, rfl⟩
                rw [hW8]
                have hbW8 : Below w7.heap.size w7 W8 := by rw [← hW8]; exact (Below.refl _ _).alloc (Nat.le_refl _) _
                have hxW8 : Str W8 w7.heap.size 45 [.int .i64 0, .int .i32 0, .slice none 0 0, .slice none 0 0, .int .i64 0] := by rw [← hW8]; exact World.alloc_heap_new w7 _
                clear hW8
                have d08 := cell_keep hbW8 (Nat.le_refl _) d07
                have d18 := cell_keep hbW8 (Nat.le_refl _) d17
                have lk8 := cell_keep hbW8 (Nat.le_refl _) lk7
                refine behindR ⟨d08, d18, lk8⟩ ?_
                have z0 := (hxW8).cell 0
                have y0 := (hxW8).frozen 0
                have z1 := (hxW8).cell 1
                have y1 := (hxW8).frozen 1
                have z2 := (hxW8).cell 2
                have y2 := (hxW8).frozen 2
                have z3 := (hxW8).cell 3
                have y3 := (hxW8).frozen 3
                have z4 := (hxW8).cell 4
                have y4 := (hxW8).frozen 4
                have HST := Lib.hid (hxW8)
                have HBE := Lib.hid (((HBq.out.trans (hbW2.mono hzq)).trans (hb7.mono (Nat.le_trans hzq hbW2.size))).trans (hbW8.mono (Nat.le_trans (Nat.le_trans hzq hbW2.size) hb7.size)))
                try simp only [List.setIfInBounds_toArray, List.set_cons_zero, List.set_cons_succ]
                refine walkR_does _ rfl rfl ?_
                go_wp2
                obtain ⟨f1, f2⟩ := five_set HST.out (.int .i64 2) (.int .i32 (switchV many v)) (.slice mA mn mc) (.slice cA cn ck) (.int .i64 2)
                have HF1 := Lib.hid f1
                have HF2 := Lib.hid f2
                have fl := f1.lt
                clear f1 f2 z0 z1 z2 z3 z4 y0 y1 y2 y3 y4
                refine behindR ⟨HF2.out.cell d08 (by show fb ≠ w7.heap.size; (have := hbW2.size; have := hb7.size; omega)), HF2.out.cell d18 (by show fb ≠ w7.heap.size; (have := hbW2.size; have := hb7.size; omega)), HF2.out.cell lk8 (by show gL ≠ w7.heap.size; (have := hbW2.size; have := hb7.size; omega))⟩ (walkR_done ?_)
                go_wp2_with fail
                go_meet
                exact ⟨_, rfl, ⟨_, _, _, _, _, _, HF1.out⟩, HBE.out.trans (below_of_but HF2.out (by (have := hbW2.size; have := hb7.size; omega)) HBE.out.size)⟩
              case gb =>
                go_wp2
                obtain ⟨W3, hW3⟩ : ∃ W, W2.alloc (.cells #[.int .i64 0, .int .i32 0, .slice none 0 0, .slice none 0 0, .int .i64 0] 45) = W := ⟨_, rfl⟩
                rw [hW3]
                have hbW3 : Below W2.heap.size W2 W3 := by rw [← hW3]; exact (Below.refl _ _).alloc (Nat.le_refl _) _
                have hxW3 : Str W3 W2.heap.size 45 [.int .i64 0, .int .i32 0, .slice none 0 0, .slice none 0 0, .int .i64 0] := by rw [← hW3]; exact World.alloc_heap_new W2 _
                clear hW3
                have d03 := cell_keep hbW3 (Nat.le_refl _) d02
                have d13 := cell_keep hbW3 (Nat.le_refl _) d12
                have lk3 := cell_keep hbW3 (Nat.le_refl _) lk2
                refine behindR ⟨d03, d13, lk3⟩ ?_
                try simp only [List.setIfInBounds_toArray, List.set_cons_zero, List.set_cons_succ]
                refine walkR_does _ rfl rfl ?_
                go_wp2_with fail
                refine (run_switch W3 gB c many ⟨hm1, hm2⟩ v HVW.out (HFN.out.keep ((HBq.out.trans (hbW2.mono hzq)).trans (hbW3.mono (Nat.le_trans hzq hbW2.size)))) _ (words1 (hsW2.below hbW3) ⟨by omega, fits (by omega)⟩)).mono ?_
                rintro e w7 ⟨mem, calls, mA, mn, mc, cA, cn, ck, rfl, _, _, hb7⟩
                go_wp2
                have d07 := cell_keep hb7 (Nat.le_refl _) d03
                have d17 := cell_keep hb7 (Nat.le_refl _) d13
                have lk7 := cell_keep hb7 (Nat.le_refl _) lk3
                refine behindR ⟨d07, d17, lk7⟩ ?_
                have z0 := (hxW3.below hb7).cell 0
                have y0 := (hxW3.below hb7).frozen 0
                have z1 := (hxW3.below hb7).cell 1
                have y1 := (hxW3.below hb7).frozen 1
                have z2 := (hxW3.below hb7).cell 2
                have y2 := (hxW3.below hb7).frozen 2
                have z3 := (hxW3.below hb7).cell 3
                have y3 := (hxW3.below hb7).frozen 3
                have z4 := (hxW3.below hb7).cell 4
                have y4 := (hxW3.below hb7).frozen 4
                have HST := Lib.hid (hxW3.below hb7)
                have HBE := Lib.hid (((HBq.out.trans (hbW2.mono hzq)).trans (hbW3.mono (Nat.le_trans hzq hbW2.size))).trans (hb7.mono (Nat.le_trans (Nat.le_trans hzq hbW2.size) hbW3.size)))
                try simp only [List.setIfInBounds_toArray, List.set_cons_zero, List.set_cons_succ]
                refine walkR_does _ rfl rfl ?_
                go_wp2
                obtain ⟨f1, f2⟩ := five_set HST.out (.int .i64 2) (.int .i32 (switchV many v)) (.slice mA mn mc) (.slice cA cn ck) (.int .i64 2)
                have HF1 := Lib.hid f1
                have HF2 := Lib.hid f2
                have fl := f1.lt
                clear f1 f2 z0 z1 z2 z3 z4 y0 y1 y2 y3 y4
                refine behindR ⟨HF2.out.cell d07 (by show fb ≠ W2.heap.size; (have := hbW2.size; omega)), HF2.out.cell d17 (by show fb ≠ W2.heap.size; (have := hbW2.size; omega)), HF2.out.cell lk7 (by show gL ≠ W2.heap.size; (have := hbW2.size; omega))⟩ (walkR_done ?_)
                go_wp2_with fail
                go_meet
                exact ⟨_, rfl, ⟨_, _, _, _, _, _, HF1.out⟩, HBE.out.trans (below_of_but HF2.out (by (have := hbW2.size; omega)) HBE.out.size)⟩
            case fb =>
              go_wp2
              obtain ⟨W2, hW2⟩ : ∃ W, (wo'.alloc (.cells #[.int .i64 0, .int .i32 0, .slice none 0 0, .slice none 0 0, .int .i64 0] 45)).drew = W := ⟨_, rfl⟩
              rw [hW2]
              have hbW2 : Below wo'.heap.size wo' W2 := by rw [← hW2]; exact ((Below.refl _ _).alloc (Nat.le_refl _) _).drew
              have hxW2 : Str W2 wo'.heap.size 45 [.int .i64 0, .int .i32 0, .slice none 0 0, .slice none 0 0, .int .i64 0] := by rw [← hW2]; exact World.alloc_heap_new wo' _
              clear hW2
              have d02 := cell_keep hbW2 (Nat.le_refl _) d0
              have d12 := cell_keep hbW2 (Nat.le_refl _) d1
              have lk2 := cell_keep hbW2 (Nat.le_refl _) lk
              refine behindR ⟨d02, d12, lk2⟩ ?_
              try simp only [List.setIfInBounds_toArray, List.set_cons_zero, List.set_cons_succ]
              refine walkR_does _ rfl rfl ?_
              go_wp2
              obtain ⟨W3, hW3⟩ : ∃ W, W2.alloc (.cells #[.int .i32 v] 21) = W := ⟨_, rfl⟩
              rw [hW3]
              have hbW3 : Below W2.heap.size W2 W3 := by rw [← hW3]; exact (Below.refl _ _).alloc (Nat.le_refl _) _
              have hsW3 : Str W3 W2.heap.size 21 [.int .i32 v] := by rw [← hW3]; exact World.alloc_heap_new W2 _
              clear hW3
              have d03 := cell_keep hbW3 (Nat.le_refl _) d02
              have d13 := cell_keep hbW3 (Nat.le_refl _) d12
              have lk3 := cell_keep hbW3 (Nat.le_refl _) lk2
              refine behindR ⟨d03, d13, lk3⟩ ?_
              refine walkR_still _ ?s6 rfl rfl rfl ?sy6 ?_
              case sy6 => intro w hS; go_simp; first | done | with_reducible rfl
              simp only [Act.put]
              try simp only [List.setIfInBounds_toArray, List.set_cons_zero, List.set_cons_succ]
              refine walkR_does _ rfl rfl ?_
              go_wp2_with fail
              refine (run_switch W3 gB c many ⟨hm1, hm2⟩ v HVW.out (HFN.out.keep ((HBq.out.trans (hbW2.mono hzq)).trans (hbW3.mono (Nat.le_trans hzq hbW2.size)))) _ (words1 hsW3 ⟨by omega, fits (by omega)⟩)).mono ?_
              rintro e w7 ⟨mem, calls, mA, mn, mc, cA, cn, ck, rfl, _, _, hb7⟩
              go_wp2
              have d07 := cell_keep hb7 (Nat.le_refl _) d03
              have d17 := cell_keep hb7 (Nat.le_refl _) d13
              have lk7 := cell_keep hb7 (Nat.le_refl _) lk3
              refine behindR ⟨d07, d17, lk7⟩ ?_
              have z0 := ((hxW2.below hbW3).below hb7).cell 0
              have y0 := ((hxW2.below hbW3).below hb7).frozen 0
              have z1 := ((hxW2.below hbW3).below hb7).cell 1
              have y1 := ((hxW2.below hbW3).below hb7).frozen 1
              have z2 := ((hxW2.below hbW3).below hb7).cell 2
              have y2 := ((hxW2.below hbW3).below hb7).frozen 2
              have z3 := ((hxW2.below hbW3).below hb7).cell 3
              have y3 := ((hxW2.below hbW3).below hb7).frozen 3
              have z4 := ((hxW2.below hbW3).below hb7).cell 4
              have y4 := ((hxW2.below hbW3).below hb7).frozen 4
              have HST := Lib.hid ((hxW2.below hbW3).below hb7)
              have HBE := Lib.hid (((HBq.out.trans (hbW2.mono hzq)).trans (hbW3.mono (Nat.le_trans hzq hbW2.size))).trans (hb7.mono (Nat.le_trans (Nat.le_trans hzq hbW2.size) hbW3.size)))
              try simp only [List.setIfInBounds_toArray, List.set_cons_zero, List.set_cons_succ]
              refine walkR_does _ rfl rfl ?_
              go_wp2
              obtain ⟨f1, f2⟩ := five_set HST.out (.int .i64 2) (.int .i32 (switchV many v)) (.slice mA mn mc) (.slice cA cn ck) (.int .i64 2)
              have HF1 := Lib.hid f1
              have HF2 := Lib.hid f2
              have fl := f1.lt
              clear f1 f2 z0 z1 z2 z3 z4 y0 y1 y2 y3 y4
              refine behindR ⟨HF2.out.cell d07 (by show fb ≠ wo'.heap.size; omega), HF2.out.cell d17 (by show fb ≠ wo'.heap.size; omega), HF2.out.cell lk7 (by show gL ≠ wo'.heap.size; omega)⟩ (walkR_done ?_)
              go_wp2_with fail
              go_meet
              exact ⟨_, rfl, ⟨_, _, _, _, _, _, HF1.out⟩, HBE.out.trans (below_of_but HF2.out (by omega) HBE.out.size)⟩
          case rest =>
            obtain ⟨p, rfl, ⟨mA, mn, mc, cA, cn, ck, hst⟩, hbx⟩ := hcut
            have q0 := hst.cell 0
            have q1 := hst.cell 1
            have q4 := hst.cell 4
            have lk := (HLL.out.below hbx).cell k
            rw [List.getElem?_map, HVK.out] at lk
            simp only [List.getElem?_cons_succ, List.getElem?_cons_zero, Option.map_some] at q0 q1 q4 lk
            have HBX := Lib.hid hbx
            clear hst hbx d0 d1
            have hcase : v < 0 ∨ (0 ≤ v ∧ v < many) ∨ (0 ≤ v ∧ (many : Int) ≤ v) := by omega
            rcases hcase with hc | ⟨hc, hd⟩ | ⟨hc, hd⟩
            · rw [show switchV many v = many by unfold switchV; rw [if_neg (by omega)]] at q1
              go_wp2_with fail
              exact ⟨⟨k + 1, by omega, by go_num, HBX.out⟩, by simp [intOf]; omega⟩
            · rw [show switchV many v = v by unfold switchV; rw [if_pos ⟨hc, hd⟩]] at q1
              go_wp2_with fail
              exact ⟨⟨k + 1, by omega, by go_num, HBX.out⟩, by simp [intOf]; omega⟩
            · rw [show switchV many v = many by unfold switchV; rw [if_neg (by omega)]] at q1
              go_wp2_with fail
              exact ⟨⟨k + 1, by omega, by go_num, HBX.out⟩, by simp [intOf]; omega⟩
        · obtain rfl : k = 5 := by omega
          clear hb
          go_wp2_with fail
          go_ret
          exact ⟨rfl, HB5.out.trans (HBq.out.mono hz5)⟩

/-! ### THE ROW's STEP: WRITTEN OUT: LEAVE IT -/
set_option maxRecDepth 100000 in
theorem lifted (os : Os) (started : os.Started) (H : Type) (enc : TypeId × Value → H) :
    ReturnsInHanded {} Try.checked os 9 .any (Rows.interpSwitchSpec.pre6 enc Try.prog Try.f9 Rows.interpSwitchRow.domain false) (Rows.interpSwitchSpec.post enc Try.prog Try.f9 false true false false) := by
  refine returnsInHanded_of_change (C := Try.checked) own started (by kernel_rfl) Try.func9
    (ChangeSpec.witness6 (enc := enc) (C := Try.checked) false ⟨#[], #[.int .u8 0, .int .i32 0], []⟩ 8 (by kernel_rfl) (by kernel_rfl) (by kernel_rfl) (by kernel_rfl)) ?_
  intro W base args ds gs before hval0 hW hcnd _
  have hval : ∀ (j : Nat) t v, Try.f9.params[j]? = some t → args[j]? = some v → Value.okWide Try.prog W .any base t v := hval0
  have hW' := hW
  obtain ⟨p, q, hA0, hV, rfl, hfz, hnd⟩ := hW
  have hA : DataW.TrodAll enc Try.prog W 0 (fun _ => true) true Try.f9.params.toList args.toList ds p := hA0
  rw [Try.params9] at hA hval
  obtain ⟨v0, vs0, d0, ds0, p0, q0, hargs, rfl, rfl, h0, r0⟩ := trodAll_cons hA
  obtain ⟨v1, vs1, d1, ds1, p1, q1, rfl, rfl, rfl, h1, r1⟩ := trodAll_cons r0
  obtain ⟨rfl, rfl, rfl⟩ := trodAll_nil r1
  obtain rfl : args = #[v0, v1] := by cases args; simp_all
  obtain ⟨rfl, rfl⟩ := trodVars_none hV
  obtain ⟨a0, rfl, rfl, rfl, w0⟩ := open_int Try.underlying5 (hval 0 5 v0 rfl rfl) h0
  obtain ⟨a1, rfl, rfl, rfl, w1⟩ := open_int Try.underlying21 (hval 1 21 v1 rfl rfl) h1
  clear hA0 hval0
  simp only [List.append_nil] at hW'
  refine (walk a0 a1 w0 w1 W).mono fun e W' ⟨he, hg⟩ => ?_
  subst he
  exact ⟨_, rfl, _, _, _, [], [], [], hW', (trodAll_cons_mk (shut_bool Try.underlying4 _) trodAll_mk0), (trodAll_cons_mk (shut_int Try.underlying5 w0) (trodAll_cons_mk (shut_int Try.underlying21 w1) trodAll_mk0)), rfl, hg.frame _, fun h => by cases h⟩

theorem over : Rows.interpSwitchRow.holds Try.pinned (OpenSpec.ofChange Rows.interpSwitchSpec) :=
  OpenClaim.holds_of_wide 9 Try.f9 rfl rfl rfl rfl rfl rfl rfl ⟨rfl, rfl, rfl, rfl, rfl⟩ rfl rfl rfl rfl rfl (by kernel_rfl) Try.func9 (by kernel_rfl)
    (of_decide_eq_true (by kernel_rfl)) (by unfold Func.isWrapper; first | (rw [if_pos (by decide +kernel)]; kernel_rfl) | (rw [if_neg (by decide +kernel)]; exact ⟨rfl, rfl⟩))
    (fun os started H enc _ => lifted os started H enc)

/-- ████ THE STATEMENT ████ -/
theorem proved : Rows.InterpSwitchSaid :=
  over
#print axioms proved
end Go.Proofs.Ytcangooibfddmaa.interpSwitch
