/- Stage 4: InterpSame's walk. -/
import Derived.Test.YtcangooibfddmaaIMine
import Derived.Test.YtcangooibfddmaaISameR
namespace Go.Proofs.Ytcangooibfddmaa.Ic
open Go.ChangeShapes Go.WideShapes Go.ChangeAt Go.RowKit Go.Maps Go.Proofs.Ytcangooibfddmaa.Mem Go.Proofs.Ytcangooibfddmaa.Kc Go.Proofs.Ytcangooibfddmaa.Br Go.Proofs.Ytcangooibfddmaa.Pl Go.Proofs.Ytcangooibfddmaa.Gr
set_option linter.unusedVariables false
set_option maxRecDepth 100000 in
set_option maxHeartbeats 4000000 in
theorem sameLaw_any (w : World) (mva cva mvb cvb : Value) (a b : POut) (k : Int) (hk : 0 ≤ k ∧ k < 256) (ha : OutAt w mva cva a) (hb : OutAt w mvb cvb b) :
    Calls Try.prog 11 #[.agg #[.int .i64 a.how, .int .i32 a.val, mva, cva, .int .i64 a.steps], .agg #[.int .i64 b.how, .int .i32 b.val, mvb, cvb, .int .i64 b.steps], .int .u8 k] w (TellsB true w) := by
  have HA := Lib.hid ha
  have HB := Lib.hid hb
  obtain ⟨Aa, aa, rfl, _⟩ := id ha.mem
  obtain ⟨Ca, ca, _, _, rfl, _⟩ := id ha.calls
  obtain ⟨Ab, ab, rfl, _⟩ := id hb.mem
  obtain ⟨Cb, cb, _, _, rfl, _⟩ := id hb.calls
  clear ha hb
  obtain ⟨pa, hpa⟩ : ∃ c, cutO a = c := ⟨_, rfl⟩
  obtain ⟨pb, hpb⟩ : ∃ c, cutO b = c := ⟨_, rfl⟩
  have HPA := Lib.hid hpa
  have HPB := Lib.hid hpb
  clear hpa hpb
  go_enter Try.func11, Try.ntmps11
  go_upto_region 1 with (fail)
  obtain ⟨W, hLW⟩ : ∃ W, (w.alloc (.cells #[.int .i64 a.how, .int .i32 a.val, .slice Aa a.mem.length aa, .slice Ca a.calls.length ca, .int .i64 a.steps] 45)).alloc (.cells #[.int .i64 b.how, .int .i32 b.val, .slice Ab b.mem.length ab, .slice Cb b.calls.length cb, .int .i64 b.steps] 45) = W := ⟨_, rfl⟩
  rw [hLW]
  have hMW : laid w [([.int .i64 a.how, .int .i32 a.val, .slice Aa a.mem.length aa, .slice Ca a.calls.length ca, .int .i64 a.steps], 45), ([.int .i64 b.how, .int .i32 b.val, .slice Ab b.mem.length ab, .slice Cb b.calls.length cb, .int .i64 b.steps], 45)] = W := hLW
  have hbW : Below w.heap.size w W := by rw [← hMW]; exact laid_below _ _ _ (Nat.le_refl _)
  have s0 : Str W (w.heap.size) 45 [.int .i64 a.how, .int .i32 a.val, .slice Aa a.mem.length aa, .slice Ca a.calls.length ca, .int .i64 a.steps] := by rw [← hMW]; exact laid_at _ w 0 _ _ rfl
  have s1 : Str W (w.heap.size + 1) 45 [.int .i64 b.how, .int .i32 b.val, .slice Ab b.mem.length ab, .slice Cb b.calls.length cb, .int .i64 b.steps] := by rw [← hMW]; exact laid_at _ w 1 _ _ rfl
  have hzW : W.heap.size = w.heap.size + 2 := by rw [← hMW]; exact laid_size _ _
  clear hLW hMW
  have HBW := Lib.hid hbW
  have HS0 := Lib.hid s0
  have HS1 := Lib.hid s1
  clear hbW s0 s1
  go_wp2_with fail
  refine (shown_any W).mono ?_
  rintro e ws ⟨rfl, hs⟩
  have HAS := Lib.hid (HA.out.below (HBW.out.trans (hs.mono HBW.out.size)))
  have HBS := Lib.hid (HB.out.below (HBW.out.trans (hs.mono HBW.out.size)))
  have HS0s := Lib.hid (HS0.out.below hs)
  have HS1s := Lib.hid (HS1.out.below hs)
  have HWs := Lib.hid (HBW.out.trans (hs.mono HBW.out.size))
  clear hs
  go_upto_region 2 with (fail)
  have p0 : ws.cell? ⟨w.heap.size, 0, none⟩ = some (.int .i64 a.how) := (HS0s.out).cell 0
  have p1 : ws.cell? ⟨w.heap.size, 1, none⟩ = some (.int .i32 a.val) := (HS0s.out).cell 1
  have p2 : ws.cell? ⟨w.heap.size, 2, none⟩ = some (.slice Aa a.mem.length aa) := (HS0s.out).cell 2
  have p3 : ws.cell? ⟨w.heap.size, 3, none⟩ = some (.slice Ca a.calls.length ca) := (HS0s.out).cell 3
  have p4 : ws.cell? ⟨w.heap.size, 4, none⟩ = some (.int .i64 a.steps) := (HS0s.out).cell 4
  go_wp2_with fail
  refine (outcome_mine ws _ _ a pa HAS.out HPA.out).mono ?_
  rintro e xw ⟨xA, xc, xD, xd, rfl, hm5, he5, hb5⟩
  have HMx := Lib.hid hm5
  have HEx := Lib.hid he5
  have HBx := Lib.hid hb5
  have hzx := hb5.size
  clear hm5 he5 hb5 p0 p1 p2 p3 p4
  go_upto_region 3 with (fail)
  obtain ⟨W1, hLW1⟩ : ∃ W, xw.alloc (.cells #[.int .i64 pa.how, .int .i32 pa.val, .slice xA pa.mem.length xc, .slice xD pa.calls.length xd, .int .i64 pa.steps] 45) = W := ⟨_, rfl⟩
  rw [hLW1]
  have hMW1 : laid xw [([.int .i64 pa.how, .int .i32 pa.val, .slice xA pa.mem.length xc, .slice xD pa.calls.length xd, .int .i64 pa.steps], 45)] = W1 := hLW1
  have hbW1 : Below xw.heap.size xw W1 := by rw [← hMW1]; exact laid_below _ _ _ (Nat.le_refl _)
  have x0 : Str W1 (xw.heap.size) 45 [.int .i64 pa.how, .int .i32 pa.val, .slice xA pa.mem.length xc, .slice xD pa.calls.length xd, .int .i64 pa.steps] := by rw [← hMW1]; exact laid_at _ xw 0 _ _ rfl
  have hzW1 : W1.heap.size = xw.heap.size + 1 := by rw [← hMW1]; exact laid_size _ _
  clear hLW1 hMW1
  have XM := Lib.hid (Mine.laid HMx.out HEx.out (Nat.le_refl _) hbW1 x0 hzx (Nat.le_refl _))
  have Bx := Lib.hid (HBx.out.trans (hbW1.mono hzx))
  obtain ⟨xb, hxb⟩ : ∃ xb, xw.heap.size = xb := ⟨_, rfl⟩
  rw [hxb] at XM ⊢
  clear HMx HEx HBx hbW1 x0 hzW1 hxb
  have HBS1 := Lib.hid (HBS.out.below Bx.out)
  have HAS1 := Lib.hid (HAS.out.below Bx.out)
  have HS0x := Lib.hid (HS0s.out.below Bx.out)
  have HS1x := Lib.hid (HS1s.out.below Bx.out)
  have HWx := Lib.hid (HWs.out.trans (Bx.out.mono HWs.out.size))
  have p0 : W1.cell? ⟨(w.heap.size + 1), 0, none⟩ = some (.int .i64 b.how) := (HS1x.out).cell 0
  have p1 : W1.cell? ⟨(w.heap.size + 1), 1, none⟩ = some (.int .i32 b.val) := (HS1x.out).cell 1
  have p2 : W1.cell? ⟨(w.heap.size + 1), 2, none⟩ = some (.slice Ab b.mem.length ab) := (HS1x.out).cell 2
  have p3 : W1.cell? ⟨(w.heap.size + 1), 3, none⟩ = some (.slice Cb b.calls.length cb) := (HS1x.out).cell 3
  have p4 : W1.cell? ⟨(w.heap.size + 1), 4, none⟩ = some (.int .i64 b.steps) := (HS1x.out).cell 4
  go_wp2_with fail
  refine (outcome_mine W1 _ _ b pb HBS1.out HPB.out).mono ?_
  rintro e yw ⟨yA, yc, yD, yd, rfl, hm5, he5, hb5⟩
  have HMy := Lib.hid hm5
  have HEy := Lib.hid he5
  have HBy := Lib.hid hb5
  have hzy := hb5.size
  clear hm5 he5 hb5 p0 p1 p2 p3 p4
  go_upto_region 4 with (fail)
  obtain ⟨W2, hLW2⟩ : ∃ W, yw.alloc (.cells #[.int .i64 pb.how, .int .i32 pb.val, .slice yA pb.mem.length yc, .slice yD pb.calls.length yd, .int .i64 pb.steps] 45) = W := ⟨_, rfl⟩
  rw [hLW2]
  have hMW2 : laid yw [([.int .i64 pb.how, .int .i32 pb.val, .slice yA pb.mem.length yc, .slice yD pb.calls.length yd, .int .i64 pb.steps], 45)] = W2 := hLW2
  have hbW2 : Below yw.heap.size yw W2 := by rw [← hMW2]; exact laid_below _ _ _ (Nat.le_refl _)
  have y0 : Str W2 (yw.heap.size) 45 [.int .i64 pb.how, .int .i32 pb.val, .slice yA pb.mem.length yc, .slice yD pb.calls.length yd, .int .i64 pb.steps] := by rw [← hMW2]; exact laid_at _ yw 0 _ _ rfl
  have hzW2 : W2.heap.size = yw.heap.size + 1 := by rw [← hMW2]; exact laid_size _ _
  clear hLW2 hMW2
  have YM := Lib.hid (Mine.laid HMy.out HEy.out (Nat.le_refl _) hbW2 y0 hzy (Nat.le_refl _))
  have By := Lib.hid (HBy.out.trans (hbW2.mono hzy))
  obtain ⟨yb, hyb⟩ : ∃ yb, yw.heap.size = yb := ⟨_, rfl⟩
  rw [hyb] at YM ⊢
  clear HMy HEy HBy hbW2 y0 hzW2 hyb
  have HAS2 := Lib.hid (HAS1.out.below By.out)
  have HS0y := Lib.hid (HS0x.out.below By.out)
  have HWy := Lib.hid (HWx.out.trans (By.out.mono HWx.out.size))
  have XM2 := Lib.hid (XM.out.below By.out)
  have p0 : W2.cell? ⟨w.heap.size, 0, none⟩ = some (.int .i64 a.how) := (HS0y.out).cell 0
  have p1 : W2.cell? ⟨w.heap.size, 1, none⟩ = some (.int .i32 a.val) := (HS0y.out).cell 1
  have p2 : W2.cell? ⟨w.heap.size, 2, none⟩ = some (.slice Aa a.mem.length aa) := (HS0y.out).cell 2
  have p3 : W2.cell? ⟨w.heap.size, 3, none⟩ = some (.slice Ca a.calls.length ca) := (HS0y.out).cell 3
  have p4 : W2.cell? ⟨w.heap.size, 4, none⟩ = some (.int .i64 a.steps) := (HS0y.out).cell 4
  go_wp2_with fail
  refine (outcome_mine W2 _ _ a pa HAS2.out HPA.out).mono ?_
  rintro e zw ⟨zA, zc, zD, zd, rfl, hm5, he5, hb5⟩
  have HMz := Lib.hid hm5
  have HEz := Lib.hid he5
  have HBz := Lib.hid hb5
  have hzz := hb5.size
  clear hm5 he5 hb5 p0 p1 p2 p3 p4
  go_upto_region 5 with (fail)
  obtain ⟨W3, hLW3⟩ : ∃ W, zw.alloc (.cells #[.int .i64 pa.how, .int .i32 pa.val, .slice zA pa.mem.length zc, .slice zD pa.calls.length zd, .int .i64 pa.steps] 45) = W := ⟨_, rfl⟩
  rw [hLW3]
  have hMW3 : laid zw [([.int .i64 pa.how, .int .i32 pa.val, .slice zA pa.mem.length zc, .slice zD pa.calls.length zd, .int .i64 pa.steps], 45)] = W3 := hLW3
  have hbW3 : Below zw.heap.size zw W3 := by rw [← hMW3]; exact laid_below _ _ _ (Nat.le_refl _)
  have z0 : Str W3 (zw.heap.size) 45 [.int .i64 pa.how, .int .i32 pa.val, .slice zA pa.mem.length zc, .slice zD pa.calls.length zd, .int .i64 pa.steps] := by rw [← hMW3]; exact laid_at _ zw 0 _ _ rfl
  have hzW3 : W3.heap.size = zw.heap.size + 1 := by rw [← hMW3]; exact laid_size _ _
  clear hLW3 hMW3
  have ZM := Lib.hid (Mine.laid HMz.out HEz.out (Nat.le_refl _) hbW3 z0 hzz (Nat.le_refl _))
  have Bz := Lib.hid (HBz.out.trans (hbW3.mono hzz))
  obtain ⟨zb, hzb⟩ : ∃ zb, zw.heap.size = zb := ⟨_, rfl⟩
  rw [hzb] at ZM ⊢
  clear HMz HEz HBz hbW3 z0 hzW3 hzb
  have XM3 := Lib.hid (XM2.out.below Bz.out)
  have YM3 := Lib.hid (YM.out.below Bz.out)
  have HWz := Lib.hid (HWy.out.trans (Bz.out.mono HWy.out.size))
  go_upto_region 6 with (fail)
  have ZB := Lib.hid ZM.out.box
  go_cut [20] (fun s20 wx => s20 = .int .u8 (k % 7) ∧ W3 = wx)
  case first =>
    go_wp2_with fail
    go_meet
    exact ⟨rfl, rfl⟩
  case rest =>
  obtain ⟨hs20, hwc⟩ := hcut
  subst hs20
  subst hwc
  rename_i hK9
  refine hK9 _ _ ?_
  go_cut [11] (fun s11 wx => ∃ (f : Bool) (c : POut) (mv cv : Value), s11 = .bool f ∧ Str wx zb 45 [.int .i64 c.how, .int .i32 c.val, mv, cv, .int .i64 c.steps] ∧ OutAt wx mv cv c ∧ sameP pa c = f ∧ Below W2.heap.size W2 wx)
  case first =>
    have hm : k % 7 = 0 ∨ k % 7 = 1 ∨ k % 7 = 2 ∨ k % 7 = 3 ∨ k % 7 = 4 ∨ k % 7 = 5 ∨ k % 7 = 6 := by omega
    have z0 := ZB.out.cell 0
    have y0 := ZB.out.frozen 0
    have z1 := ZB.out.cell 1
    have y1 := ZB.out.frozen 1
    have z2 := ZB.out.cell 2
    have y2 := ZB.out.frozen 2
    have z3 := ZB.out.cell 3
    have y3 := ZB.out.frozen 3
    have z4 := ZB.out.cell 4
    have y4 := ZB.out.frozen 4
    simp only [List.getElem?_cons_succ, List.getElem?_cons_zero] at z0 z1 z2 z3 z4
    rcases hm with hm | hm | hm | hm | hm | hm | hm
    · have e0 : (k % 7 == 0) = true := beq_iff_eq.2 hm
      --CASE0
      clear hm
      go_wp2_with fail
      go_meet
      exact ⟨true, ⟨pa.how, pa.val, pa.mem, pa.calls, wrap64 (pa.steps + 1)⟩, _, _, rfl, ZM.out.box.set 4 (.int .i64 (wrap64 (pa.steps + 1))), (ZM.out.poked 4 _ : OutAt _ _ _ pa) |> (fun h => ⟨h.mem, h.calls⟩), by simp [sameP], Bz.out.setCell (p := ⟨zb, 4, none⟩) ZM.out.far _⟩
      --END0
    · have e0 : (k % 7 == 0) = false := beq_eq_false_iff_ne.2 (by omega)
      have e1 : (k % 7 == 1) = true := beq_iff_eq.2 hm
      --CASE1
      clear hm
      go_wp2_with fail
      go_meet
      exact ⟨false, ⟨wrap64 (pa.how + 1), pa.val, pa.mem, pa.calls, pa.steps⟩, _, _, rfl, ZM.out.box.set 0 (.int .i64 (wrap64 (pa.how + 1))), (ZM.out.poked 0 _ : OutAt _ _ _ pa) |> (fun h => ⟨h.mem, h.calls⟩), by simp [sameP, wrap64_ne], Bz.out.setCell (p := ⟨zb, 0, none⟩) ZM.out.far _⟩
      --END1
    · have e0 : (k % 7 == 0) = false := beq_eq_false_iff_ne.2 (by omega)
      have e1 : (k % 7 == 1) = false := beq_eq_false_iff_ne.2 (by omega)
      have e2 : (k % 7 == 2) = true := beq_iff_eq.2 hm
      --CASE2
      clear hm
      go_wp2_with fail
      go_meet
      exact ⟨false, ⟨pa.how, wrap32 (pa.val + 1), pa.mem, pa.calls, pa.steps⟩, _, _, rfl, ZM.out.box.set 1 (.int .i32 (wrap32 (pa.val + 1))), (ZM.out.poked 1 _ : OutAt _ _ _ pa) |> (fun h => ⟨h.mem, h.calls⟩), by simp [sameP, wrap32_ne], Bz.out.setCell (p := ⟨zb, 1, none⟩) ZM.out.far _⟩
      --END2
    · have e0 : (k % 7 == 0) = false := beq_eq_false_iff_ne.2 (by omega)
      have e1 : (k % 7 == 1) = false := beq_eq_false_iff_ne.2 (by omega)
      have e2 : (k % 7 == 2) = false := beq_eq_false_iff_ne.2 (by omega)
      have e3 : (k % 7 == 3) = true := beq_iff_eq.2 hm
      --CASE3
      clear hm
      obtain ⟨W5, hLW5⟩ : ∃ W, W3.alloc (.cells #[.int .i32 0] 21) = W := ⟨_, rfl⟩
      have hMW5 : laid W3 [([.int .i32 0], 21)] = W5 := hLW5
      have hbW5 : Below W3.heap.size W3 W5 := by rw [← hMW5]; exact laid_below _ _ _ (Nat.le_refl _)
      have s0 : Str W5 (W3.heap.size) 21 [.int .i32 0] := by rw [← hMW5]; exact laid_at _ W3 0 _ _ rfl
      have hzW5 : W5.heap.size = W3.heap.size + 1 := by rw [← hMW5]; exact laid_size _ _
      clear hMW5
      obtain ⟨i0, hi, hz0, hz1, hz2⟩ := info_parts info_word
      have HLW := Lib.hid hLW5
      have HS5 := Lib.hid s0
      have HM5 := Lib.hid (OwnWords.below ZM.out.mem hbW5)
      have HE5 := Lib.hid (ZM.out.calls.below hbW5)
      have HX5 := Lib.hid (ZM.out.box.below hbW5)
      have HI0 := Lib.hid hi
      have HZ0 := Lib.hid hz0
      have HZ1 := Lib.hid hz1
      have HZ2 := Lib.hid hz2
      have HB5 := Lib.hid (Bz.out.trans (hbW5.mono Bz.out.size))
      have hz5 := hbW5.size
      have hz3 := Bz.out.size
      have hfew := (mem_few HPA.out).1
      have hzl : zb < W5.heap.size := HX5.out.lt
      clear hLW5 s0 hi hz0 hz1 hz2 hbW5 hzW5
      go_wp2_with (at_builtin; rw [HLW.out]; refine wpList_append1 rfl _ _ _ rfl W2.heap.size 21 i0 (.int .i32 0) 4 Try.underlying42 HI0.out HZ0.out HZ1.out HZ2.out rfl (.slice zA pa.mem.length zc) pa.mem.length (pa.mem.map (Value.int .i32)) rfl HM5.out ⟨W3.heap.size, 0, none⟩ (.int .i32 0) rfl (HS5.out.cell 0) rfl (by omega) (by omega) (by omega) ?_)
      intro v6 w6 hr6 hg6 hm6
      obtain ⟨rA, rc, rfl⟩ := own_form hr6
      have hx6 := HX5.out.kept hg6 (HX5.out.not_row (by decide) HM5.out)
      have u2 := hx6.cell 2
      have f2 := hx6.frozen 2
      have HX6 := Lib.hid hx6
      have HR6 := Lib.hid (show OwnWords W2.heap.size w6 (.slice rA (pa.mem.length + 1) rc) (pa.mem ++ [0]) from by unfold OwnWords; rw [List.length_append, List.map_append]; exact hr6)
      have HE6 := Lib.hid (HE5.out.kept0 hg6 (fun g hg => Or.inr hg))
      have HB6 := Lib.hid (below_of_own HB5.out hg6 (fun g hg => (World.ownsRow.lt HM5.out g hg).1))
      clear hx6 hr6 hg6 hm6
      go_wp2_with fail
      go_meet
      exact ⟨false, ⟨pa.how, pa.val, pa.mem ++ [0], pa.calls, pa.steps⟩, (.slice rA (pa.mem.length + 1) rc), _, rfl, HX6.out.set 2 (.slice rA (pa.mem.length + 1) rc), ⟨words_of_own (World.ownsRow.kept HR6.out (setCell_grownBy w6 ⟨zb, 2, none⟩ (.slice rA (pa.mem.length + 1) rc)) (Or.inr fun e => HX6.out.not_row (by decide) HR6.out e.symm)), evs_of (HE6.out.kept (setCell_grownBy w6 ⟨zb, 2, none⟩ (.slice rA (pa.mem.length + 1) rc)) (Or.inl rfl))⟩, by simp [sameP], HB6.out.setCell (p := ⟨zb, 2, none⟩) ZM.out.far _⟩
      --END3
    · have e0 : (k % 7 == 0) = false := beq_eq_false_iff_ne.2 (by omega)
      have e1 : (k % 7 == 1) = false := beq_eq_false_iff_ne.2 (by omega)
      have e2 : (k % 7 == 2) = false := beq_eq_false_iff_ne.2 (by omega)
      have e3 : (k % 7 == 3) = false := beq_eq_false_iff_ne.2 (by omega)
      have e4 : (k % 7 == 4) = true := beq_iff_eq.2 hm
      --CASE4
      clear hm
      obtain ⟨W5, hLW5⟩ : ∃ W, W3.alloc (.cells #[.int .i32 0, .slice none 0 0] 67) = W := ⟨_, rfl⟩
      have hMW5 : laid W3 [([.int .i32 0, .slice none 0 0], 67)] = W5 := hLW5
      have hbW5 : Below W3.heap.size W3 W5 := by rw [← hMW5]; exact laid_below _ _ _ (Nat.le_refl _)
      have s0 : Str W5 (W3.heap.size) 67 [.int .i32 0, .slice none 0 0] := by rw [← hMW5]; exact laid_at _ W3 0 _ _ rfl
      have hzW5 : W5.heap.size = W3.heap.size + 1 := by rw [← hMW5]; exact laid_size _ _
      clear hMW5
      obtain ⟨i0, hi, hz0, hz1, hz2⟩ := info_parts info_event
      have HLW := Lib.hid hLW5
      have HS5 := Lib.hid s0
      have HM5 := Lib.hid (OwnWords.below ZM.out.mem hbW5)
      have HE5 := Lib.hid (ZM.out.calls.below hbW5)
      have HX5 := Lib.hid (ZM.out.box.below hbW5)
      have HI0 := Lib.hid hi
      have HZ0 := Lib.hid hz0
      have HZ1 := Lib.hid hz1
      have HZ2 := Lib.hid hz2
      have HB5 := Lib.hid (Bz.out.trans (hbW5.mono Bz.out.size))
      have hz5 := hbW5.size
      have hz3 := Bz.out.size
      have hfew := (mem_few HPA.out).2
      have hzl : zb < W5.heap.size := HX5.out.lt
      clear hLW5 s0 hi hz0 hz1 hz2 hbW5 hzW5
      obtain ⟨es, h1, h2, h3⟩ := HE5.out
      have H1 := Lib.hid h1
      have H2 := Lib.hid h2
      have H3 := Lib.hid h3
      clear h1 h2 h3
      go_wp2_with (at_builtin; rw [HLW.out]; refine wpList_appendM rfl _ _ _ rfl W2.heap.size 67 i0 (.agg #[.int .i32 0, .slice none 0 0]) 2 32 Try.underlying43 HI0.out HZ0.out HZ1.out HZ2.out rfl (by decide) (.slice zD pa.calls.length zd) pa.calls.length es rfl H1.out ⟨W3.heap.size, 0, none⟩ [.int .i32 0, .slice none 0 0] rfl rfl ?news ?one (by omega) (by omega) (by omega) ?_)
      case news =>
        intro j u hj
        try rw [at_add0]
        rw [HS5.out.cell j]
        exact hj
      case one => exact ⟨rfl, rfl⟩
      intro v6 w6 hr6 hg6 hm6
      obtain ⟨rA, rc, rfl⟩ := own_form hr6
      have hx6 := HX5.out.kept hg6 (HX5.out.not_row (by decide) H1.out)
      have u2 := hx6.cell 3
      have f2 := hx6.frozen 3
      have HX6 := Lib.hid hx6
      have HR6 := Lib.hid (show OwnWords W2.heap.size w6 (.slice zA pa.mem.length zc) pa.mem from World.ownsRow.kept HM5.out hg6 (own_apart HM5.out H1.out (by decide)))
      have HE6 := Lib.hid (EventsAt.push (v := .slice none 0 0) (c := 0) (a := []) H1.out H2.out H3.out (fun g hg => by
        rcases hg with rfl | hg
        · exact hzl
        · exact (OwnWords.where_ HM5.out hg).2) (World.ownsRow_nil _ _ _ _) (fun g hg => by cases hg) hr6 hg6 hm6)
      have HB6 := Lib.hid (below_of_own HB5.out hg6 (fun g hg => (World.ownsRow.lt H1.out g hg).1))
      clear hx6 hr6 hg6 hm6
      go_wp2_with fail
      go_meet
      exact ⟨false, ⟨pa.how, pa.val, pa.mem, pa.calls ++ [(0, [])], pa.steps⟩, _, (.slice rA (pa.calls.length + 1) rc), rfl, HX6.out.set 3 (.slice rA (pa.calls.length + 1) rc), ⟨words_of_own (World.ownsRow.kept HR6.out (setCell_grownBy w6 ⟨zb, 3, none⟩ (.slice rA (pa.calls.length + 1) rc)) (Or.inr fun e => HX6.out.not_row (by decide) HR6.out e.symm)), evs_of (HE6.out.kept (setCell_grownBy w6 ⟨zb, 3, none⟩ (.slice rA (pa.calls.length + 1) rc)) (Or.inl rfl))⟩, by simp [sameP], HB6.out.setCell (p := ⟨zb, 3, none⟩) ZM.out.far _⟩
      --END4
    · have e0 : (k % 7 == 0) = false := beq_eq_false_iff_ne.2 (by omega)
      have e1 : (k % 7 == 1) = false := beq_eq_false_iff_ne.2 (by omega)
      have e2 : (k % 7 == 2) = false := beq_eq_false_iff_ne.2 (by omega)
      have e3 : (k % 7 == 3) = false := beq_eq_false_iff_ne.2 (by omega)
      have e4 : (k % 7 == 4) = false := beq_eq_false_iff_ne.2 (by omega)
      have e5 : (k % 7 == 5) = true := beq_iff_eq.2 hm
      --CASE5
      clear hm
      by_cases hl : 0 < pa.calls.length
      · obtain ⟨g, rfl⟩ := ZM.out.head hl
        obtain ⟨c0, _, hbg, _⟩ := ZM.out.first hl
        obtain ⟨v0, hv0⟩ : ∃ v0, pa.calls[0].1 = v0 := ⟨_, rfl⟩
        rw [hv0] at c0
        go_wp2_with fail
        refine region_heldT_wp (fun w' => w'.cell? ⟨zb, 3, none⟩ = some (.slice (some ⟨g, 0, none⟩) pa.calls.length zd) ∧ w'.cell? ⟨g, 0, none⟩ = some (.int .i32 v0)) [0, 1, 2, 3, 4, 5, 6, 7, 8, 9] [0, 1, 2, 3, 4, 5, 6, 7, 8, 9, 10] 10 (by kernel_rfl) (by kernel_rfl) (by kernel_rfl) (by kernel_rfl) rfl (by intro c a d v w h; cases d <;> exact h) ⟨z3, c0⟩ ?_
        obtain ⟨Wd, hWd⟩ : ∃ V : World, ({ W3 with drawn := W3.drawn + 1 } : World) = V := ⟨_, rfl⟩
        rw [hWd]
        have hbd : Below W3.heap.size W3 Wd := by rw [← hWd]; exact (Below.refl _ _).drew
        obtain ⟨d0, d1, _, d3⟩ := (ZM.out.below hbd).first hl
        rw [hv0] at d0
        have HD3 := Lib.hid d3
        have HBD := Lib.hid (Bz.out.trans (hbd.mono Bz.out.size))
        clear hWd hbd d3 z0 z1 z2 z3 z4 y0 y1 y2 y3 y4
        refine walkH_still _ ?h0 rfl rfl rfl ?hy0 ?_
        case hy0 => intro w hS; go_simp; first | done | with_reducible rfl
        simp only [Act.put]
        refine walkH_still _ ?h1 rfl rfl rfl ?hy1 ?_
        case hy1 => intro w hS; go_simp; first | done | with_reducible rfl
        simp only [Act.put]
        refine walkH_still _ ?h2 rfl rfl rfl ?hy2 ?_
        case hy2 => intro w hS; go_simp; first | done | with_reducible rfl
        simp only [Act.put]
        refine walkH_still _ ?h3 rfl rfl rfl ?hy3 ?_
        case hy3 => intro w hS; go_simp; first | done | with_reducible rfl
        simp only [Act.put]
        refine walkH_still _ ?h4 rfl rfl rfl ?hy4 ?_
        case hy4 => intro w hS; go_simp; first | done | with_reducible rfl
        simp only [Act.put]
        refine walkH_still _ ?h5 rfl rfl rfl ?hy5 ?_
        case hy5 => intro w hS; go_simp; first | done | with_reducible rfl
        simp only [Act.put]
        refine walkH_still _ ?h6 rfl rfl rfl ?hy6 ?_
        case hy6 => intro w hS; go_simp; first | done | with_reducible rfl
        simp only [Act.put]
        refine walkH_still _ ?h7 rfl rfl rfl ?hy7 ?_
        case hy7 => intro w hS; go_simp; first | done | with_reducible rfl
        simp only [Act.put]
        refine walkH_still _ ?h8 rfl rfl rfl ?hy8 ?_
        case hy8 => intro w hS; go_simp; first | done | with_reducible rfl
        simp only [Act.put]
        refine walkH_still _ ?h9 rfl rfl rfl ?hy9 ?_
        case hy9 => intro w hS; go_simp; first | done | with_reducible rfl
        simp only [Act.put]
        try simp only [List.setIfInBounds_toArray, List.set_cons_zero, List.set_cons_succ]
        refine walkHd _ rfl rfl ?_
        go_wp2
        refine behindH (Or.inr rfl) (walkH_nil ?_)
        go_wp2_with fail
        go_meet
        have hne := set0_ne pa.calls hl (wrap32 (v0 + 1), pa.calls[0].2) (fun e => wrap32_ne v0 (by rw [← hv0] at e ⊢; exact congrArg Prod.fst e))
        exact ⟨false, ⟨pa.how, pa.val, pa.mem, pa.calls.set 0 (wrap32 (v0 + 1), pa.calls[0].2), pa.steps⟩, _, _, rfl, (HD3.out (wrap32 (v0 + 1))).2, (HD3.out (wrap32 (v0 + 1))).1, by simp only [sameP, decide_eq_false hne, Bool.and_false], HBD.out.setCell (p := ⟨g, 0, none⟩) hbg _⟩
      · have hz : pa.calls.length = 0 := by omega
        go_wp2_with fail
        go_meet
        exact ⟨true, pa, _, _, rfl, ZM.out.box, ZM.out.out, sameP_self pa, Bz.out⟩
      --END5
    · have e0 : (k % 7 == 0) = false := beq_eq_false_iff_ne.2 (by omega)
      have e1 : (k % 7 == 1) = false := beq_eq_false_iff_ne.2 (by omega)
      have e2 : (k % 7 == 2) = false := beq_eq_false_iff_ne.2 (by omega)
      have e3 : (k % 7 == 3) = false := beq_eq_false_iff_ne.2 (by omega)
      have e4 : (k % 7 == 4) = false := beq_eq_false_iff_ne.2 (by omega)
      have e5 : (k % 7 == 5) = false := beq_eq_false_iff_ne.2 (by omega)
      --CASE6
      clear hm
      by_cases hl : 0 < pa.mem.length
      · obtain ⟨g, rfl⟩ := ZM.out.mhead hl
        obtain ⟨c0, _, hbg, _⟩ := ZM.out.word hl
        obtain ⟨v0, hv0⟩ : ∃ v0, pa.mem[0] = v0 := ⟨_, rfl⟩
        rw [hv0] at c0
        go_wp2_with fail
        refine region_heldT_wp (fun w' => w'.cell? ⟨zb, 2, none⟩ = some (.slice (some ⟨g, 0, none⟩) pa.mem.length zc) ∧ w'.cell? ⟨g, 0, none⟩ = some (.int .i32 v0)) [0, 1, 2, 3, 4, 5, 6, 7] [0, 1, 2, 3, 4, 5, 6, 7, 8] 8 (by kernel_rfl) (by kernel_rfl) (by kernel_rfl) (by kernel_rfl) rfl (by intro c a d v w h; cases d <;> exact h) ⟨z2, c0⟩ ?_
        obtain ⟨Wd, hWd⟩ : ∃ V : World, ({ W3 with drawn := W3.drawn + 1 } : World) = V := ⟨_, rfl⟩
        rw [hWd]
        have hbd : Below W3.heap.size W3 Wd := by rw [← hWd]; exact (Below.refl _ _).drew
        obtain ⟨d0, d1, _, d3⟩ := (ZM.out.below hbd).word hl
        rw [hv0] at d0
        have HD3 := Lib.hid d3
        have HBD := Lib.hid (Bz.out.trans (hbd.mono Bz.out.size))
        clear hWd hbd d3 z0 z1 z2 z3 z4 y0 y1 y2 y3 y4
        refine walkH_still _ ?j0 rfl rfl rfl ?jy0 ?_
        case jy0 => intro w hS; go_simp; first | done | with_reducible rfl
        simp only [Act.put]
        refine walkH_still _ ?j1 rfl rfl rfl ?jy1 ?_
        case jy1 => intro w hS; go_simp; first | done | with_reducible rfl
        simp only [Act.put]
        refine walkH_still _ ?j2 rfl rfl rfl ?jy2 ?_
        case jy2 => intro w hS; go_simp; first | done | with_reducible rfl
        simp only [Act.put]
        refine walkH_still _ ?j3 rfl rfl rfl ?jy3 ?_
        case jy3 => intro w hS; go_simp; first | done | with_reducible rfl
        simp only [Act.put]
        refine walkH_still _ ?j4 rfl rfl rfl ?jy4 ?_
        case jy4 => intro w hS; go_simp; first | done | with_reducible rfl
        simp only [Act.put]
        refine walkH_still _ ?j5 rfl rfl rfl ?jy5 ?_
        case jy5 => intro w hS; go_simp; first | done | with_reducible rfl
        simp only [Act.put]
        refine walkH_still _ ?j6 rfl rfl rfl ?jy6 ?_
        case jy6 => intro w hS; go_simp; first | done | with_reducible rfl
        simp only [Act.put]
        refine walkH_still _ ?j7 rfl rfl rfl ?jy7 ?_
        case jy7 => intro w hS; go_simp; first | done | with_reducible rfl
        simp only [Act.put]
        try simp only [List.setIfInBounds_toArray, List.set_cons_zero, List.set_cons_succ]
        refine walkHd _ rfl rfl ?_
        go_wp2
        refine behindH (Or.inr rfl) (walkH_nil ?_)
        go_wp2_with fail
        go_meet
        have hne := set0_ne pa.mem hl (wrap32 (v0 + 1)) (fun e => wrap32_ne v0 (by rw [← hv0] at e ⊢; exact e))
        exact ⟨false, ⟨pa.how, pa.val, pa.mem.set 0 (wrap32 (v0 + 1)), pa.calls, pa.steps⟩, _, _, rfl, (HD3.out (wrap32 (v0 + 1))).2, (HD3.out (wrap32 (v0 + 1))).1, by simp only [sameP, decide_eq_false hne, Bool.and_false, Bool.false_and], HBD.out.setCell (p := ⟨g, 0, none⟩) hbg _⟩
      · have hz : pa.mem.length = 0 := by omega
        go_wp2_with fail
        go_meet
        exact ⟨true, pa, _, _, rfl, ZM.out.box, ZM.out.out, sameP_self pa, Bz.out⟩
      --END6
  case rest =>
    obtain ⟨f, c, mv, cv, rfl, hst, hout, rfl, hbz⟩ := hcut
    have HC := Lib.hid hout
    obtain ⟨Ma, Mc, rfl, _⟩ := id hout.mem
    obtain ⟨Da, Dc, _, _, rfl, _⟩ := id hout.calls
    have HX := Lib.hid (XM2.out.below hbz)
    have HY := Lib.hid (YM.out.below hbz)
    have HWF := Lib.hid (HWy.out.trans (hbz.mono HWy.out.size))
    obtain ⟨w0, rfl⟩ : ∃ w0 : World, w0 = wc := ⟨_, rfl⟩
    have c0 : w0.cell? ⟨xb, 0, none⟩ = some (.int .i64 pa.how) := (HX.out.box).cell 0
    have c1 : w0.cell? ⟨xb, 1, none⟩ = some (.int .i32 pa.val) := (HX.out.box).cell 1
    have c2 : w0.cell? ⟨xb, 2, none⟩ = some (.slice xA pa.mem.length xc) := (HX.out.box).cell 2
    have c3 : w0.cell? ⟨xb, 3, none⟩ = some (.slice xD pa.calls.length xd) := (HX.out.box).cell 3
    have c4 : w0.cell? ⟨xb, 4, none⟩ = some (.int .i64 pa.steps) := (HX.out.box).cell 4
    have c5 : w0.cell? ⟨yb, 0, none⟩ = some (.int .i64 pb.how) := (HY.out.box).cell 0
    have c6 : w0.cell? ⟨yb, 1, none⟩ = some (.int .i32 pb.val) := (HY.out.box).cell 1
    have c7 : w0.cell? ⟨yb, 2, none⟩ = some (.slice yA pb.mem.length yc) := (HY.out.box).cell 2
    have c8 : w0.cell? ⟨yb, 3, none⟩ = some (.slice yD pb.calls.length yd) := (HY.out.box).cell 3
    have c9 : w0.cell? ⟨yb, 4, none⟩ = some (.int .i64 pb.steps) := (HY.out.box).cell 4
    have c10 : w0.cell? ⟨zb, 0, none⟩ = some (.int .i64 c.how) := (hst).cell 0
    have c11 : w0.cell? ⟨zb, 1, none⟩ = some (.int .i32 c.val) := (hst).cell 1
    have c12 : w0.cell? ⟨zb, 2, none⟩ = some (.slice Ma c.mem.length Mc) := (hst).cell 2
    have c13 : w0.cell? ⟨zb, 3, none⟩ = some (.slice Da c.calls.length Dc) := (hst).cell 3
    have c14 : w0.cell? ⟨zb, 4, none⟩ = some (.int .i64 c.steps) := (hst).cell 4
    clear hst hout hbz
    go_upto_region 28 with (fail)
    refine region_heldC_wp (fun w' => w'.cell? ⟨xb, 0, none⟩ = some (.int .i64 pa.how) ∧ w'.cell? ⟨xb, 1, none⟩ = some (.int .i32 pa.val) ∧ w'.cell? ⟨xb, 2, none⟩ = some (.slice xA pa.mem.length xc) ∧ w'.cell? ⟨xb, 3, none⟩ = some (.slice xD pa.calls.length xd) ∧ w'.cell? ⟨xb, 4, none⟩ = some (.int .i64 pa.steps) ∧ w'.cell? ⟨yb, 0, none⟩ = some (.int .i64 pb.how) ∧ w'.cell? ⟨yb, 1, none⟩ = some (.int .i32 pb.val) ∧ w'.cell? ⟨yb, 2, none⟩ = some (.slice yA pb.mem.length yc) ∧ w'.cell? ⟨yb, 3, none⟩ = some (.slice yD pb.calls.length yd) ∧ w'.cell? ⟨yb, 4, none⟩ = some (.int .i64 pb.steps) ∧ w'.cell? ⟨zb, 0, none⟩ = some (.int .i64 c.how) ∧ w'.cell? ⟨zb, 1, none⟩ = some (.int .i32 c.val) ∧ w'.cell? ⟨zb, 2, none⟩ = some (.slice Ma c.mem.length Mc) ∧ w'.cell? ⟨zb, 3, none⟩ = some (.slice Da c.calls.length Dc) ∧ w'.cell? ⟨zb, 4, none⟩ = some (.int .i64 c.steps)) [0, 1, 2, 3, 5, 6, 8, 9, 10, 11, 12, 14, 15, 16, 17, 19, 20, 21, 22, 23, 24, 26, 27, 28, 29] [0, 1, 2, 3, 5, 6, 4, 7, 8, 9, 10, 11, 12, 13, 14, 15, 16, 17, 19, 18, 20, 21, 22, 23, 24, 26, 25, 27, 28, 29] (by kernel_rfl) (by kernel_rfl) (by kernel_rfl) rfl (by intro c a d v w h; cases d <;> exact h) ⟨c0, c1, c2, c3, c4, c5, c6, c7, c8, c9, c10, c11, c12, c13, c14⟩ ?_
    refine walkC_still _ ?v0 rfl rfl rfl ?vy0 ?_
    case vy0 => intro w hS; go_simp; first | done | with_reducible rfl
    simp only [Act.put]
    refine walkC_still _ ?v1 rfl rfl rfl ?vy1 ?_
    case vy1 => intro w hS; go_simp; first | done | with_reducible rfl
    simp only [Act.put]
    refine walkC_still _ ?v2 rfl rfl (by kernel_rfl) ?vy2 ?_
    case vy2 => intro w hS; go_simp; first | done | with_reducible rfl
    simp only [Act.put]
    refine walkC_still _ ?v3 rfl rfl (by kernel_rfl) ?vy3 ?_
    case vy3 => intro w hS; go_simp; first | done | with_reducible rfl
    simp only [Act.put]
    refine walkC_still _ ?v5 rfl rfl (by kernel_rfl) ?vy5 ?_
    case vy5 => intro w hS; go_simp; first | done | with_reducible rfl
    simp only [Act.put]
    refine walkC_still _ ?v6 rfl rfl (by kernel_rfl) ?vy6 ?_
    case vy6 => intro w hS; go_simp; first | done | with_reducible rfl
    simp only [Act.put]
    try simp only [List.setIfInBounds_toArray, List.set_cons_zero, List.set_cons_succ]
    refine walkC_does _ rfl rfl ?_
    go_wp2_with fail
    obtain ⟨w1, hw1⟩ : ∃ V : World, w0.drew = V := ⟨_, rfl⟩
    have hb1 : Below w0.heap.size w0 w1 := by rw [← hw1]; exact (Below.refl _ _).drew
    have HXd0 := Lib.hid (HX.out.below hb1).out
    have HYd0 := Lib.hid (HY.out.below hb1).out
    have HCd0 := Lib.hid (HC.out.below hb1)
    have HBd0 := Lib.hid (HWF.out.trans (hb1.mono HWF.out.size))
    rw [hw1]
    have c0_0 := cell_keep hb1 (Nat.le_refl _) c0
    have c1_0 := cell_keep hb1 (Nat.le_refl _) c1
    have c2_0 := cell_keep hb1 (Nat.le_refl _) c2
    have c3_0 := cell_keep hb1 (Nat.le_refl _) c3
    have c4_0 := cell_keep hb1 (Nat.le_refl _) c4
    have c5_0 := cell_keep hb1 (Nat.le_refl _) c5
    have c6_0 := cell_keep hb1 (Nat.le_refl _) c6
    have c7_0 := cell_keep hb1 (Nat.le_refl _) c7
    have c8_0 := cell_keep hb1 (Nat.le_refl _) c8
    have c9_0 := cell_keep hb1 (Nat.le_refl _) c9
    have c10_0 := cell_keep hb1 (Nat.le_refl _) c10
    have c11_0 := cell_keep hb1 (Nat.le_refl _) c11
    have c12_0 := cell_keep hb1 (Nat.le_refl _) c12
    have c13_0 := cell_keep hb1 (Nat.le_refl _) c13
    have c14_0 := cell_keep hb1 (Nat.le_refl _) c14
    clear hw1 hb1
    have hq := same_any w1 _ _ _ _ pa pb HXd0.out HYd0.out
    refine hq.mono ?_
    clear hq
    rintro e w2 ⟨rfl, hb⟩
    have HXd1 := Lib.hid (HXd0.out.below hb)
    have HYd1 := Lib.hid (HYd0.out.below hb)
    have HCd1 := Lib.hid (HCd0.out.below hb)
    have HBd1 := Lib.hid (HBd0.out.trans (hb.mono HBd0.out.size))
    clear HXd0 HYd0 HCd0 HBd0
    have c0_1 := cell_keep hb (Nat.le_refl _) c0_0
    have c1_1 := cell_keep hb (Nat.le_refl _) c1_0
    have c2_1 := cell_keep hb (Nat.le_refl _) c2_0
    have c3_1 := cell_keep hb (Nat.le_refl _) c3_0
    have c4_1 := cell_keep hb (Nat.le_refl _) c4_0
    have c5_1 := cell_keep hb (Nat.le_refl _) c5_0
    have c6_1 := cell_keep hb (Nat.le_refl _) c6_0
    have c7_1 := cell_keep hb (Nat.le_refl _) c7_0
    have c8_1 := cell_keep hb (Nat.le_refl _) c8_0
    have c9_1 := cell_keep hb (Nat.le_refl _) c9_0
    have c10_1 := cell_keep hb (Nat.le_refl _) c10_0
    have c11_1 := cell_keep hb (Nat.le_refl _) c11_0
    have c12_1 := cell_keep hb (Nat.le_refl _) c12_0
    have c13_1 := cell_keep hb (Nat.le_refl _) c13_0
    have c14_1 := cell_keep hb (Nat.le_refl _) c14_0
    clear hb c0_0 c1_0 c2_0 c3_0 c4_0 c5_0 c6_0 c7_0 c8_0 c9_0 c10_0 c11_0 c12_0 c13_0 c14_0
    go_wp2
    refine behindC ⟨c0_1, c1_1, c2_1, c3_1, c4_1, c5_1, c6_1, c7_1, c8_1, c9_1, c10_1, c11_1, c12_1, c13_1, c14_1⟩ ?_
    try simp only [List.setIfInBounds_toArray, List.set_cons_zero, List.set_cons_succ]
    refine walkC_does _ rfl rfl ?_
    go_wp2_with fail
    have hq := refSame_any w2 _ _ _ _ pa pb HXd1.out HYd1.out
    refine hq.mono ?_
    clear hq
    rintro e w3 ⟨rfl, hb⟩
    have HXd2 := Lib.hid (HXd1.out.below hb)
    have HYd2 := Lib.hid (HYd1.out.below hb)
    have HCd2 := Lib.hid (HCd1.out.below hb)
    have HBd2 := Lib.hid (HBd1.out.trans (hb.mono HBd1.out.size))
    clear HXd1 HYd1 HCd1 HBd1
    have c0_2 := cell_keep hb (Nat.le_refl _) c0_1
    have c1_2 := cell_keep hb (Nat.le_refl _) c1_1
    have c2_2 := cell_keep hb (Nat.le_refl _) c2_1
    have c3_2 := cell_keep hb (Nat.le_refl _) c3_1
    have c4_2 := cell_keep hb (Nat.le_refl _) c4_1
    have c5_2 := cell_keep hb (Nat.le_refl _) c5_1
    have c6_2 := cell_keep hb (Nat.le_refl _) c6_1
    have c7_2 := cell_keep hb (Nat.le_refl _) c7_1
    have c8_2 := cell_keep hb (Nat.le_refl _) c8_1
    have c9_2 := cell_keep hb (Nat.le_refl _) c9_1
    have c10_2 := cell_keep hb (Nat.le_refl _) c10_1
    have c11_2 := cell_keep hb (Nat.le_refl _) c11_1
    have c12_2 := cell_keep hb (Nat.le_refl _) c12_1
    have c13_2 := cell_keep hb (Nat.le_refl _) c13_1
    have c14_2 := cell_keep hb (Nat.le_refl _) c14_1
    clear hb c0_1 c1_1 c2_1 c3_1 c4_1 c5_1 c6_1 c7_1 c8_1 c9_1 c10_1 c11_1 c12_1 c13_1 c14_1
    go_wp2
    refine behindC ⟨c0_2, c1_2, c2_2, c3_2, c4_2, c5_2, c6_2, c7_2, c8_2, c9_2, c10_2, c11_2, c12_2, c13_2, c14_2⟩ ?_
    refine walkC_still _ ?k2v8 rfl rfl (by kernel_rfl) ?k2vy8 ?_
    case k2vy8 => intro w hS; go_simp; first | done | with_reducible rfl
    simp only [Act.put]
    refine walkC_still _ ?k2v9 rfl rfl rfl ?k2vy9 ?_
    case k2vy9 => intro w hS; go_simp; first | done | with_reducible rfl
    simp only [Act.put]
    refine walkC_still _ ?k2v10 rfl rfl rfl ?k2vy10 ?_
    case k2vy10 => intro w hS; go_simp; first | done | with_reducible rfl
    simp only [Act.put]
    refine walkC_still _ ?k2v11 rfl rfl (by kernel_rfl) ?k2vy11 ?_
    case k2vy11 => intro w hS; go_simp; first | done | with_reducible rfl
    simp only [Act.put]
    refine walkC_still _ ?k2v12 rfl rfl (by kernel_rfl) ?k2vy12 ?_
    case k2vy12 => intro w hS; go_simp; first | done | with_reducible rfl
    simp only [Act.put]
    try simp only [List.setIfInBounds_toArray, List.set_cons_zero, List.set_cons_succ]
    refine walkC_does _ rfl rfl ?_
    go_wp2_with fail
    have hq := same_any w3 _ _ _ _ pa pa HXd2.out HXd2.out
    rw [sameP_self pa] at hq
    refine hq.mono ?_
    clear hq
    rintro e w4 ⟨rfl, hb⟩
    have HXd3 := Lib.hid (HXd2.out.below hb)
    have HYd3 := Lib.hid (HYd2.out.below hb)
    have HCd3 := Lib.hid (HCd2.out.below hb)
    have HBd3 := Lib.hid (HBd2.out.trans (hb.mono HBd2.out.size))
    clear HXd2 HYd2 HCd2 HBd2
    have c0_3 := cell_keep hb (Nat.le_refl _) c0_2
    have c1_3 := cell_keep hb (Nat.le_refl _) c1_2
    have c2_3 := cell_keep hb (Nat.le_refl _) c2_2
    have c3_3 := cell_keep hb (Nat.le_refl _) c3_2
    have c4_3 := cell_keep hb (Nat.le_refl _) c4_2
    have c5_3 := cell_keep hb (Nat.le_refl _) c5_2
    have c6_3 := cell_keep hb (Nat.le_refl _) c6_2
    have c7_3 := cell_keep hb (Nat.le_refl _) c7_2
    have c8_3 := cell_keep hb (Nat.le_refl _) c8_2
    have c9_3 := cell_keep hb (Nat.le_refl _) c9_2
    have c10_3 := cell_keep hb (Nat.le_refl _) c10_2
    have c11_3 := cell_keep hb (Nat.le_refl _) c11_2
    have c12_3 := cell_keep hb (Nat.le_refl _) c12_2
    have c13_3 := cell_keep hb (Nat.le_refl _) c13_2
    have c14_3 := cell_keep hb (Nat.le_refl _) c14_2
    clear hb c0_2 c1_2 c2_2 c3_2 c4_2 c5_2 c6_2 c7_2 c8_2 c9_2 c10_2 c11_2 c12_2 c13_2 c14_2
    go_wp2
    refine behindC ⟨c0_3, c1_3, c2_3, c3_3, c4_3, c5_3, c6_3, c7_3, c8_3, c9_3, c10_3, c11_3, c12_3, c13_3, c14_3⟩ ?_
    refine walkC_still _ ?k3v14 rfl rfl rfl ?k3vy14 ?_
    case k3vy14 => intro w hS; go_simp; first | done | with_reducible rfl
    simp only [Act.put]
    refine walkC_still _ ?k3v15 rfl rfl rfl ?k3vy15 ?_
    case k3vy15 => intro w hS; go_simp; first | done | with_reducible rfl
    simp only [Act.put]
    refine walkC_still _ ?k3v16 rfl rfl (by kernel_rfl) ?k3vy16 ?_
    case k3vy16 => intro w hS; go_simp; first | done | with_reducible rfl
    simp only [Act.put]
    refine walkC_still _ ?k3v17 rfl rfl (by kernel_rfl) ?k3vy17 ?_
    case k3vy17 => intro w hS; go_simp; first | done | with_reducible rfl
    simp only [Act.put]
    refine walkC_still _ ?k3v19 rfl rfl (by kernel_rfl) ?k3vy19 ?_
    case k3vy19 => intro w hS; go_simp; first | done | with_reducible rfl
    simp only [Act.put]
    try simp only [List.setIfInBounds_toArray, List.set_cons_zero, List.set_cons_succ]
    refine walkC_does _ rfl rfl ?_
    go_wp2_with fail
    have hq := same_any w4 _ _ _ _ pa c HXd3.out HCd3.out
    refine hq.mono ?_
    clear hq
    rintro e w5 ⟨rfl, hb⟩
    have HXd4 := Lib.hid (HXd3.out.below hb)
    have HYd4 := Lib.hid (HYd3.out.below hb)
    have HCd4 := Lib.hid (HCd3.out.below hb)
    have HBd4 := Lib.hid (HBd3.out.trans (hb.mono HBd3.out.size))
    clear HXd3 HYd3 HCd3 HBd3
    have c0_4 := cell_keep hb (Nat.le_refl _) c0_3
    have c1_4 := cell_keep hb (Nat.le_refl _) c1_3
    have c2_4 := cell_keep hb (Nat.le_refl _) c2_3
    have c3_4 := cell_keep hb (Nat.le_refl _) c3_3
    have c4_4 := cell_keep hb (Nat.le_refl _) c4_3
    have c5_4 := cell_keep hb (Nat.le_refl _) c5_3
    have c6_4 := cell_keep hb (Nat.le_refl _) c6_3
    have c7_4 := cell_keep hb (Nat.le_refl _) c7_3
    have c8_4 := cell_keep hb (Nat.le_refl _) c8_3
    have c9_4 := cell_keep hb (Nat.le_refl _) c9_3
    have c10_4 := cell_keep hb (Nat.le_refl _) c10_3
    have c11_4 := cell_keep hb (Nat.le_refl _) c11_3
    have c12_4 := cell_keep hb (Nat.le_refl _) c12_3
    have c13_4 := cell_keep hb (Nat.le_refl _) c13_3
    have c14_4 := cell_keep hb (Nat.le_refl _) c14_3
    clear hb c0_3 c1_3 c2_3 c3_3 c4_3 c5_3 c6_3 c7_3 c8_3 c9_3 c10_3 c11_3 c12_3 c13_3 c14_3
    go_wp2
    refine behindC ⟨c0_4, c1_4, c2_4, c3_4, c4_4, c5_4, c6_4, c7_4, c8_4, c9_4, c10_4, c11_4, c12_4, c13_4, c14_4⟩ ?_
    refine walkC_still _ ?k4v20 rfl rfl (by kernel_rfl) ?k4vy20 ?_
    case k4vy20 => intro w hS; go_simp; first | done | with_reducible rfl
    simp only [Act.put]
    refine walkC_still _ ?k4v21 rfl rfl rfl ?k4vy21 ?_
    case k4vy21 => intro w hS; go_simp; first | done | with_reducible rfl
    simp only [Act.put]
    refine walkC_still _ ?k4v22 rfl rfl rfl ?k4vy22 ?_
    case k4vy22 => intro w hS; go_simp; first | done | with_reducible rfl
    simp only [Act.put]
    refine walkC_still _ ?k4v23 rfl rfl (by kernel_rfl) ?k4vy23 ?_
    case k4vy23 => intro w hS; go_simp; first | done | with_reducible rfl
    simp only [Act.put]
    refine walkC_still _ ?k4v24 rfl rfl (by kernel_rfl) ?k4vy24 ?_
    case k4vy24 => intro w hS; go_simp; first | done | with_reducible rfl
    simp only [Act.put]
    refine walkC_still _ ?k4v26 rfl rfl (by kernel_rfl) ?k4vy26 ?_
    case k4vy26 => intro w hS; go_simp; first | done | with_reducible rfl
    simp only [Act.put]
    try simp only [List.setIfInBounds_toArray, List.set_cons_zero, List.set_cons_succ]
    refine walkC_does _ rfl rfl ?_
    go_wp2_with fail
    have hq := same_any w5 _ _ _ _ c pa HCd4.out HXd4.out
    rw [sameP_comm c pa] at hq
    refine hq.mono ?_
    clear hq
    rintro e w6 ⟨rfl, hb⟩
    have HXd5 := Lib.hid (HXd4.out.below hb)
    have HYd5 := Lib.hid (HYd4.out.below hb)
    have HCd5 := Lib.hid (HCd4.out.below hb)
    have HBd5 := Lib.hid (HBd4.out.trans (hb.mono HBd4.out.size))
    clear HXd4 HYd4 HCd4 HBd4
    have c0_5 := cell_keep hb (Nat.le_refl _) c0_4
    have c1_5 := cell_keep hb (Nat.le_refl _) c1_4
    have c2_5 := cell_keep hb (Nat.le_refl _) c2_4
    have c3_5 := cell_keep hb (Nat.le_refl _) c3_4
    have c4_5 := cell_keep hb (Nat.le_refl _) c4_4
    have c5_5 := cell_keep hb (Nat.le_refl _) c5_4
    have c6_5 := cell_keep hb (Nat.le_refl _) c6_4
    have c7_5 := cell_keep hb (Nat.le_refl _) c7_4
    have c8_5 := cell_keep hb (Nat.le_refl _) c8_4
    have c9_5 := cell_keep hb (Nat.le_refl _) c9_4
    have c10_5 := cell_keep hb (Nat.le_refl _) c10_4
    have c11_5 := cell_keep hb (Nat.le_refl _) c11_4
    have c12_5 := cell_keep hb (Nat.le_refl _) c12_4
    have c13_5 := cell_keep hb (Nat.le_refl _) c13_4
    have c14_5 := cell_keep hb (Nat.le_refl _) c14_4
    clear hb c0_4 c1_4 c2_4 c3_4 c4_4 c5_4 c6_4 c7_4 c8_4 c9_4 c10_4 c11_4 c12_4 c13_4 c14_4
    go_wp2
    refine behindC ⟨c0_5, c1_5, c2_5, c3_5, c4_5, c5_5, c6_5, c7_5, c8_5, c9_5, c10_5, c11_5, c12_5, c13_5, c14_5⟩ ?_
    refine walkC_still _ ?k5v27 rfl rfl (by kernel_rfl) ?k5vy27 ?_
    case k5vy27 => intro w hS; go_simp; first | done | with_reducible rfl
    simp only [Act.put]
    refine walkC_still _ ?k5v28 rfl rfl rfl ?k5vy28 ?_
    case k5vy28 => intro w hS; go_simp; first | done | with_reducible rfl
    simp only [Act.put]
    refine walkC_still _ ?k5v29 rfl rfl rfl ?k5vy29 ?_
    case k5vy29 => intro w hS; go_simp; first | done | with_reducible rfl
    simp only [Act.put]
    refine walkC_nil ?_
    go_wp2_with fail
    go_ret
    exact ⟨rfl, HBd5.out⟩
end Go.Proofs.Ytcangooibfddmaa.Ic
