/- The document's answer of layer 3: jacquardref03.Func walked; that the program tells what it does. -/
import Derived.Test.YtdfehpcbcgbidaaRS
import Derived.Deep.Cut
import Derived.Deep.DeepCutAuto
import Derived.Test.YtdfehpcbcgbidaaUD
/- The document's answer of layer 3: jacquardref03.Func walked. -/
namespace Go.Proofs.Ytdfehpcbcgbidaa.Rf
open Go.ChangeShapes Go.WideShapes Go.ChangeAt Go.RowKit Go.Maps Go.Proofs.Ytdfehpcbcgbidaa.Mem Go.Proofs.Ytdfehpcbcgbidaa.Br Go.Proofs.Ytdfehpcbcgbidaa.Gr Go.Proofs.Ytdfehpcbcgbidaa.Kc
set_option linter.unusedVariables false
theorem info_bools : (Try.prog.info? 80).map (fun i => (i.zero, i.size, i.bytes)) = some (some (.slice none 0 0), 1, 24) := by kernel_rfl
theorem upto_len (bs : List PBlock) : bs.length ≤ uptoP bs bs.length := by
  have : ∀ k, k ≤ bs.length → k ≤ uptoP bs k := by
    intro k
    induction k with
    | zero => intro _; omega
    | succ k ih => intro h; rw [uptoP_succ (by omega)]; have := ih (by omega); unfold sizeP; omega
  exact this _ (Nat.le_refl _)
set_option maxRecDepth 100000 in
set_option maxHeartbeats 64000000 in
theorem func3_any (w : World) (params : Int) (gB oB c : Nat) (bs : List PBlock) (hbs : BlocksAt w (.slice (some ⟨gB, oB, none⟩) bs.length c) bs) (h0 : 0 < bs.length) (hwf : WfP bs) (hpi : ∀ x ∈ bs, ∀ p ∈ x.phis, p.ins.length ≤ 100000) :
    Calls Try.prog 18 #[.agg #[.int .i64 params, .slice (some ⟨gB, oB, none⟩) bs.length c]] w (fun e w' => e = .returned (gotV (toldS (checkE params bs))) ∧ Below w.heap.size w w') := by
  have HBS := Lib.hid hbs
  have HPI := Lib.hid hpi
  have HWF := Lib.hid hwf
  have hle := hwf.size bs.length (Nat.le_refl _)
  have hbl : bs.length ≤ uptoP bs bs.length := upto_len bs
  obtain ⟨i0, hi, hz0, hz1, hz2⟩ := info_parts info_bools
  have HI0 := Lib.hid hi
  have HZ0 := Lib.hid hz0
  have HZ1 := Lib.hid hz1
  have HZ2 := Lib.hid hz2
  clear hi hz0 hz1 hz2 hbs hpi hwf
  go_enter Try.func18, Try.ntmps18
  go_upto_region 1 with (fail)
  obtain ⟨W1, hW1⟩ : ∃ W1, w.alloc (.cells #[.int .i64 params, .slice (some ⟨gB, oB, none⟩) bs.length c] 24) = W1 := ⟨_, rfl⟩
  rw [hW1]
  have hb1 : Below w.heap.size w W1 := by rw [← hW1]; exact (Below.refl _ _).alloc (Nat.le_refl _) _
  have hs1 : Str W1 w.heap.size 24 [.int .i64 params, .slice (some ⟨gB, oB, none⟩) bs.length c] := by rw [← hW1]; exact World.alloc_heap_new w _
  have hzW1 : W1.heap.size = w.heap.size + 1 := by rw [← hW1]; simp
  clear hW1
  obtain ⟨W2, hW2⟩ : ∃ W2, W1.alloc (.cells #[.int .i64 0, .int .i64 0, .int .i64 0] 50) = W2 := ⟨_, rfl⟩
  rw [hW2]
  have hb2 : Below W1.heap.size W1 W2 := by rw [← hW2]; exact (Below.refl _ _).alloc (Nat.le_refl _) _
  have hs2 : Str W2 W1.heap.size 50 [.int .i64 0, .int .i64 0, .int .i64 0] := by rw [← hW2]; exact World.alloc_heap_new W1 _
  have hzW2 : W2.heap.size = W1.heap.size + 1 := by rw [← hW2]; simp
  clear hW2
  rw [hzW1] at hs2
  have H2 := Lib.hid (show Fs w params (.slice (some ⟨gB, oB, none⟩) bs.length c) W2 from ⟨hb1.trans (hb2.mono hb1.size), hs1.below hb2, hs2⟩)
  have hz2 : W2.heap.size = w.heap.size + 2 := by omega
  clear hb1 hb2 hs1 hs2 hzW1 hzW2
  have f0 : W2.cell? ⟨w.heap.size, 0, none⟩ = some (.int .i64 params) := H2.out.2.1.cell 0
  have f1 : W2.cell? ⟨w.heap.size, 1, none⟩ = some (.slice (some ⟨gB, oB, none⟩) bs.length c) := H2.out.2.1.cell 1
  have g0 : W2.cell? ⟨w.heap.size + 1, 0, none⟩ = some (.int .i64 0) := H2.out.2.2.cell 0
  have g1 : W2.cell? ⟨w.heap.size + 1, 1, none⟩ = some (.int .i64 0) := H2.out.2.2.cell 1
  have g2 : W2.cell? ⟨w.heap.size + 1, 2, none⟩ = some (.int .i64 0) := H2.out.2.2.cell 2
  have g3 := H2.out.2.2.frozen 0
  have g4 := H2.out.2.2.frozen 1
  have g5 := H2.out.2.2.frozen 2
  have hz := H2.out.1.size
  by_cases hp1 : params < 0
  · go_wp2_with fail
    have HE := Lib.hid (show toldS (checkE params bs) = (1, 0, 0) by rw [check_limits (e := (1, 0, 0)) (by unfold limitsF; rw [if_pos (Or.inl hp1)])]; rfl)
    have HGE := Lib.hid (got_set H2.out.2.2 1 0 0)
    have HBE := Lib.hid ((H2.out.1.setCell (p := ⟨w.heap.size + 1, 0, none⟩) (Nat.le_succ _) (.int .i64 1)).setCell (p := ⟨w.heap.size + 1, 1, none⟩) (Nat.le_succ _) (.int .i64 0) |>.setCell (p := ⟨w.heap.size + 1, 2, none⟩) (Nat.le_succ _) (.int .i64 0))
    go_wp2
    rw [HE.out]
    refine gotF_ret HGE.out HBE.out ?_ ?_ <;> rfl
  by_cases hp2 : 4 < params
  · go_wp2_with fail
    have HE := Lib.hid (show toldS (checkE params bs) = (1, 0, 0) by rw [check_limits (e := (1, 0, 0)) (by unfold limitsF; rw [if_pos (Or.inr hp2)])]; rfl)
    have HGE := Lib.hid (got_set H2.out.2.2 1 0 0)
    have HBE := Lib.hid ((H2.out.1.setCell (p := ⟨w.heap.size + 1, 0, none⟩) (Nat.le_succ _) (.int .i64 1)).setCell (p := ⟨w.heap.size + 1, 1, none⟩) (Nat.le_succ _) (.int .i64 0) |>.setCell (p := ⟨w.heap.size + 1, 2, none⟩) (Nat.le_succ _) (.int .i64 0))
    go_wp2
    rw [HE.out]
    refine gotF_ret HGE.out HBE.out ?_ ?_ <;> rfl
  have he0 : ((bs.length : Int) == 0) = false := beq_eq_false_iff_ne.2 (by omega)
  go_wp2_with fail
  go_loopw [4, 3] (fun i n wr => ∃ k s : Nat, k ≤ bs.length ∧ i = .int .i64 k ∧ n = .int .i64 s ∧ s + k = bs.length + uptoP bs k ∧ Below W2.heap.size W2 wr) (fun i _ _ => bs.length - (intOf i).toNat)
  case atStart => exact ⟨0, bs.length, by omega, rfl, rfl, by rw [uptoP_zero], Below.refl _ _⟩
  case round =>
    obtain ⟨k, s, hk, rfl, rfl, hs, hb⟩ := hrel
    obtain ⟨wi, rfl⟩ : ∃ wi : World, wi = wr := ⟨_, rfl⟩
    have HW := Lib.hid (H2.out.below hb)
    have HB := Lib.hid hb
    clear hb f0 f1 g0 g1 g2 g3 g4 g5 hz
    have f0 : wi.cell? ⟨w.heap.size, 0, none⟩ = some (.int .i64 params) := HW.out.2.1.cell 0
    have f1 : wi.cell? ⟨w.heap.size, 1, none⟩ = some (.slice (some ⟨gB, oB, none⟩) bs.length c) := HW.out.2.1.cell 1
    have g0 : wi.cell? ⟨w.heap.size + 1, 0, none⟩ = some (.int .i64 0) := HW.out.2.2.cell 0
    have g1 : wi.cell? ⟨w.heap.size + 1, 1, none⟩ = some (.int .i64 0) := HW.out.2.2.cell 1
    have g2 : wi.cell? ⟨w.heap.size + 1, 2, none⟩ = some (.int .i64 0) := HW.out.2.2.cell 2
    have g3 := HW.out.2.2.frozen 0
    have g4 := HW.out.2.2.frozen 1
    have g5 := HW.out.2.2.frozen 2
    have hz := HW.out.1.size
    by_cases hlt : k < bs.length
    · obtain ⟨hbl2, hbk2⟩ := open_block HBS.out hlt
      obtain ⟨p0, c0, p1, c1, p3, c3, p4, c4, r0, r1, r2, r3, r4, r5, q0, q1, q3, q4⟩ := block_rows hbk2
      have r0 := cell_keep HW.out.1 (Nat.le_refl _) r0
      have r1 := cell_keep HW.out.1 (Nat.le_refl _) r1
      have hu := uptoP_succ hlt
      have hu2 := upto_in hlt
      unfold sizeP at hu hu2
      clear hbk2 r2 r3 r4 r5 q0 q1 q3 q4
      have HS := Lib.hid (show s + bs[k].phis.length + bs[k].ins.length + (k + 1) = bs.length + uptoP bs (k + 1) by omega)
      have hsm : s + bs[k].phis.length + bs[k].ins.length ≤ 4000000000000000000 := by omega
      clear hu hu2 hs hbl hle
      generalize bs[k].phis.length = np at *
      generalize bs[k].ins.length = ni at *
      go_wp2_with fail
      go_quiet (fail)
      obtain ⟨wd, hwd⟩ : ∃ wd, wi.drewN nq = wd := ⟨_, rfl⟩
      rw [hwd]
      have HBd := Lib.hid (show Below wi.heap.size wi wd by rw [← hwd]; exact below_drewK (Below.refl _ _) _)
      clear hwd f0 f1 g0 g1 g2 g3 g4 g5 hz r0 r1
      go_wp2_with fail
      go_roundw
      case rel => exact ⟨k + 1, s + np + ni, by omega, by go_num, by go_num, HS.out, HB.out.trans (HBd.out.mono HB.out.size)⟩
      case measure => simp [intOf]; omega
    · obtain rfl : k = bs.length := by omega
      have hse : s = uptoP bs bs.length := by omega
      clear hs hbl hlt hk
      by_cases h512 : 512 < bs.length
      · go_wp2_with fail
        have HE := Lib.hid (show toldS (checkE params bs) = (2, 0, 0) by rw [check_limits (e := (2, 0, 0)) (by unfold limitsF; rw [if_neg (by omega), if_neg (by omega), if_pos h512])]; rfl)
        have HGE := Lib.hid (got_set HW.out.2.2 2 0 0)
        have HBE := Lib.hid ((HW.out.1.setCell (p := ⟨w.heap.size + 1, 0, none⟩) (Nat.le_succ _) (.int .i64 2)).setCell (p := ⟨w.heap.size + 1, 1, none⟩) (Nat.le_succ _) (.int .i64 0) |>.setCell (p := ⟨w.heap.size + 1, 2, none⟩) (Nat.le_succ _) (.int .i64 0))
        go_wp2
        rw [HE.out]
        refine gotF_ret HGE.out HBE.out ?_ ?_ <;> rfl
      by_cases h4096 : 4096 < s
      · go_wp2_with fail
        have HE := Lib.hid (show toldS (checkE params bs) = (2, 0, 0) by rw [check_limits (e := (2, 0, 0)) (by unfold limitsF; rw [if_neg (by omega), if_neg (by omega), if_neg h512, if_pos (by omega)])]; rfl)
        have HGE := Lib.hid (got_set HW.out.2.2 2 0 0)
        have HBE := Lib.hid ((HW.out.1.setCell (p := ⟨w.heap.size + 1, 0, none⟩) (Nat.le_succ _) (.int .i64 2)).setCell (p := ⟨w.heap.size + 1, 1, none⟩) (Nat.le_succ _) (.int .i64 0) |>.setCell (p := ⟨w.heap.size + 1, 2, none⟩) (Nat.le_succ _) (.int .i64 0))
        go_wp2
        rw [HE.out]
        refine gotF_ret HGE.out HBE.out ?_ ?_ <;> rfl
      have HLIM := Lib.hid (show limitsF params bs = none by unfold limitsF; rw [if_neg (by omega), if_neg (by omega), if_neg h512, if_neg (by omega)])
      have HBSi := Lib.hid (show BlocksAt wi (.slice (some ⟨gB, oB, none⟩) bs.length c) bs from RowAt.kept HBS.out (fun b o x h => BlockAt.keep HW.out.1 b o x h))
      go_wp2_with fail
      refine (shape_any wi params gB oB c bs HBSi.out (by omega) HPI.out HWF.out (by omega) (by omega)).mono ?_
      rintro e W5 ⟨rfl, hb5⟩
      have H5 := Lib.hid (HW.out.below hb5)
      clear hb5 f0 f1 g0 g1 g2 g3 g4 g5 hz
      cases hov : overE (look1 params bs.length) bs (fun _ => none) with
      | error e =>
        obtain ⟨x, y, z⟩ := e
        have hx : x ≠ 0 := first_code hov
        have HE := Lib.hid (show toldS (checkE params bs) = (x, y, z) by rw [check_shape HLIM.out hov]; rfl)
        clear hov
        dsimp only [toldS, gotV]
        have f0 : W5.cell? ⟨w.heap.size, 0, none⟩ = some (.int .i64 params) := H5.out.2.1.cell 0
        have f1 : W5.cell? ⟨w.heap.size, 1, none⟩ = some (.slice (some ⟨gB, oB, none⟩) bs.length c) := H5.out.2.1.cell 1
        have g0 : W5.cell? ⟨w.heap.size + 1, 0, none⟩ = some (.int .i64 0) := H5.out.2.2.cell 0
        have g1 : W5.cell? ⟨w.heap.size + 1, 1, none⟩ = some (.int .i64 0) := H5.out.2.2.cell 1
        have g2 : W5.cell? ⟨w.heap.size + 1, 2, none⟩ = some (.int .i64 0) := H5.out.2.2.cell 2
        have g3 := H5.out.2.2.frozen 0
        have g4 := H5.out.2.2.frozen 1
        have g5 := H5.out.2.2.frozen 2
        have hz := H5.out.1.size
        go_upto_region 13 with (fail)
        obtain ⟨W6, hW6⟩ : ∃ W6, W5.alloc (.cells #[.int .i64 x, .int .i64 y, .int .i64 z] 50) = W6 := ⟨_, rfl⟩
        rw [hW6]
        have hb6 : Below W5.heap.size W5 W6 := by rw [← hW6]; exact (Below.refl _ _).alloc (Nat.le_refl _) _
        have hs6 : Str W6 W5.heap.size 50 [.int .i64 x, .int .i64 y, .int .i64 z] := by rw [← hW6]; exact World.alloc_heap_new W5 _
        have H6 := Lib.hid (H5.out.below hb6)
        have e0 : W6.cell? ⟨W5.heap.size, 0, none⟩ = some (.int .i64 x) := hs6.cell 0
        have e1 : W6.cell? ⟨W5.heap.size, 1, none⟩ = some (.int .i64 y) := hs6.cell 1
        have e2 : W6.cell? ⟨W5.heap.size, 2, none⟩ = some (.int .i64 z) := hs6.cell 2
        clear hW6 hb6 hs6 f0 f1 g0 g1 g2 g3 g4 g5 hz
        have f0 : W6.cell? ⟨w.heap.size, 0, none⟩ = some (.int .i64 params) := H6.out.2.1.cell 0
        have f1 : W6.cell? ⟨w.heap.size, 1, none⟩ = some (.slice (some ⟨gB, oB, none⟩) bs.length c) := H6.out.2.1.cell 1
        have g0 : W6.cell? ⟨w.heap.size + 1, 0, none⟩ = some (.int .i64 0) := H6.out.2.2.cell 0
        have g1 : W6.cell? ⟨w.heap.size + 1, 1, none⟩ = some (.int .i64 0) := H6.out.2.2.cell 1
        have g2 : W6.cell? ⟨w.heap.size + 1, 2, none⟩ = some (.int .i64 0) := H6.out.2.2.cell 2
        have g3 := H6.out.2.2.frozen 0
        have g4 := H6.out.2.2.frozen 1
        have g5 := H6.out.2.2.frozen 2
        have hz := H6.out.1.size
        have hx2 : (x != 0) = true := bne_iff_ne.2 hx
        have HGE := Lib.hid (got_set H6.out.2.2 x y z)
        have HBE := Lib.hid ((H6.out.1.setCell (p := ⟨w.heap.size + 1, 0, none⟩) (Nat.le_succ _) (.int .i64 x)).setCell (p := ⟨w.heap.size + 1, 1, none⟩) (Nat.le_succ _) (.int .i64 y) |>.setCell (p := ⟨w.heap.size + 1, 2, none⟩) (Nat.le_succ _) (.int .i64 z))
        go_wp2
        rw [HE.out]
        refine gotF_ret HGE.out HBE.out ?_ ?_ <;> rfl
      | ok f =>
        have HOV := Lib.hid hov
        clear hov
        dsimp only [toldS, gotV]
        have f0 : W5.cell? ⟨w.heap.size, 0, none⟩ = some (.int .i64 params) := H5.out.2.1.cell 0
        have f1 : W5.cell? ⟨w.heap.size, 1, none⟩ = some (.slice (some ⟨gB, oB, none⟩) bs.length c) := H5.out.2.1.cell 1
        have g0 : W5.cell? ⟨w.heap.size + 1, 0, none⟩ = some (.int .i64 0) := H5.out.2.2.cell 0
        have g1 : W5.cell? ⟨w.heap.size + 1, 1, none⟩ = some (.int .i64 0) := H5.out.2.2.cell 1
        have g2 : W5.cell? ⟨w.heap.size + 1, 2, none⟩ = some (.int .i64 0) := H5.out.2.2.cell 2
        have g3 := H5.out.2.2.frozen 0
        have g4 := H5.out.2.2.frozen 1
        have g5 := H5.out.2.2.frozen 2
        have hz := H5.out.1.size
        go_upto_region 13 with (fail)
        obtain ⟨W6, hW6⟩ : ∃ W6, W5.alloc (.cells #[.int .i64 0, .int .i64 0, .int .i64 0] 50) = W6 := ⟨_, rfl⟩
        rw [hW6]
        have hb6 : Below W5.heap.size W5 W6 := by rw [← hW6]; exact (Below.refl _ _).alloc (Nat.le_refl _) _
        have hs6 : Str W6 W5.heap.size 50 [.int .i64 0, .int .i64 0, .int .i64 0] := by rw [← hW6]; exact World.alloc_heap_new W5 _
        have H6 := Lib.hid (H5.out.below hb6)
        have e0 : W6.cell? ⟨W5.heap.size, 0, none⟩ = some (.int .i64 0) := hs6.cell 0
        have e1 : W6.cell? ⟨W5.heap.size, 1, none⟩ = some (.int .i64 0) := hs6.cell 1
        have e2 : W6.cell? ⟨W5.heap.size, 2, none⟩ = some (.int .i64 0) := hs6.cell 2
        clear hW6 hb6 hs6 f0 f1 g0 g1 g2 g3 g4 g5 hz
        have f0 : W6.cell? ⟨w.heap.size, 0, none⟩ = some (.int .i64 params) := H6.out.2.1.cell 0
        have f1 : W6.cell? ⟨w.heap.size, 1, none⟩ = some (.slice (some ⟨gB, oB, none⟩) bs.length c) := H6.out.2.1.cell 1
        have g0 : W6.cell? ⟨w.heap.size + 1, 0, none⟩ = some (.int .i64 0) := H6.out.2.2.cell 0
        have g1 : W6.cell? ⟨w.heap.size + 1, 1, none⟩ = some (.int .i64 0) := H6.out.2.2.cell 1
        have g2 : W6.cell? ⟨w.heap.size + 1, 2, none⟩ = some (.int .i64 0) := H6.out.2.2.cell 2
        have g3 := H6.out.2.2.frozen 0
        have g4 := H6.out.2.2.frozen 1
        have g5 := H6.out.2.2.frozen 2
        have hz := H6.out.1.size
        have HBS6 := Lib.hid (show BlocksAt W6 (.slice (some ⟨gB, oB, none⟩) bs.length c) bs from RowAt.kept HBS.out (fun b o x h => BlockAt.keep H6.out.1 b o x h))
        go_wp2_with fail
        refine (reached3_any W6 params gB oB c bs (-1) HBS6.out (by omega) h0).mono ?_
        rintro e W7 ⟨gR, lR, rfl, hlR, hbR, hb7, hsR⟩
        have H7 := Lib.hid (H6.out.below hb7)
        clear hb7 e0 e1 e2 f0 f1 g0 g1 g2 g3 g4 g5 hz
        have f0 : W7.cell? ⟨w.heap.size, 0, none⟩ = some (.int .i64 params) := H7.out.2.1.cell 0
        have f1 : W7.cell? ⟨w.heap.size, 1, none⟩ = some (.slice (some ⟨gB, oB, none⟩) bs.length c) := H7.out.2.1.cell 1
        have g0 : W7.cell? ⟨w.heap.size + 1, 0, none⟩ = some (.int .i64 0) := H7.out.2.2.cell 0
        have g1 : W7.cell? ⟨w.heap.size + 1, 1, none⟩ = some (.int .i64 0) := H7.out.2.2.cell 1
        have g2 : W7.cell? ⟨w.heap.size + 1, 2, none⟩ = some (.int .i64 0) := H7.out.2.2.cell 2
        have g3 := H7.out.2.2.frozen 0
        have g4 := H7.out.2.2.frozen 1
        have g5 := H7.out.2.2.frozen 2
        have hz := H7.out.1.size
        go_upto_region 17 with (fail)
        obtain ⟨W8, hW8⟩ : ∃ W8, W7.alloc (.cells #[] 80) = W8 := ⟨_, rfl⟩
        rw [hW8]
        have hb8 : Below W7.heap.size W7 W8 := by rw [← hW8]; exact (Below.refl _ _).alloc (Nat.le_refl _) _
        have ho8 : W8.ownsRow W7.heap.size 80 1 (.slice (some ⟨W7.heap.size, 0, none⟩) 0 0) 0 [] := by rw [← hW8]; exact World.ownsRow_made W7 #[] 0 (Nat.le_refl _) (Nat.zero_le _) (by simp)
        have H8 := Lib.hid (H7.out.below hb8)
        have HA8 := Lib.hid (show AwayOwn w.heap.size W8 bs (.slice (some ⟨W7.heap.size, 0, none⟩) 0 0) 0 from ⟨[], rfl, own_base ho8 hz, fun i hi => by simp at hi⟩)
        have HR8 := Lib.hid (show Bools W6.heap.size gR W8 lR from own_below hbR hb8)
        have HSR := Lib.hid (fun x => wayB_of hsR x)
        clear hW8 hb8 ho8 hbR hsR f0 f1 g0 g1 g2 g3 g4 g5 hz
        have f0 : W8.cell? ⟨w.heap.size, 0, none⟩ = some (.int .i64 params) := H8.out.2.1.cell 0
        have f1 : W8.cell? ⟨w.heap.size, 1, none⟩ = some (.slice (some ⟨gB, oB, none⟩) bs.length c) := H8.out.2.1.cell 1
        have g0 : W8.cell? ⟨w.heap.size + 1, 0, none⟩ = some (.int .i64 0) := H8.out.2.2.cell 0
        have g1 : W8.cell? ⟨w.heap.size + 1, 1, none⟩ = some (.int .i64 0) := H8.out.2.2.cell 1
        have g2 : W8.cell? ⟨w.heap.size + 1, 2, none⟩ = some (.int .i64 0) := H8.out.2.2.cell 2
        have g3 := H8.out.2.2.frozen 0
        have g4 := H8.out.2.2.frozen 1
        have g5 := H8.out.2.2.frozen 2
        have hz := H8.out.1.size
        generalize W7.heap.size = gA at *
        go_wp2_with fail
        go_loopw [8] (fun i wr => ∃ k : Nat, k ≤ bs.length ∧ i = .int .i64 k ∧ (∀ j, j < k → wayB bs (-1) j = true) ∧ wr = W8) (fun i _ => bs.length - (intOf i).toNat)
        case atStart => exact ⟨0, by omega, rfl, fun j hj => by omega, rfl⟩
        case round =>
          obtain ⟨k, hk, rfl, hpre, hw8⟩ := hrel
          obtain rfl : W8 = wr := hw8.symm
          have HPRE := Lib.hid hpre
          clear hpre
          by_cases hlt : k < bs.length
          · have hkl : k < lR.length := by omega
            have b0 := HR8.out.cell hkl
            have b1 : lR[k] = wayB bs (-1) k := by rw [← HSR.out k, List.getD_eq_getElem?_getD, List.getElem?_eq_getElem hkl]; rfl
            rw [b1] at b0
            clear b1 hkl
            cases hwb : wayB bs (-1) k with
            | false =>
              rw [hwb] at b0
              have HMI := Lib.hid (miss_some hlt hwb HPRE.out)
              clear hwb
              have HE := Lib.hid (show toldS (checkE params bs) = (15, (k : Int), 0) by rw [check_miss HLIM.out HOV.out HMI.out]; rfl)
              have HGE := Lib.hid (got_set H8.out.2.2 15 (k : Int) 0)
              have HBE := Lib.hid ((H8.out.1.setCell (p := ⟨w.heap.size + 1, 0, none⟩) (Nat.le_succ _) (.int .i64 15)).setCell (p := ⟨w.heap.size + 1, 1, none⟩) (Nat.le_succ _) (.int .i64 (k : Int)) |>.setCell (p := ⟨w.heap.size + 1, 2, none⟩) (Nat.le_succ _) (.int .i64 0))
              go_wp2
              rw [HE.out]
              refine gotF_ret HGE.out HBE.out ?_ ?_ <;> rfl
            | true =>
              rw [hwb] at b0
              have HPN := Lib.hid (show ∀ j, j < k + 1 → wayB bs (-1) j = true from fun j hj => by
                rcases Nat.lt_or_ge j k with h | h
                · exact HPRE.out j h
                · obtain rfl : j = k := by omega
                  exact hwb)
              clear hwb
              go_wp2_with fail
              go_roundw
              case rel => exact ⟨k + 1, by omega, by go_num, HPN.out, trivial⟩
              case measure => simp [intOf]; omega
          · obtain rfl : k = bs.length := by omega
            have HMI := Lib.hid (miss_none HPRE.out)
            have HSEC := Lib.hid (check_second HLIM.out HOV.out HMI.out)
            clear HPRE HR8 HMI
            go_wp2_with fail
            go_loopw [9, 7] (fun i v wr => ∃ (k : Nat) (A : Option Addr) (cA : Nat), k ≤ bs.length ∧ i = .int .i64 k ∧ v = .slice A k cA ∧ AwayOwn w.heap.size wr bs (.slice A k cA) k ∧ Fs w params (.slice (some ⟨gB, oB, none⟩) bs.length c) wr) (fun i _ _ => bs.length - (intOf i).toNat)
            case atStart => exact ⟨0, _, _, by omega, rfl, rfl, HA8.out, H8.out⟩
            case round =>
              obtain ⟨k, A, cA, hk, rfl, rfl, hao, hf⟩ := hrel
              obtain ⟨wj, rfl⟩ : ∃ wj : World, wj = wr := ⟨_, rfl⟩
              have HAO := Lib.hid hao
              have HJ := Lib.hid hf
              clear hao hf f0 f1 g0 g1 g2 g3 g4 g5 hz
              have f0 : wj.cell? ⟨w.heap.size, 0, none⟩ = some (.int .i64 params) := HJ.out.2.1.cell 0
              have f1 : wj.cell? ⟨w.heap.size, 1, none⟩ = some (.slice (some ⟨gB, oB, none⟩) bs.length c) := HJ.out.2.1.cell 1
              have g0 : wj.cell? ⟨w.heap.size + 1, 0, none⟩ = some (.int .i64 0) := HJ.out.2.2.cell 0
              have g1 : wj.cell? ⟨w.heap.size + 1, 1, none⟩ = some (.int .i64 0) := HJ.out.2.2.cell 1
              have g2 : wj.cell? ⟨w.heap.size + 1, 2, none⟩ = some (.int .i64 0) := HJ.out.2.2.cell 2
              have g3 := HJ.out.2.2.frozen 0
              have g4 := HJ.out.2.2.frozen 1
              have g5 := HJ.out.2.2.frozen 2
              have hz := HJ.out.1.size
              by_cases hlt : k < bs.length
              · have HBSj := Lib.hid (show BlocksAt wj (.slice (some ⟨gB, oB, none⟩) bs.length c) bs from RowAt.kept HBS.out (fun b o x h => BlockAt.keep HJ.out.1 b o x h))
                go_wp2_with fail
                refine (reached3_any wj params gB oB c bs (k : Int) HBSj.out (by omega) h0).mono ?_
                rintro e W9 ⟨gk, lk, rfl, hlk, hbk, hb9, hsk⟩
                have H9 := Lib.hid (HJ.out.below hb9)
                have HAK := Lib.hid (HAO.out.below hb9)
                have HBK := Lib.hid (own_base hbk hz)
                have HSK := Lib.hid (fun x => wayB_of hsk x)
                clear hb9 hbk hsk f0 f1 g0 g1 g2 g3 g4 g5 hz
                have f0 : W9.cell? ⟨w.heap.size, 0, none⟩ = some (.int .i64 params) := H9.out.2.1.cell 0
                have f1 : W9.cell? ⟨w.heap.size, 1, none⟩ = some (.slice (some ⟨gB, oB, none⟩) bs.length c) := H9.out.2.1.cell 1
                have g0 : W9.cell? ⟨w.heap.size + 1, 0, none⟩ = some (.int .i64 0) := H9.out.2.2.cell 0
                have g1 : W9.cell? ⟨w.heap.size + 1, 1, none⟩ = some (.int .i64 0) := H9.out.2.2.cell 1
                have g2 : W9.cell? ⟨w.heap.size + 1, 2, none⟩ = some (.int .i64 0) := H9.out.2.2.cell 2
                have g3 := H9.out.2.2.frozen 0
                have g4 := H9.out.2.2.frozen 1
                have g5 := H9.out.2.2.frozen 2
                have hz := H9.out.1.size
                obtain ⟨gs, hgl, ho, hp⟩ := HAK.out
                have HO := Lib.hid ho
                have HP := Lib.hid hp
                have HGL := Lib.hid hgl
                clear ho hp hgl HAK
                go_wp2_with (at_builtin; refine wpList_append1 rfl _ _ _ rfl w.heap.size 80 i0 (.slice none 0 0) 24 Try.underlying82 HI0.out HZ0.out HZ1.out HZ2.out rfl (.slice A k cA) k (gs.map fun g => Value.slice (some ⟨g, 0, none⟩) bs.length bs.length) rfl (own_below HO.out ((Below.refl _ _).alloc (Nat.le_refl _) (.cells #[.slice (some ⟨gk, 0, none⟩) bs.length bs.length] 80))) ⟨W9.heap.size, 0, none⟩ (.slice (some ⟨gk, 0, none⟩) bs.length bs.length) rfl (cell_made rfl) rfl (by omega) (by omega) (by rw [World.size_alloc]; omega) ?_)
                intro v5 W10 hr hg hm
                have hba : Below W9.heap.size W9 (W9.alloc (.cells #[.slice (some ⟨gk, 0, none⟩) bs.length bs.length] 80)) := (Below.refl _ _).alloc (Nat.le_refl _) _
                have H10 := Lib.hid (show Fs w params (.slice (some ⟨gB, oB, none⟩) bs.length c) W10 from
                  ⟨below_own (H9.out.1.trans (hba.mono hz)) (by rw [World.size_alloc]; omega) hg (fun g hg => (HO.out.lt g hg).1), (H9.out.2.1.below hba).kept hg (fun e => H9.out.2.1.not_row (by decide) HO.out e), (H9.out.2.2.below hba).kept hg (fun e => H9.out.2.2.not_row (by decide) HO.out e)⟩)
                have HA10 := Lib.hid (AwayOwn.push HGL.out (own_below HO.out hba) (fun i hi => by obtain ⟨l, a, b, c⟩ := HP.out i hi; exact ⟨l, a, own_below b hba, c⟩) hlk (own_below HBK.out hba) HSK.out hr hg)
                obtain ⟨vA, vc, hvf⟩ := own_form hr
                subst hvf
                clear hr hg hm hba f0 f1 g0 g1 g2 g3 g4 g5 hz
                go_wp2_with fail
                go_roundw
                case rel => exact ⟨k + 1, vA, vc, by omega, by go_num, rfl, HA10.out, H10.out⟩
                case measure => simp [intOf]; omega
              · obtain rfl : k = bs.length := by omega
                have HBSj := Lib.hid (show BlocksAt wj (.slice (some ⟨gB, oB, none⟩) bs.length c) bs from RowAt.kept HBS.out (fun b o x h => BlockAt.keep HJ.out.1 b o x h))
                obtain ⟨gW, rfl⟩ : ∃ g, A = some ⟨g, 0, none⟩ := by
                  obtain ⟨A', c', e, hA⟩ := HAO.out.form
                  injection e with e1 _ _
                  subst e1
                  exact hA h0
                have HAW := Lib.hid HAO.out.at
                clear HAO hlt hk
                go_wp2_with fail
                refine (things_any wj params gB oB c bs HBSj.out (by omega) HPI.out).mono ?_
                rintro e W11 ⟨v, rfl, hto, hb11⟩
                have hrow := hto.read hb11
                rw [← items_things] at hrow
                obtain ⟨tA, tc, hvf⟩ := hto.form
                rw [← items_things, List.length_map] at hvf
                subst hvf
                have H11 := Lib.hid (HJ.out.below hb11)
                have HAW11 := Lib.hid (HAW.out.below hb11)
                have HTL := Lib.hid (row_len hrow).2
                have HROW := Lib.hid hrow
                clear hto hb11 hrow f0 f1 g0 g1 g2 g3 g4 g5 hz
                have f0 : W11.cell? ⟨w.heap.size, 0, none⟩ = some (.int .i64 params) := H11.out.2.1.cell 0
                have f1 : W11.cell? ⟨w.heap.size, 1, none⟩ = some (.slice (some ⟨gB, oB, none⟩) bs.length c) := H11.out.2.1.cell 1
                have g0 : W11.cell? ⟨w.heap.size + 1, 0, none⟩ = some (.int .i64 0) := H11.out.2.2.cell 0
                have g1 : W11.cell? ⟨w.heap.size + 1, 1, none⟩ = some (.int .i64 0) := H11.out.2.2.cell 1
                have g2 : W11.cell? ⟨w.heap.size + 1, 2, none⟩ = some (.int .i64 0) := H11.out.2.2.cell 2
                have g3 := H11.out.2.2.frozen 0
                have g4 := H11.out.2.2.frozen 1
                have g5 := H11.out.2.2.frozen 2
                have hz := H11.out.1.size
                have HTI := Lib.hid (things_int HWF.out)
                rw [← items_things] at HTI HSEC
                go_wp2_with fail
                have hsi := sites_any W11 tA tc ((itemsL bs).map Item.thing) (by rw [List.length_map]; exact HROW.out) HTI.out
                rw [List.length_map] at hsi
                refine hsi.mono ?_
                rintro e W12 ⟨gS, rfl, hsa, hb12⟩
                clear hsi
                have H12 := Lib.hid (H11.out.below hb12)
                have HAW12 := Lib.hid (HAW11.out.below hb12)
                have HROW12 := Lib.hid (show RowAt W12 4 ThingAt (.slice tA (itemsL bs).length tc) ((itemsL bs).map Item.thing) from RowAt.kept HROW.out (fun b o x hx => ThingAt.keep hb12 b o x hx))
                have HSI := Lib.hid hsa
                clear hb12 hsa f0 f1 g0 g1 g2 g3 g4 g5 hz
                have f0 : W12.cell? ⟨w.heap.size, 0, none⟩ = some (.int .i64 params) := H12.out.2.1.cell 0
                have f1 : W12.cell? ⟨w.heap.size, 1, none⟩ = some (.slice (some ⟨gB, oB, none⟩) bs.length c) := H12.out.2.1.cell 1
                have g0 : W12.cell? ⟨w.heap.size + 1, 0, none⟩ = some (.int .i64 0) := H12.out.2.2.cell 0
                have g1 : W12.cell? ⟨w.heap.size + 1, 1, none⟩ = some (.int .i64 0) := H12.out.2.2.cell 1
                have g2 : W12.cell? ⟨w.heap.size + 1, 2, none⟩ = some (.int .i64 0) := H12.out.2.2.cell 2
                have g3 := H12.out.2.2.frozen 0
                have g4 := H12.out.2.2.frozen 1
                have g5 := H12.out.2.2.frozen 2
                have hz := H12.out.1.size
                have HIN := Lib.hid (show InB bs.length (sitesF ((itemsL bs).map Item.thing)) by
                  rw [items_things, (sites_same hp1 HOV.out).1]; exact made_in (fun _ _ h => by cases h) HOV.out)
                generalize hF : sitesF ((itemsL bs).map Item.thing) = F at HIN HSI HSEC
                clear hF
                have HFIT := Lib.hid (items_fit bs)
                obtain ⟨BS, hBS⟩ : ∃ BS, W11.heap.size = BS := ⟨_, rfl⟩
                rw [hBS] at HSI
                clear hBS HOV HLIM
                have htl := HTL.out
                go_wp2_with fail
                go_loopw [12, 13, 14, 15, 16, 17, 18, 19, 20] (fun i _ _ _ _ _ _ _ _ wr => ∃ k : Nat, k ≤ (itemsL bs).length ∧ i = .int .i64 k ∧ runI (lookI (look2 bs ((List.range bs.length).map fun b : Nat => comeL bs b bs.length) (standB params F fun a => wayB bs (a : Int)))) ((itemsL bs).drop k) () = checkE params bs ∧ Below W12.heap.size W12 wr) (fun i _ _ _ _ _ _ _ _ _ => (itemsL bs).length - (intOf i).toNat)
                case atStart => exact ⟨0, by omega, rfl, HSEC.out.symm, Below.refl _ _⟩
                case round =>
                  obtain ⟨k, hk, rfl, hov, hb⟩ := hrel
                  obtain ⟨wo, rfl⟩ : ∃ wo : World, wo = wr := ⟨_, rfl⟩
                  have HV := Lib.hid hov
                  have HB := Lib.hid hb
                  have HO := Lib.hid (H12.out.below hb)
                  have HR := Lib.hid (show RowAt wo 4 ThingAt (.slice tA (itemsL bs).length tc) ((itemsL bs).map Item.thing) from RowAt.kept HROW12.out (fun b o x hx => ThingAt.keep hb b o x hx))
                  have HBSo := Lib.hid (show BlocksAt wo (.slice (some ⟨gB, oB, none⟩) bs.length c) bs from RowAt.kept HBS.out (fun b o x h => BlockAt.keep HO.out.1 b o x h))
                  clear hov hb f0 f1 g0 g1 g2 g3 g4 g5 hz
                  have f0 : wo.cell? ⟨w.heap.size, 0, none⟩ = some (.int .i64 params) := HO.out.2.1.cell 0
                  have f1 : wo.cell? ⟨w.heap.size, 1, none⟩ = some (.slice (some ⟨gB, oB, none⟩) bs.length c) := HO.out.2.1.cell 1
                  have g0 : wo.cell? ⟨w.heap.size + 1, 0, none⟩ = some (.int .i64 0) := HO.out.2.2.cell 0
                  have g1 : wo.cell? ⟨w.heap.size + 1, 1, none⟩ = some (.int .i64 0) := HO.out.2.2.cell 1
                  have g2 : wo.cell? ⟨w.heap.size + 1, 2, none⟩ = some (.int .i64 0) := HO.out.2.2.cell 2
                  have g3 := HO.out.2.2.frozen 0
                  have g4 := HO.out.2.2.frozen 1
                  have g5 := HO.out.2.2.frozen 2
                  have hz := HO.out.1.size
                  by_cases hlt : k < (itemsL bs).length
                  · have HVS := Lib.hid ((runI_drop hlt ()).symm.trans HV.out)
                    have hfit := HFIT.out _ (List.getElem_mem hlt)
                    obtain ⟨A', c', gT, oT, e, u1, u2, u3, u4⟩ := HR.out
                    rw [List.length_map] at e u1
                    injection e with e1 _ e3
                    subst e1 e3
                    have e1 := u3 (by rw [List.length_map]; omega)
                    subst e1
                    have hth := u4 k (by rw [List.length_map]; exact hlt)
                    rw [List.getElem_map] at hth
                    clear u3 u4
                    generalize hit : (itemsL bs)[k] = it at *
                    clear hit
                    obtain ⟨t0, t1, ⟨vm, t2, hm2⟩, ⟨vt, t3, ht3⟩⟩ := hth
                    obtain ⟨mA, mc, rfl, hm3⟩ := hm2
                    clear hm3
                    obtain ⟨kA, kc, rfl, ht4⟩ := ht3
                    have HTK := Lib.hid (show Ints wo (.slice kA it.thing.takes.length kc) it.thing.takes from ⟨kA, kc, rfl, ht4⟩)
                    clear ht4
                    have eb : it.thing.block = (it.blk : Int) := by cases it <;> rfl
                    have ep : it.thing.place = it.plc := by cases it <;> rfl
                    rw [eb] at t0
                    rw [ep] at t1
                    clear eb ep
                    generalize it.thing.makes.length = mkl at *
                    have hbk : it.blk < bs.length := by cases it <;> exact hfit.1
                    have HKI := Lib.hid (kinds2 (preds := (List.range bs.length).map fun b : Nat => comeL bs b bs.length) (K := standB params F fun a => wayB bs (a : Int)) bs it hfit hbk)
                    obtain ⟨hbl2, hbk2⟩ := open_block HBSo.out hbk
                    obtain ⟨p0, c0, p1, c1, p3, c3, p4, c4, r0, r1, r2, r3, r4, r5, q0, q1, q3, q4⟩ := block_rows hbk2
                    have HQ0 := Lib.hid q0
                    clear q0 q1 q3 q4 hbk2 hfit hbl2
                    generalize bs[it.blk].ins.length = nx1 at *
                    generalize bs[it.blk].term.kind = nx2 at *
                    generalize bs[it.blk].term.args.length = nx3 at *
                    generalize bs[it.blk].term.to.length = nx4 at *
                    generalize bs[it.blk].term.imm = nx5 at *
                    go_upto_region 32 with (fail)
                    obtain ⟨WT, hWT⟩ : ∃ WT, wo.alloc (.cells #[.int .i64 (it.blk : Int), .int .i64 it.plc, .slice mA mkl mc, .slice kA it.thing.takes.length kc] 87) = WT := ⟨_, rfl⟩
                    rw [hWT]
                    have hbt : Below wo.heap.size wo WT := by rw [← hWT]; exact (Below.refl _ _).alloc (Nat.le_refl _) _
                    have hst : Str WT wo.heap.size 87 [.int .i64 (it.blk : Int), .int .i64 it.plc, .slice mA mkl mc, .slice kA it.thing.takes.length kc] := by rw [← hWT]; exact World.alloc_heap_new wo _
                    have hzWT : WT.heap.size = wo.heap.size + 1 := by rw [← hWT]; simp
                    clear hWT
                    have f1 := cell_keep hbt (Nat.le_refl _) f1
                    have r0 := cell_keep hbt (Nat.le_refl _) r0
                    have r1 := cell_keep hbt (Nat.le_refl _) r1
                    have r2 := cell_keep hbt (Nat.le_refl _) r2
                    have r3 := cell_keep hbt (Nat.le_refl _) r3
                    have r4 := cell_keep hbt (Nat.le_refl _) r4
                    have r5 := cell_keep hbt (Nat.le_refl _) r5
                    have t0 : WT.cell? ⟨wo.heap.size, 0, none⟩ = some (.int .i64 (it.blk : Int)) := hst.cell 0
                    go_upto_region 33 with (fail)
                    obtain ⟨WX, hWX⟩ : ∃ WX, WT.alloc (.cells #[.slice p0 bs[it.blk].phis.length c0, .slice p1 nx1 c1, .int .i64 nx2, .slice p3 nx3 c3, .slice p4 nx4 c4, .int .i32 nx5] 34) = WX := ⟨_, rfl⟩
                    rw [hWX]
                    have hbx : Below WT.heap.size WT WX := by rw [← hWX]; exact (Below.refl _ _).alloc (Nat.le_refl _) _
                    have hsx : Str WX WT.heap.size 34 [.slice p0 bs[it.blk].phis.length c0, .slice p1 nx1 c1, .int .i64 nx2, .slice p3 nx3 c3, .slice p4 nx4 c4, .int .i32 nx5] := by rw [← hWX]; exact World.alloc_heap_new WT _
                    have hzWX : WX.heap.size = WT.heap.size + 1 := by rw [← hWX]; simp
                    clear hWX
                    have hst := hst.below hbx
                    rw [hzWT] at hsx
                    have HBX := Lib.hid (show Below wo.heap.size wo WX from hbt.trans (hbx.mono hbt.size))
                    obtain ⟨tb, htb⟩ : ∃ tb, wo.heap.size = tb := ⟨_, rfl⟩
                    have HSX := Lib.hid (show Sv w params (.slice (some ⟨gB, oB, none⟩) bs.length c) BS gS gW bs.length F (fun a => wayB bs (a : Int)) tb (tb + 1) [.int .i64 (it.blk : Int), .int .i64 it.plc, .slice mA mkl mc, .slice kA it.thing.takes.length kc] [.slice p0 bs[it.blk].phis.length c0, .slice p1 nx1 c1, .int .i64 nx2, .slice p3 nx3 c3, .slice p4 nx4 c4, .int .i32 nx5] (.slice kA it.thing.takes.length kc) it.thing.takes WX from
                      ⟨HO.out.below HBX.out, (HSI.out.below HB.out).below HBX.out, (HAW12.out.below HB.out).below HBX.out, htb ▸ hst, htb ▸ hsx, HTK.out.keep HBX.out⟩)
                    have HBX2 := Lib.hid (HB.out.trans (HBX.out.mono HB.out.size))
                    have HQX := Lib.hid HQ0.out
                    have htw : w.heap.size + 1 < tb := by have := HO.out.2.2.lt; omega
                    have hzX : WX.heap.size = tb + 2 := by omega
                    rw [htb]
                    clear hbt hbx hst hsx hzWT hzWX t0 t1 t2 t3 r0 r1 r2 r3 r4 r5 f0 f1 g0 g1 g2 g3 g4 g5 hz
                    rcases HKI.out with ⟨n, hn, hpl, hlk⟩ | ⟨hpl, hlk⟩
                    · have hpl0 : it.plc < 0 := by omega
                      have e39 : -1 - it.plc = (n : Int) := by omega
                      rw [hlk] at HVS
                      obtain ⟨HBAD, HMIS, HOK⟩ := phi_cases (come_get hbk) HVS.out
                      have HBAD := Lib.hid HBAD
                      have HMIS := Lib.hid HMIS
                      have HOK := Lib.hid HOK
                      clear hlk HKI hpl HVS
                      obtain ⟨A', c', gP, oP, e, v1, v2, v3, v4⟩ := HQ0.out
                      injection e with e1 _ e3
                      subst e1 e3
                      have e1 := v3 (by omega)
                      subst e1
                      unfold maxLen at v2
                      obtain ⟨d0, vI, d1, hrI⟩ := v4 n hn
                      have d1 := cell_keep HBX.out (Nat.le_refl _) d1
                      clear d0 v3 v4
                      have hphm : bs[it.blk].phis[n] ∈ bs[it.blk].phis := List.getElem_mem hn
                      generalize bs[it.blk].phis[n] = ph at *
                      clear hphm
                      obtain ⟨pI, cI, gI, oI, e, x1, x2, x3, x4⟩ := hrI
                      subst e
                      unfold maxLen at x2
                      have HX3 := Lib.hid x3
                      have HX4 := Lib.hid x4
                      clear x3 x4 HQ0 HQX
                      generalize bs[it.blk].phis.length = nph at *
                      generalize it.plc = pl at *
                      have f0 : WX.cell? ⟨w.heap.size, 0, none⟩ = some (.int .i64 params) := HSX.out.fs.2.1.cell 0
                      have f1 : WX.cell? ⟨w.heap.size, 1, none⟩ = some (.slice (some ⟨gB, oB, none⟩) bs.length c) := HSX.out.fs.2.1.cell 1
                      have g0 : WX.cell? ⟨w.heap.size + 1, 0, none⟩ = some (.int .i64 0) := HSX.out.fs.2.2.cell 0
                      have g1 : WX.cell? ⟨w.heap.size + 1, 1, none⟩ = some (.int .i64 0) := HSX.out.fs.2.2.cell 1
                      have g2 : WX.cell? ⟨w.heap.size + 1, 2, none⟩ = some (.int .i64 0) := HSX.out.fs.2.2.cell 2
                      have g3 := HSX.out.fs.2.2.frozen 0
                      have g4 := HSX.out.fs.2.2.frozen 1
                      have g5 := HSX.out.fs.2.2.frozen 2
                      have y0 : WX.cell? ⟨tb, 0, none⟩ = some (.int .i64 (it.blk : Int)) := HSX.out.thing.cell 0
                      have y1 : WX.cell? ⟨tb, 1, none⟩ = some (.int .i64 pl) := HSX.out.thing.cell 1
                      have y3 : WX.cell? ⟨tb, 3, none⟩ = some (.slice kA it.thing.takes.length kc) := HSX.out.thing.cell 3
                      have hz := HSX.out.fs.1.size
                      have z0 : WX.cell? ⟨tb + 1, 0, none⟩ = some (.slice (some ⟨gP, oP, none⟩) nph c0) := HSX.out.block.cell 0
                      have HBSx := Lib.hid (show BlocksAt WX (.slice (some ⟨gB, oB, none⟩) bs.length c) bs from RowAt.kept HBSo.out (fun b o x h => BlockAt.keep HBX.out b o x h))
                      go_wp2_with fail
                      refine (preds3_any WX params gB oB c bs (it.blk : Int) HBSx.out (by omega)).mono ?_
                      rintro e WP ⟨vP, rfl, hoP, hbP⟩
                      have HCI := Lib.hid (fun x => @come_in bs (it.blk : Int) x)
                      have hcl := come_len bs (it.blk : Int) bs.length
                      generalize comeL bs (it.blk : Int) bs.length = cl at *
                      obtain ⟨pA, pc, hpf⟩ := own_form hoP
                      subst hpf
                      have HPI2 := Lib.hid hoP.ints
                      have HBP := Lib.hid hbP
                      have HSP := Lib.hid (HSX.out.keep hbP)
                      have HBXP := Lib.hid (HBX.out.trans (hbP.mono HBX.out.size))
                      clear hoP hbP z0 d1 f0 f1 g0 g1 g2 g3 g4 g5 y0 y1 y3 hz
                      have f0 : WP.cell? ⟨w.heap.size, 0, none⟩ = some (.int .i64 params) := HSP.out.fs.2.1.cell 0
                      have f1 : WP.cell? ⟨w.heap.size, 1, none⟩ = some (.slice (some ⟨gB, oB, none⟩) bs.length c) := HSP.out.fs.2.1.cell 1
                      have g0 : WP.cell? ⟨w.heap.size + 1, 0, none⟩ = some (.int .i64 0) := HSP.out.fs.2.2.cell 0
                      have g1 : WP.cell? ⟨w.heap.size + 1, 1, none⟩ = some (.int .i64 0) := HSP.out.fs.2.2.cell 1
                      have g2 : WP.cell? ⟨w.heap.size + 1, 2, none⟩ = some (.int .i64 0) := HSP.out.fs.2.2.cell 2
                      have g3 := HSP.out.fs.2.2.frozen 0
                      have g4 := HSP.out.fs.2.2.frozen 1
                      have g5 := HSP.out.fs.2.2.frozen 2
                      have y0 : WP.cell? ⟨tb, 0, none⟩ = some (.int .i64 (it.blk : Int)) := HSP.out.thing.cell 0
                      have y1 : WP.cell? ⟨tb, 1, none⟩ = some (.int .i64 pl) := HSP.out.thing.cell 1
                      have y3 : WP.cell? ⟨tb, 3, none⟩ = some (.slice kA it.thing.takes.length kc) := HSP.out.thing.cell 3
                      have hz := HSP.out.fs.1.size
                      by_cases hb0 : 0 < it.blk
                      · have q0 : decide ((0 : Int) < (it.blk : Int)) = true := decide_eq_true (by omega)
                        by_cases hle2 : ph.ins.length = cl.length
                        · have q1 : ((ph.ins.length : Int) == (cl.length : Int)) = true := beq_iff_eq.2 (by omega)
                          have HLE := Lib.hid hle2
                          have hclm : ph.ins.length ≤ bs.length := by omega
                          clear hle2
                          go_wp2_with fail
                          go_loopw [18, 19] (fun f i wr => ∃ (q : Nat) (fb : Bool), q ≤ cl.length ∧ f = .bool fb ∧ i = .int .i64 q ∧ Below WP.heap.size WP wr ∧ (fb = true → (ph.ins.map (·.1)).take q = cl.take q) ∧ (fb = false → ph.ins.map (·.1) ≠ cl)) (fun _ i _ => cl.length - (intOf i).toNat)
                          case atStart => exact ⟨0, true, by omega, rfl, rfl, Below.refl _ _, fun _ => by rw [List.take_zero, List.take_zero], fun h => by cases h⟩
                          case round =>
                            obtain ⟨q, fb, hq, rfl, rfl, hbw, hT, hN⟩ := hrel
                            obtain ⟨wi, rfl⟩ : ∃ wi : World, wi = wr := ⟨_, rfl⟩
                            have HSi := Lib.hid (HSP.out.keep hbw)
                            have HBi := Lib.hid hbw
                            have HTT := Lib.hid hT
                            have HNN := Lib.hid hN
                            clear hbw hT hN f0 f1 g0 g1 g2 g3 g4 g5 y0 y1 y3 hz
                            have f0 : wi.cell? ⟨w.heap.size, 0, none⟩ = some (.int .i64 params) := HSi.out.fs.2.1.cell 0
                            have f1 : wi.cell? ⟨w.heap.size, 1, none⟩ = some (.slice (some ⟨gB, oB, none⟩) bs.length c) := HSi.out.fs.2.1.cell 1
                            have g0 : wi.cell? ⟨w.heap.size + 1, 0, none⟩ = some (.int .i64 0) := HSi.out.fs.2.2.cell 0
                            have g1 : wi.cell? ⟨w.heap.size + 1, 1, none⟩ = some (.int .i64 0) := HSi.out.fs.2.2.cell 1
                            have g2 : wi.cell? ⟨w.heap.size + 1, 2, none⟩ = some (.int .i64 0) := HSi.out.fs.2.2.cell 2
                            have g3 := HSi.out.fs.2.2.frozen 0
                            have g4 := HSi.out.fs.2.2.frozen 1
                            have g5 := HSi.out.fs.2.2.frozen 2
                            have y0 : wi.cell? ⟨tb, 0, none⟩ = some (.int .i64 (it.blk : Int)) := HSi.out.thing.cell 0
                            have y1 : wi.cell? ⟨tb, 1, none⟩ = some (.int .i64 pl) := HSi.out.thing.cell 1
                            have y3 : wi.cell? ⟨tb, 3, none⟩ = some (.slice kA it.thing.takes.length kc) := HSi.out.thing.cell 3
                            have hz := HSi.out.fs.1.size
                            cases fb with
                            | false =>
                              have HE := Lib.hid (HBAD.out (Or.inr (HNN.out rfl)))
                              have HGE := Lib.hid (got_set HSi.out.fs.2.2 16 (it.blk : Int) pl)
                              have HBE := Lib.hid ((HSi.out.fs.1.setCell (p := ⟨w.heap.size + 1, 0, none⟩) (Nat.le_succ _) (.int .i64 16)).setCell (p := ⟨w.heap.size + 1, 1, none⟩) (Nat.le_succ _) (.int .i64 (it.blk : Int)) |>.setCell (p := ⟨w.heap.size + 1, 2, none⟩) (Nat.le_succ _) (.int .i64 pl))
                              go_wp2
                              rw [HE.out]
                              refine gotF_ret HGE.out HBE.out ?_ ?_ <;> rfl
                            | true =>
                              by_cases hltq : q < cl.length
                              · have hqi : q < ph.ins.length := by have := HLE.out; omega
                                obtain ⟨z0, _⟩ := HX4.out q hqi
                                have e1 := HX3.out (by omega)
                                subst e1
                                have z0 := cell_keep (HBXP.out.trans (HBi.out.mono HBXP.out.size)) (Nat.le_refl _) z0
                                obtain ⟨ad, hpA, hx⟩ := (ints_open (HPI2.out.keep HBi.out)).2.2 q hltq
                                subst hpA
                                have HTN := Lib.hid (fun e => take_next (HTT.out rfl) hqi hltq e)
                                have HNE := Lib.hid (fun e => take_ne hqi hltq e)
                                generalize ph.ins[q].1 = x at *
                                generalize cl[q] = y at *
                                by_cases hxy : x = y
                                · have HTX := Lib.hid (HTN.out hxy)
                                  have e45 : (x == y) = true := beq_iff_eq.2 hxy
                                  clear hxy HTN HNE
                                  go_wp2_with fail
                                  go_quiet (fail)
                                  obtain ⟨wd, hwd⟩ : ∃ wd, wi.drewN nq = wd := ⟨_, rfl⟩
                                  rw [hwd]
                                  have HBd := Lib.hid (show Below wi.heap.size wi wd by rw [← hwd]; exact below_drewK (Below.refl _ _) _)
                                  have HSd := Lib.hid (HSi.out.keep HBd.out)
                                  clear hwd f0 f1 g0 g1 g2 g3 g4 g5 y0 y1 y3 hz z0 hx
                                  have f0 : wd.cell? ⟨w.heap.size, 0, none⟩ = some (.int .i64 params) := HSd.out.fs.2.1.cell 0
                                  have f1 : wd.cell? ⟨w.heap.size, 1, none⟩ = some (.slice (some ⟨gB, oB, none⟩) bs.length c) := HSd.out.fs.2.1.cell 1
                                  have g0 : wd.cell? ⟨w.heap.size + 1, 0, none⟩ = some (.int .i64 0) := HSd.out.fs.2.2.cell 0
                                  have g1 : wd.cell? ⟨w.heap.size + 1, 1, none⟩ = some (.int .i64 0) := HSd.out.fs.2.2.cell 1
                                  have g2 : wd.cell? ⟨w.heap.size + 1, 2, none⟩ = some (.int .i64 0) := HSd.out.fs.2.2.cell 2
                                  have g3 := HSd.out.fs.2.2.frozen 0
                                  have g4 := HSd.out.fs.2.2.frozen 1
                                  have g5 := HSd.out.fs.2.2.frozen 2
                                  have y0 : wd.cell? ⟨tb, 0, none⟩ = some (.int .i64 (it.blk : Int)) := HSd.out.thing.cell 0
                                  have y1 : wd.cell? ⟨tb, 1, none⟩ = some (.int .i64 pl) := HSd.out.thing.cell 1
                                  have y3 : wd.cell? ⟨tb, 3, none⟩ = some (.slice kA it.thing.takes.length kc) := HSd.out.thing.cell 3
                                  have hz := HSd.out.fs.1.size
                                  go_wp2_with fail
                                  go_roundw
                                  case rel => exact ⟨q + 1, true, by omega, by first | rfl | go_num, by go_num, HBi.out.trans (HBd.out.mono HBi.out.size), fun _ => HTX.out, fun h => by cases h⟩
                                  case measure => simp [intOf]; omega
                                · have HNX := Lib.hid (HNE.out hxy)
                                  have e45 : (x == y) = false := beq_eq_false_iff_ne.2 hxy
                                  clear hxy HTN HNE
                                  go_wp2_with fail
                                  go_quiet (fail)
                                  obtain ⟨wd, hwd⟩ : ∃ wd, wi.drewN nq = wd := ⟨_, rfl⟩
                                  rw [hwd]
                                  have HBd := Lib.hid (show Below wi.heap.size wi wd by rw [← hwd]; exact below_drewK (Below.refl _ _) _)
                                  have HSd := Lib.hid (HSi.out.keep HBd.out)
                                  clear hwd f0 f1 g0 g1 g2 g3 g4 g5 y0 y1 y3 hz z0 hx
                                  have f0 : wd.cell? ⟨w.heap.size, 0, none⟩ = some (.int .i64 params) := HSd.out.fs.2.1.cell 0
                                  have f1 : wd.cell? ⟨w.heap.size, 1, none⟩ = some (.slice (some ⟨gB, oB, none⟩) bs.length c) := HSd.out.fs.2.1.cell 1
                                  have g0 : wd.cell? ⟨w.heap.size + 1, 0, none⟩ = some (.int .i64 0) := HSd.out.fs.2.2.cell 0
                                  have g1 : wd.cell? ⟨w.heap.size + 1, 1, none⟩ = some (.int .i64 0) := HSd.out.fs.2.2.cell 1
                                  have g2 : wd.cell? ⟨w.heap.size + 1, 2, none⟩ = some (.int .i64 0) := HSd.out.fs.2.2.cell 2
                                  have g3 := HSd.out.fs.2.2.frozen 0
                                  have g4 := HSd.out.fs.2.2.frozen 1
                                  have g5 := HSd.out.fs.2.2.frozen 2
                                  have y0 : wd.cell? ⟨tb, 0, none⟩ = some (.int .i64 (it.blk : Int)) := HSd.out.thing.cell 0
                                  have y1 : wd.cell? ⟨tb, 1, none⟩ = some (.int .i64 pl) := HSd.out.thing.cell 1
                                  have y3 : wd.cell? ⟨tb, 3, none⟩ = some (.slice kA it.thing.takes.length kc) := HSd.out.thing.cell 3
                                  have hz := HSd.out.fs.1.size
                                  go_wp2_with fail
                                  go_roundw
                                  case rel => exact ⟨q + 1, false, by omega, by first | rfl | go_num, by go_num, HBi.out.trans (HBd.out.mono HBi.out.size), fun h => (by cases h), fun _ => HNX.out⟩
                                  case measure => simp [intOf]; omega
                              · obtain rfl : q = cl.length := by omega
                                have HEQ := Lib.hid (show ph.ins.map (·.1) = cl by
                                  have h := HTT.out rfl
                                  rwa [List.take_length, show cl.length = (ph.ins.map (·.1)).length by rw [List.length_map]; exact HLE.out.symm, List.take_length] at h)
                                have HFITS := Lib.hid (show ¬ ((it.blk : Int) = 0 ∨ ph.ins.map (·.1) ≠ cl) from fun h => h.elim (fun h => by omega) fun h => h HEQ.out)
                                have hnl := HLE.out
                                go_wp2_with fail
                                go_loopw [20] (fun i wr => ∃ q : Nat, q ≤ ph.ins.length ∧ i = .int .i64 q ∧ Below wi.heap.size wi wr ∧ (ph.ins.take q).all (fun i : Int × Int => standB params F (fun a => wayB bs (a : Int)) i.2 i.1.toNat (insOf bs i.1)) = true) (fun i _ => ph.ins.length - (intOf i).toNat)
                                case atStart => exact ⟨0, by omega, rfl, Below.refl _ _, by simp⟩
                                case round =>
                                  obtain ⟨q, hq, rfl, hbw, hany⟩ := hrel
                                  obtain ⟨wj, rfl⟩ : ∃ wj : World, wj = wr := ⟨_, rfl⟩
                                  have HSj := Lib.hid (HSi.out.keep hbw)
                                  have HBj := Lib.hid hbw
                                  have HANY := Lib.hid hany
                                  have HBo := Lib.hid (HBXP.out.trans ((HBi.out.trans (hbw.mono HBi.out.size)).mono HBXP.out.size))
                                  clear hbw hany f0 f1 g0 g1 g2 g3 g4 g5 y0 y1 y3 hz
                                  have f0 : wj.cell? ⟨w.heap.size, 0, none⟩ = some (.int .i64 params) := HSj.out.fs.2.1.cell 0
                                  have f1 : wj.cell? ⟨w.heap.size, 1, none⟩ = some (.slice (some ⟨gB, oB, none⟩) bs.length c) := HSj.out.fs.2.1.cell 1
                                  have g0 : wj.cell? ⟨w.heap.size + 1, 0, none⟩ = some (.int .i64 0) := HSj.out.fs.2.2.cell 0
                                  have g1 : wj.cell? ⟨w.heap.size + 1, 1, none⟩ = some (.int .i64 0) := HSj.out.fs.2.2.cell 1
                                  have g2 : wj.cell? ⟨w.heap.size + 1, 2, none⟩ = some (.int .i64 0) := HSj.out.fs.2.2.cell 2
                                  have g3 := HSj.out.fs.2.2.frozen 0
                                  have g4 := HSj.out.fs.2.2.frozen 1
                                  have g5 := HSj.out.fs.2.2.frozen 2
                                  have y0 : wj.cell? ⟨tb, 0, none⟩ = some (.int .i64 (it.blk : Int)) := HSj.out.thing.cell 0
                                  have y1 : wj.cell? ⟨tb, 1, none⟩ = some (.int .i64 pl) := HSj.out.thing.cell 1
                                  have y3 : wj.cell? ⟨tb, 3, none⟩ = some (.slice kA it.thing.takes.length kc) := HSj.out.thing.cell 3
                                  have hz := HSj.out.fs.1.size
                                  by_cases hltq : q < ph.ins.length
                                  · obtain ⟨z0, z1⟩ := HX4.out q hltq
                                    have e1 := HX3.out (by omega)
                                    subst e1
                                    have z0 := cell_keep HBo.out (Nat.le_refl _) z0
                                    have z1 := cell_keep HBo.out (Nat.le_refl _) z1
                                    have hmem : ph.ins[q].1 ∈ cl := by rw [← HEQ.out]; exact List.mem_map.2 ⟨_, List.getElem_mem hltq, rfl⟩
                                    obtain ⟨a, hxa, hab⟩ := HCI.out _ hmem
                                    clear hmem
                                    have HTS := Lib.hid (all_take_succ (p := fun i : Int × Int => standB params F (fun a => wayB bs (a : Int)) i.2 i.1.toNat (insOf bs i.1)) hltq HANY.out)
                                    have HAT := Lib.hid (fun h => @all_of_take (Int × Int) (fun i : Int × Int => standB params F (fun a => wayB bs (a : Int)) i.2 i.1.toNat (insOf bs i.1)) ph.ins (q + 1) h)
                                    have HBSj := Lib.hid (show BlocksAt wj (.slice (some ⟨gB, oB, none⟩) bs.length c) bs from RowAt.kept HBSo.out (fun b o x h => BlockAt.keep HBo.out b o x h))
                                    obtain ⟨hbl3, hbk3⟩ := open_block HBSj.out hab
                                    obtain ⟨_, _, pN, cN, _, _, _, _, _, r1, _, _, _, _, _, _, _, _⟩ := block_rows hbk3
                                    clear hbk3 hbl3
                                    rw [hxa, ins_of_at hab, Int.toNat_natCast] at HTS
                                    rw [hxa] at z0
                                    clear hxa
                                    generalize bs[a].ins.length = nI at *
                                    generalize ph.ins[q].2 = v at *
                                    go_wp2_with fail
                                    refine region_held_wp (fun w' => w'.cell? ⟨w.heap.size, 0, none⟩ = some (.int .i64 params) ∧ w'.cell? ⟨w.heap.size, 1, none⟩ = some (.slice (some ⟨gB, oB, none⟩) bs.length c) ∧ w'.cell? ⟨gI, oI + q * 2, none⟩ = some (.int .i64 (a : Int)) ∧ w'.cell? ⟨gI, oI + q * 2 + 1, none⟩ = some (.int .i64 v) ∧ w'.cell? ⟨gB, oB + a * 6 + 1, none⟩ = some (.slice pN nI cN)) [0, 1, 2, 3, 4, 5, 6, 7, 8, 9, 10, 11, 12, 13, 14, 15, 16, 17, 18, 19, 20, 21, 22, 23, 25] [0, 1, 2, 3, 4, 5, 6, 7, 8, 9, 10, 11, 12, 13, 14, 15, 16, 17, 18, 19, 20, 21, 22, 23, 24, 25] (by kernel_rfl) (by kernel_rfl) (by kernel_rfl) rfl (by intro c a d v w h; cases d <;> exact h) ⟨f0, f1, z0, z1, r1⟩ ?_
                                    refine walkH_still _ ?k0 rfl rfl rfl ?ky0 ?_
                                    case ky0 => intro w hS; go_simp; first | done | with_reducible rfl
                                    simp only [Act.put]
                                    refine walkH_still _ ?k1 rfl rfl rfl ?ky1 ?_
                                    case ky1 => intro w hS; go_simp; first | done | with_reducible rfl
                                    simp only [Act.put]
                                    refine walkH_still _ ?k2 rfl rfl rfl ?ky2 ?_
                                    case ky2 => intro w hS; go_simp; first | done | with_reducible rfl
                                    simp only [Act.put]
                                    refine walkH_still _ ?k3 rfl rfl rfl ?ky3 ?_
                                    case ky3 => intro w hS; go_simp; first | done | with_reducible rfl
                                    simp only [Act.put]
                                    refine walkH_still _ ?k4 rfl rfl rfl ?ky4 ?_
                                    case ky4 => intro w hS; go_simp; first | done | with_reducible rfl
                                    simp only [Act.put]
                                    refine walkH_still _ ?k5 rfl rfl rfl ?ky5 ?_
                                    case ky5 => intro w hS; go_simp; first | done | with_reducible rfl
                                    simp only [Act.put]
                                    refine walkH_still _ ?k6 rfl rfl rfl ?ky6 ?_
                                    case ky6 => intro w hS; go_simp; first | done | with_reducible rfl
                                    simp only [Act.put]
                                    refine walkH_still _ ?k7 rfl rfl rfl ?ky7 ?_
                                    case ky7 => intro w hS; go_simp; first | done | with_reducible rfl
                                    simp only [Act.put]
                                    refine walkH_still _ ?k8 rfl rfl rfl ?ky8 ?_
                                    case ky8 => intro w hS; go_simp; first | done | with_reducible rfl
                                    simp only [Act.put]
                                    refine walkH_still _ ?k9 rfl rfl rfl ?ky9 ?_
                                    case ky9 => intro w hS; go_simp; first | done | with_reducible rfl
                                    simp only [Act.put]
                                    refine walkH_still _ ?k10 rfl rfl rfl ?ky10 ?_
                                    case ky10 => intro w hS; go_simp; first | done | with_reducible rfl
                                    simp only [Act.put]
                                    refine walkH_still _ ?k11 rfl rfl rfl ?ky11 ?_
                                    case ky11 => intro w hS; go_simp; first | done | with_reducible rfl
                                    simp only [Act.put]
                                    refine walkH_still _ ?k12 rfl rfl rfl ?ky12 ?_
                                    case ky12 => intro w hS; go_simp; first | done | with_reducible rfl
                                    simp only [Act.put]
                                    refine walkH_still _ ?k13 rfl rfl rfl ?ky13 ?_
                                    case ky13 => intro w hS; go_simp; first | done | with_reducible rfl
                                    simp only [Act.put]
                                    refine walkH_still _ ?k14 rfl rfl rfl ?ky14 ?_
                                    case ky14 => intro w hS; go_simp; first | done | with_reducible rfl
                                    simp only [Act.put]
                                    refine walkH_still _ ?k15 rfl rfl rfl ?ky15 ?_
                                    case ky15 => intro w hS; go_simp; first | done | with_reducible rfl
                                    simp only [Act.put]
                                    refine walkH_still _ ?k16 rfl rfl rfl ?ky16 ?_
                                    case ky16 => intro w hS; go_simp; first | done | with_reducible rfl
                                    simp only [Act.put]
                                    refine walkH_still _ ?k17 rfl rfl rfl ?ky17 ?_
                                    case ky17 => intro w hS; go_simp; first | done | with_reducible rfl
                                    simp only [Act.put]
                                    refine walkH_still _ ?k18 rfl rfl rfl ?ky18 ?_
                                    case ky18 => intro w hS; go_simp; first | done | with_reducible rfl
                                    simp only [Act.put]
                                    refine walkH_still _ ?k19 rfl rfl rfl ?ky19 ?_
                                    case ky19 => intro w hS; go_simp; first | done | with_reducible rfl
                                    simp only [Act.put]
                                    refine walkH_still _ ?k20 rfl rfl rfl ?ky20 ?_
                                    case ky20 => intro w hS; go_simp; first | done | with_reducible rfl
                                    simp only [Act.put]
                                    refine walkH_still _ ?k21 rfl rfl rfl ?ky21 ?_
                                    case ky21 => intro w hS; go_simp; first | done | with_reducible rfl
                                    simp only [Act.put]
                                    refine walkH_still _ ?k22 rfl rfl rfl ?ky22 ?_
                                    case ky22 => intro w hS; go_simp; first | done | with_reducible rfl
                                    simp only [Act.put]
                                    refine walkH_still _ ?k23 rfl rfl rfl ?ky23 ?_
                                    case ky23 => intro w hS; go_simp; first | done | with_reducible rfl
                                    simp only [Act.put]
                                    simp only [List.setIfInBounds_toArray, List.set_cons_zero, List.set_cons_succ]
                                    refine walkH_does _ rfl rfl ?_
                                    go_wp2_with fail
                                    have hdr : Below wj.heap.size wj wj.drew := (Below.refl _ _).drew
                                    refine (stands_any wj.drew BS gS gW bs.length cA 0 params v (nI : Int) (.slice (some ⟨gB, oB, none⟩) bs.length c) a F (fun a => wayB bs (a : Int)) (HSj.out.sites.below hdr) (HSj.out.away.below hdr) hab (by omega) HIN.out).mono ?_
                                    rintro e w9 ⟨rfl, hb9⟩
                                    go_wp2
                                    have hb9' : Below wj.heap.size wj w9 := hdr.trans hb9
                                    have HB9 := Lib.hid hb9'
                                    have f0 := cell_keep hb9' (Nat.le_refl _) f0
                                    have f1 := cell_keep hb9' (Nat.le_refl _) f1
                                    have z0 := cell_keep hb9' (Nat.le_refl _) z0
                                    have z1 := cell_keep hb9' (Nat.le_refl _) z1
                                    have r1 := cell_keep hb9' (Nat.le_refl _) r1
                                    clear hb9 hb9' hdr
                                    refine ⟨⟨f0, f1, z0, z1, r1⟩, ?_⟩
                                    have HS9 := Lib.hid (HSj.out.keep HB9.out)
                                    clear z0 z1 r1 f0 f1 g0 g1 g2 g3 g4 g5 y0 y1 y3 hz
                                    refine walkH_still _ ?l25 rfl rfl rfl ?ly25 ?_
                                    case ly25 => intro w hS; go_simp; first | done | with_reducible rfl
                                    simp only [Act.put]
                                    refine walkH_nil ?_
                                    simp only [List.setIfInBounds_toArray, List.set_cons_zero, List.set_cons_succ]
                                    have f0 : w9.cell? ⟨w.heap.size, 0, none⟩ = some (.int .i64 params) := HS9.out.fs.2.1.cell 0
                                    have f1 : w9.cell? ⟨w.heap.size, 1, none⟩ = some (.slice (some ⟨gB, oB, none⟩) bs.length c) := HS9.out.fs.2.1.cell 1
                                    have g0 : w9.cell? ⟨w.heap.size + 1, 0, none⟩ = some (.int .i64 0) := HS9.out.fs.2.2.cell 0
                                    have g1 : w9.cell? ⟨w.heap.size + 1, 1, none⟩ = some (.int .i64 0) := HS9.out.fs.2.2.cell 1
                                    have g2 : w9.cell? ⟨w.heap.size + 1, 2, none⟩ = some (.int .i64 0) := HS9.out.fs.2.2.cell 2
                                    have g3 := HS9.out.fs.2.2.frozen 0
                                    have g4 := HS9.out.fs.2.2.frozen 1
                                    have g5 := HS9.out.fs.2.2.frozen 2
                                    have y0 : w9.cell? ⟨tb, 0, none⟩ = some (.int .i64 (it.blk : Int)) := HS9.out.thing.cell 0
                                    have y1 : w9.cell? ⟨tb, 1, none⟩ = some (.int .i64 pl) := HS9.out.thing.cell 1
                                    have y3 : w9.cell? ⟨tb, 3, none⟩ = some (.slice kA it.thing.takes.length kc) := HS9.out.thing.cell 3
                                    have hz := HS9.out.fs.1.size
                                    cases hst : standB params F (fun a => wayB bs (a : Int)) v a (nI : Int) with
                                    | false =>
                                      have HE := Lib.hid (HMIS.out HFITS.out (HAT.out (by rw [HTS.out]; exact hst)))
                                      have HGE := Lib.hid (got_set HS9.out.fs.2.2 13 (it.blk : Int) pl)
                                      have HBE := Lib.hid ((HS9.out.fs.1.setCell (p := ⟨w.heap.size + 1, 0, none⟩) (Nat.le_succ _) (.int .i64 13)).setCell (p := ⟨w.heap.size + 1, 1, none⟩) (Nat.le_succ _) (.int .i64 (it.blk : Int)) |>.setCell (p := ⟨w.heap.size + 1, 2, none⟩) (Nat.le_succ _) (.int .i64 pl))
                                      clear hst
                                      go_wp2
                                      rw [HE.out]
                                      refine gotF_ret HGE.out HBE.out ?_ ?_ <;> rfl
                                    | true =>
                                      have HT := Lib.hid hst
                                      clear hst
                                      go_wp2_with fail
                                      go_roundw
                                      case rel => exact ⟨q + 1, by omega, by go_num, HBj.out.trans (HB9.out.mono HBj.out.size), by rw [HTS.out]; exact HT.out⟩
                                      case measure => simp [intOf]; omega
                                  · obtain rfl : q = ph.ins.length := by omega
                                    have HVN := Lib.hid (HOK.out HFITS.out (by have h := HANY.out; rwa [List.take_length] at h))
                                    go_wp2_with fail
                                    go_roundw
                                    case rel => exact ⟨k + 1, by omega, by go_num, HVN.out, HB.out.trans (HBo.out.trans (Below.refl _ _) |>.mono HB.out.size)⟩
                                    case measure => simp [intOf]; omega
                        · have q1 : ((ph.ins.length : Int) == (cl.length : Int)) = false := beq_eq_false_iff_ne.2 (by omega)
                          go_wp2_with fail
                          go_loopw [18, 19] (fun f i wr => f = .bool false ∧ i = .int .i64 0 ∧ wr = WP) (fun _ _ _ => 0)
                          case atStart => exact ⟨rfl, rfl, rfl⟩
                          case round =>
                            obtain ⟨rfl, rfl, hw⟩ := hrel
                            obtain rfl : WP = wr := hw.symm
                            have HE := Lib.hid (HBAD.out (Or.inr fun e => hle2 (by rw [← e, List.length_map])))
                            have HGE := Lib.hid (got_set HSP.out.fs.2.2 16 (it.blk : Int) pl)
                            have HBE := Lib.hid ((HSP.out.fs.1.setCell (p := ⟨w.heap.size + 1, 0, none⟩) (Nat.le_succ _) (.int .i64 16)).setCell (p := ⟨w.heap.size + 1, 1, none⟩) (Nat.le_succ _) (.int .i64 (it.blk : Int)) |>.setCell (p := ⟨w.heap.size + 1, 2, none⟩) (Nat.le_succ _) (.int .i64 pl))
                            go_wp2
                            rw [HE.out]
                            refine gotF_ret HGE.out HBE.out ?_ ?_ <;> rfl
                      · have q0 : decide ((0 : Int) < (it.blk : Int)) = false := decide_eq_false (by omega)
                        go_wp2_with fail
                        go_loopw [18, 19] (fun f i wr => f = .bool false ∧ i = .int .i64 0 ∧ wr = WP) (fun _ _ _ => 0)
                        case atStart => exact ⟨rfl, rfl, rfl⟩
                        case round =>
                          obtain ⟨rfl, rfl, hw⟩ := hrel
                          obtain rfl : WP = wr := hw.symm
                          have HE := Lib.hid (HBAD.out (Or.inl (by omega)))
                          have HGE := Lib.hid (got_set HSP.out.fs.2.2 16 (it.blk : Int) pl)
                          have HBE := Lib.hid ((HSP.out.fs.1.setCell (p := ⟨w.heap.size + 1, 0, none⟩) (Nat.le_succ _) (.int .i64 16)).setCell (p := ⟨w.heap.size + 1, 1, none⟩) (Nat.le_succ _) (.int .i64 (it.blk : Int)) |>.setCell (p := ⟨w.heap.size + 1, 2, none⟩) (Nat.le_succ _) (.int .i64 pl))
                          go_wp2
                          rw [HE.out]
                          refine gotF_ret HGE.out HBE.out ?_ ?_ <;> rfl
                    · rw [hlk] at HVS
                      clear hlk HKI
                      have e0 : (bs[it.blk].phis.length : Int) = (bs[it.blk].phis.length : Int) := rfl
                      clear e0
                      generalize bs[it.blk].phis.length = nx0 at *
                      generalize it.plc = pl at *
                      have f0 : WX.cell? ⟨w.heap.size, 0, none⟩ = some (.int .i64 params) := HSX.out.fs.2.1.cell 0
                      have f1 : WX.cell? ⟨w.heap.size, 1, none⟩ = some (.slice (some ⟨gB, oB, none⟩) bs.length c) := HSX.out.fs.2.1.cell 1
                      have g0 : WX.cell? ⟨w.heap.size + 1, 0, none⟩ = some (.int .i64 0) := HSX.out.fs.2.2.cell 0
                      have g1 : WX.cell? ⟨w.heap.size + 1, 1, none⟩ = some (.int .i64 0) := HSX.out.fs.2.2.cell 1
                      have g2 : WX.cell? ⟨w.heap.size + 1, 2, none⟩ = some (.int .i64 0) := HSX.out.fs.2.2.cell 2
                      have g3 := HSX.out.fs.2.2.frozen 0
                      have g4 := HSX.out.fs.2.2.frozen 1
                      have g5 := HSX.out.fs.2.2.frozen 2
                      have y0 : WX.cell? ⟨tb, 0, none⟩ = some (.int .i64 (it.blk : Int)) := HSX.out.thing.cell 0
                      have y1 : WX.cell? ⟨tb, 1, none⟩ = some (.int .i64 pl) := HSX.out.thing.cell 1
                      have y3 : WX.cell? ⟨tb, 3, none⟩ = some (.slice kA it.thing.takes.length kc) := HSX.out.thing.cell 3
                      have hz := HSX.out.fs.1.size
                      have htk := (ints_open HSX.out.ints).2.1
                      go_wp2_with fail
                      go_loopw [15] (fun j wr => ∃ q : Nat, q ≤ it.thing.takes.length ∧ j = .int .i64 q ∧ Below WX.heap.size WX wr ∧ (it.thing.takes.take q).all (fun v => standB params F (fun a => wayB bs (a : Int)) v it.blk pl) = true) (fun j _ => it.thing.takes.length - (intOf j).toNat)
                      case atStart => exact ⟨0, by omega, rfl, Below.refl _ _, by simp⟩
                      case round =>
                        obtain ⟨q, hq, rfl, hbw, hany⟩ := hrel
                        obtain ⟨wi, rfl⟩ : ∃ wi : World, wi = wr := ⟨_, rfl⟩
                        have HSi := Lib.hid (HSX.out.keep hbw)
                        have HBi := Lib.hid hbw
                        have HANY := Lib.hid hany
                        clear hbw hany f0 f1 g0 g1 g2 g3 g4 g5 y0 y1 y3 hz
                        have f0 : wi.cell? ⟨w.heap.size, 0, none⟩ = some (.int .i64 params) := HSi.out.fs.2.1.cell 0
                        have f1 : wi.cell? ⟨w.heap.size, 1, none⟩ = some (.slice (some ⟨gB, oB, none⟩) bs.length c) := HSi.out.fs.2.1.cell 1
                        have g0 : wi.cell? ⟨w.heap.size + 1, 0, none⟩ = some (.int .i64 0) := HSi.out.fs.2.2.cell 0
                        have g1 : wi.cell? ⟨w.heap.size + 1, 1, none⟩ = some (.int .i64 0) := HSi.out.fs.2.2.cell 1
                        have g2 : wi.cell? ⟨w.heap.size + 1, 2, none⟩ = some (.int .i64 0) := HSi.out.fs.2.2.cell 2
                        have g3 := HSi.out.fs.2.2.frozen 0
                        have g4 := HSi.out.fs.2.2.frozen 1
                        have g5 := HSi.out.fs.2.2.frozen 2
                        have y0 : wi.cell? ⟨tb, 0, none⟩ = some (.int .i64 (it.blk : Int)) := HSi.out.thing.cell 0
                        have y1 : wi.cell? ⟨tb, 1, none⟩ = some (.int .i64 pl) := HSi.out.thing.cell 1
                        have y3 : wi.cell? ⟨tb, 3, none⟩ = some (.slice kA it.thing.takes.length kc) := HSi.out.thing.cell 3
                        have hz := HSi.out.fs.1.size
                        by_cases hltq : q < it.thing.takes.length
                        · obtain ⟨ad, hkA, hx⟩ := (ints_open HSi.out.ints).2.2 q hltq
                          subst hkA
                          have HTS := Lib.hid (all_take_succ (p := fun v => standB params F (fun a => wayB bs (a : Int)) v it.blk pl) hltq HANY.out)
                          have HAT := Lib.hid (fun h => @all_of_take Int (fun v => standB params F (fun a => wayB bs (a : Int)) v it.blk pl) it.thing.takes (q + 1) h)
                          generalize it.thing.takes[q] = x at *
                          go_wp2_with fail
                          refine region_held_wp (fun w' => w'.cell? ⟨w.heap.size, 0, none⟩ = some (.int .i64 params) ∧ w'.cell? ⟨w.heap.size, 1, none⟩ = some (.slice (some ⟨gB, oB, none⟩) bs.length c) ∧ w'.cell? ⟨tb, 0, none⟩ = some (.int .i64 (it.blk : Int)) ∧ w'.cell? ⟨tb, 1, none⟩ = some (.int .i64 pl) ∧ w'.cell? ⟨tb, 3, none⟩ = some (.slice (some ad) it.thing.takes.length kc) ∧ w'.cell? (ad.add q) = some (.int .i64 x)) [0, 1, 2, 3, 4, 5, 6, 7, 8, 9, 10, 11, 13] [0, 1, 2, 3, 4, 5, 6, 7, 8, 9, 10, 11, 12, 13] (by kernel_rfl) (by kernel_rfl) (by kernel_rfl) rfl (by intro c a d v w h; cases d <;> exact h) ⟨f0, f1, y0, y1, y3, hx⟩ ?_
                          refine walkH_still _ ?a0 rfl rfl rfl ?ay0 ?_
                          case ay0 => intro w hS; go_simp; first | done | with_reducible rfl
                          simp only [Act.put]
                          refine walkH_still _ ?a1 rfl rfl rfl ?ay1 ?_
                          case ay1 => intro w hS; go_simp; first | done | with_reducible rfl
                          simp only [Act.put]
                          refine walkH_still _ ?a2 rfl rfl rfl ?ay2 ?_
                          case ay2 => intro w hS; go_simp; first | done | with_reducible rfl
                          simp only [Act.put]
                          refine walkH_still _ ?a3 rfl rfl rfl ?ay3 ?_
                          case ay3 => intro w hS; go_simp; first | done | with_reducible rfl
                          simp only [Act.put]
                          refine walkH_still _ ?a4 rfl rfl rfl ?ay4 ?_
                          case ay4 => intro w hS; go_simp; first | done | with_reducible rfl
                          simp only [Act.put]
                          refine walkH_still _ ?a5 rfl rfl rfl ?ay5 ?_
                          case ay5 => intro w hS; go_simp; first | done | with_reducible rfl
                          simp only [Act.put]
                          refine walkH_still _ ?a6 rfl rfl rfl ?ay6 ?_
                          case ay6 => intro w hS; go_simp; first | done | with_reducible rfl
                          simp only [Act.put]
                          refine walkH_still _ ?a7 rfl rfl rfl ?ay7 ?_
                          case ay7 => intro w hS; go_simp; first | done | with_reducible rfl
                          simp only [Act.put]
                          refine walkH_still _ ?a8 rfl rfl rfl ?ay8 ?_
                          case ay8 => intro w hS; go_simp; first | done | with_reducible rfl
                          simp only [Act.put]
                          refine walkH_still _ ?a9 rfl rfl rfl ?ay9 ?_
                          case ay9 => intro w hS; go_simp; first | done | with_reducible rfl
                          simp only [Act.put]
                          refine walkH_still _ ?a10 rfl rfl rfl ?ay10 ?_
                          case ay10 => intro w hS; go_simp; first | done | with_reducible rfl
                          simp only [Act.put]
                          refine walkH_still _ ?a11 rfl rfl rfl ?ay11 ?_
                          case ay11 => intro w hS; go_simp; first | done | with_reducible rfl
                          simp only [Act.put]
                          simp only [List.setIfInBounds_toArray, List.set_cons_zero, List.set_cons_succ]
                          refine walkH_does _ rfl rfl ?_
                          go_wp2_with fail
                          have hdr : Below wi.heap.size wi wi.drew := (Below.refl _ _).drew
                          refine (stands_any wi.drew BS gS gW bs.length cA 0 params x pl (.slice (some ⟨gB, oB, none⟩) bs.length c) it.blk F (fun a => wayB bs (a : Int)) (HSi.out.sites.below hdr) (HSi.out.away.below hdr) hbk (by omega) HIN.out).mono ?_
                          rintro e w9 ⟨rfl, hb9⟩
                          go_wp2
                          have hb9' : Below wi.heap.size wi w9 := hdr.trans hb9
                          have HB9 := Lib.hid hb9'
                          have f0 := cell_keep hb9' (Nat.le_refl _) f0
                          have f1 := cell_keep hb9' (Nat.le_refl _) f1
                          have y0 := cell_keep hb9' (Nat.le_refl _) y0
                          have y1 := cell_keep hb9' (Nat.le_refl _) y1
                          have y3 := cell_keep hb9' (Nat.le_refl _) y3
                          have hx := cell_keep hb9' (Nat.le_refl _) hx
                          clear hb9 hb9' hdr
                          refine ⟨⟨f0, f1, y0, y1, y3, hx⟩, ?_⟩
                          have HS9 := Lib.hid (HSi.out.keep HB9.out)
                          clear hx f0 f1 g0 g1 g2 g3 g4 g5 y0 y1 y3 hz
                          refine walkH_still _ ?b13 rfl rfl rfl ?by13 ?_
                          case by13 => intro w hS; go_simp; first | done | with_reducible rfl
                          simp only [Act.put]
                          refine walkH_nil ?_
                          simp only [List.setIfInBounds_toArray, List.set_cons_zero, List.set_cons_succ]
                          have f0 : w9.cell? ⟨w.heap.size, 0, none⟩ = some (.int .i64 params) := HS9.out.fs.2.1.cell 0
                          have f1 : w9.cell? ⟨w.heap.size, 1, none⟩ = some (.slice (some ⟨gB, oB, none⟩) bs.length c) := HS9.out.fs.2.1.cell 1
                          have g0 : w9.cell? ⟨w.heap.size + 1, 0, none⟩ = some (.int .i64 0) := HS9.out.fs.2.2.cell 0
                          have g1 : w9.cell? ⟨w.heap.size + 1, 1, none⟩ = some (.int .i64 0) := HS9.out.fs.2.2.cell 1
                          have g2 : w9.cell? ⟨w.heap.size + 1, 2, none⟩ = some (.int .i64 0) := HS9.out.fs.2.2.cell 2
                          have g3 := HS9.out.fs.2.2.frozen 0
                          have g4 := HS9.out.fs.2.2.frozen 1
                          have g5 := HS9.out.fs.2.2.frozen 2
                          have y0 : w9.cell? ⟨tb, 0, none⟩ = some (.int .i64 (it.blk : Int)) := HS9.out.thing.cell 0
                          have y1 : w9.cell? ⟨tb, 1, none⟩ = some (.int .i64 pl) := HS9.out.thing.cell 1
                          have y3 : w9.cell? ⟨tb, 3, none⟩ = some (.slice (some ad) it.thing.takes.length kc) := HS9.out.thing.cell 3
                          have hz := HS9.out.fs.1.size
                          cases hst : standB params F (fun a => wayB bs (a : Int)) x it.blk pl with
                          | false =>
                            have HE := Lib.hid (show toldS (checkE params bs) = (13, (it.blk : Int), pl) by
                              rw [← HVS.out]; unfold takeE
                              rw [Int.toNat_natCast, if_neg (by rw [HAT.out (by rw [HTS.out]; exact hst)]; simp)]; rfl)
                            have HGE := Lib.hid (got_set HS9.out.fs.2.2 13 (it.blk : Int) pl)
                            have HBE := Lib.hid ((HS9.out.fs.1.setCell (p := ⟨w.heap.size + 1, 0, none⟩) (Nat.le_succ _) (.int .i64 13)).setCell (p := ⟨w.heap.size + 1, 1, none⟩) (Nat.le_succ _) (.int .i64 (it.blk : Int)) |>.setCell (p := ⟨w.heap.size + 1, 2, none⟩) (Nat.le_succ _) (.int .i64 pl))
                            clear hst
                            go_wp2
                            rw [HE.out]
                            refine gotF_ret HGE.out HBE.out ?_ ?_ <;> rfl
                          | true =>
                            have HT := Lib.hid hst
                            clear hst
                            go_wp2_with fail
                            go_roundw
                            case rel => exact ⟨q + 1, by omega, by go_num, HBi.out.trans (HB9.out.mono HBi.out.size), by rw [HTS.out]; exact HT.out⟩
                            case measure => simp [intOf]; omega
                        · obtain rfl : q = it.thing.takes.length := by omega
                          have HVN := Lib.hid (show runI (lookI (look2 bs ((List.range bs.length).map fun b : Nat => comeL bs b bs.length) (standB params F fun a => wayB bs (a : Int)))) ((itemsL bs).drop (k + 1)) () = checkE params bs by
                            rw [← HVS.out]; unfold takeE
                            rw [Int.toNat_natCast, if_pos (by have h := HANY.out; rwa [List.take_length] at h)]; rfl)
                          go_wp2_with fail
                          go_roundw
                          case rel => exact ⟨k + 1, by omega, by go_num, HVN.out, HBX2.out.trans (HBi.out.mono HBX2.out.size)⟩
                          case measure => simp [intOf]; omega
                  · obtain rfl : k = (itemsL bs).length := by omega
                    have HE := Lib.hid (show toldS (checkE params bs) = (0, 0, 0) by rw [← HV.out, List.drop_length]; rfl)
                    have HGE := Lib.hid (got_set HO.out.2.2 0 0 0)
                    have HBE := Lib.hid ((HO.out.1.setCell (p := ⟨w.heap.size + 1, 0, none⟩) (Nat.le_succ _) (.int .i64 0)).setCell (p := ⟨w.heap.size + 1, 1, none⟩) (Nat.le_succ _) (.int .i64 0) |>.setCell (p := ⟨w.heap.size + 1, 2, none⟩) (Nat.le_succ _) (.int .i64 0))
                    go_wp2
                    rw [HE.out]
                    refine gotF_ret HGE.out HBE.out ?_ ?_ <;> rfl
end Go.Proofs.Ytdfehpcbcgbidaa.Rf
/- The document's answer of layer 3: jacquardref03.Func for a function of no blocks. -/
namespace Go.Proofs.Ytdfehpcbcgbidaa.Rf
open Go.ChangeShapes Go.WideShapes Go.ChangeAt Go.RowKit Go.Maps Go.Proofs.Ytdfehpcbcgbidaa.Mem Go.Proofs.Ytdfehpcbcgbidaa.Br Go.Proofs.Ytdfehpcbcgbidaa.Gr Go.Proofs.Ytdfehpcbcgbidaa.Kc
set_option linter.unusedVariables false
set_option maxRecDepth 100000 in
set_option maxHeartbeats 16000000 in
theorem func3_none (w : World) (params : Int) (A : Option Addr) (c : Nat) :
    Calls Try.prog 18 #[.agg #[.int .i64 params, .slice A 0 c]] w (fun e w' => e = .returned (gotV (toldS (checkE params []))) ∧ Below w.heap.size w w') := by
  go_enter Try.func18, Try.ntmps18
  go_upto_region 1 with (fail)
  obtain ⟨W1, hW1⟩ : ∃ W1, w.alloc (.cells #[.int .i64 params, .slice A 0 c] 24) = W1 := ⟨_, rfl⟩
  rw [hW1]
  have hb1 : Below w.heap.size w W1 := by rw [← hW1]; exact (Below.refl _ _).alloc (Nat.le_refl _) _
  have hs1 : Str W1 w.heap.size 24 [.int .i64 params, .slice A 0 c] := by rw [← hW1]; exact World.alloc_heap_new w _
  have hzW1 : W1.heap.size = w.heap.size + 1 := by rw [← hW1]; simp
  clear hW1
  obtain ⟨W2, hW2⟩ : ∃ W2, W1.alloc (.cells #[.int .i64 0, .int .i64 0, .int .i64 0] 50) = W2 := ⟨_, rfl⟩
  rw [hW2]
  have hb2 : Below W1.heap.size W1 W2 := by rw [← hW2]; exact (Below.refl _ _).alloc (Nat.le_refl _) _
  have hs2 : Str W2 W1.heap.size 50 [.int .i64 0, .int .i64 0, .int .i64 0] := by rw [← hW2]; exact World.alloc_heap_new W1 _
  have hzW2 : W2.heap.size = W1.heap.size + 1 := by rw [← hW2]; simp
  clear hW2
  rw [hzW1] at hs2
  have H2 := Lib.hid (show Fs w params (.slice A 0 c) W2 from ⟨hb1.trans (hb2.mono hb1.size), hs1.below hb2, hs2⟩)
  clear hb1 hb2 hs1 hs2 hzW1 hzW2
  have f0 : W2.cell? ⟨w.heap.size, 0, none⟩ = some (.int .i64 params) := H2.out.2.1.cell 0
  have f1 : W2.cell? ⟨w.heap.size, 1, none⟩ = some (.slice A 0 c) := H2.out.2.1.cell 1
  have g0 : W2.cell? ⟨w.heap.size + 1, 0, none⟩ = some (.int .i64 0) := H2.out.2.2.cell 0
  have g1 : W2.cell? ⟨w.heap.size + 1, 1, none⟩ = some (.int .i64 0) := H2.out.2.2.cell 1
  have g2 : W2.cell? ⟨w.heap.size + 1, 2, none⟩ = some (.int .i64 0) := H2.out.2.2.cell 2
  have g3 := H2.out.2.2.frozen 0
  have g4 := H2.out.2.2.frozen 1
  have g5 := H2.out.2.2.frozen 2
  have hz := H2.out.1.size
  by_cases hp1 : params < 0
  · go_wp2_with fail
    have HE := Lib.hid (show toldS (checkE params []) = (1, 0, 0) by rw [check_limits (e := (1, 0, 0)) (by unfold limitsF; rw [if_pos (Or.inl hp1)])]; rfl)
    have HGE := Lib.hid (got_set H2.out.2.2 1 0 0)
    have HBE := Lib.hid ((H2.out.1.setCell (p := ⟨w.heap.size + 1, 0, none⟩) (Nat.le_succ _) (.int .i64 1)).setCell (p := ⟨w.heap.size + 1, 1, none⟩) (Nat.le_succ _) (.int .i64 0) |>.setCell (p := ⟨w.heap.size + 1, 2, none⟩) (Nat.le_succ _) (.int .i64 0))
    rw [HE.out]
    refine gotF_ret HGE.out HBE.out ?_ ?_ <;> rfl
  by_cases hp2 : 4 < params
  · go_wp2_with fail
    have HE := Lib.hid (show toldS (checkE params []) = (1, 0, 0) by rw [check_limits (e := (1, 0, 0)) (by unfold limitsF; rw [if_pos (Or.inr hp2)])]; rfl)
    have HGE := Lib.hid (got_set H2.out.2.2 1 0 0)
    have HBE := Lib.hid ((H2.out.1.setCell (p := ⟨w.heap.size + 1, 0, none⟩) (Nat.le_succ _) (.int .i64 1)).setCell (p := ⟨w.heap.size + 1, 1, none⟩) (Nat.le_succ _) (.int .i64 0) |>.setCell (p := ⟨w.heap.size + 1, 2, none⟩) (Nat.le_succ _) (.int .i64 0))
    rw [HE.out]
    refine gotF_ret HGE.out HBE.out ?_ ?_ <;> rfl
  · go_wp2_with fail
    have HE := Lib.hid (show toldS (checkE params []) = (14, 0, 0) by rw [check_limits (e := (14, 0, 0)) (by unfold limitsF; rw [if_neg (by omega), if_pos (by rfl)])]; rfl)
    have HGE := Lib.hid (got_set H2.out.2.2 14 0 0)
    have HBE := Lib.hid ((H2.out.1.setCell (p := ⟨w.heap.size + 1, 0, none⟩) (Nat.le_succ _) (.int .i64 14)).setCell (p := ⟨w.heap.size + 1, 1, none⟩) (Nat.le_succ _) (.int .i64 0) |>.setCell (p := ⟨w.heap.size + 1, 2, none⟩) (Nat.le_succ _) (.int .i64 0))
    rw [HE.out]
    refine gotF_ret HGE.out HBE.out ?_ ?_ <;> rfl
end Go.Proofs.Ytdfehpcbcgbidaa.Rf
/- Stage 3: what the program tells of a function is what the document says: jacquardlaw03.same. -/
namespace Go.Proofs.Ytdfehpcbcgbidaa.Rf
open Go.ChangeShapes Go.WideShapes Go.ChangeAt Go.RowKit Go.Maps Go.Proofs.Ytdfehpcbcgbidaa.Mem Go.Proofs.Ytdfehpcbcgbidaa.Br Go.Proofs.Ytdfehpcbcgbidaa.Gr Go.Proofs.Ytdfehpcbcgbidaa.Kc
set_option linter.unusedVariables false
theorem toldS_E (r : Except Fault Unit) : toldS r = toldE r := by cases r <;> rfl
theorem func3_of (w : World) (params : Int) (A : Option Addr) (b0 c : Nat) (bs : List PBlock) (hA : 0 < bs.length → A = some ⟨b0, 0, none⟩) (hbs : BlocksAt w (.slice A bs.length c) bs) (hwf : WfP bs) (hpi : ∀ x ∈ bs, ∀ p ∈ x.phis, p.ins.length ≤ 100000) :
    Calls Try.prog 18 #[.agg #[.int .i64 params, .slice A bs.length c]] w (fun e w' => e = .returned (gotV (checkN params bs)) ∧ Below w.heap.size w w') := by
  unfold checkN
  rw [← toldS_E]
  rcases Nat.eq_zero_or_pos bs.length with h | h
  · obtain rfl : bs = [] := List.length_eq_zero_iff.1 h
    exact func3_none w params A c
  · obtain rfl := hA h
    exact func3_any w params b0 0 c bs hbs h hwf hpi
set_option maxRecDepth 100000 in
set_option maxHeartbeats 8000000 in
theorem same3_any (w : World) (params : Int) (A : Option Addr) (b0 c : Nat) (bs : List PBlock) (hA : 0 < bs.length → A = some ⟨b0, 0, none⟩) (hbs : BlocksAt w (.slice A bs.length c) bs) (hwf : WfP bs) (hpi : ∀ x ∈ bs, ∀ p ∈ x.phis, p.ins.length ≤ 100000) :
    Calls Try.prog 7 #[.agg #[.int .i64 params, .slice A bs.length c]] w (fun e w' => e = .returned (.bool true) ∧ Below w.heap.size w w') := by
  have HF := Lib.hid (fun w' (hb : Below w.heap.size w w') => func_any w' params A b0 c bs hA (blocks_keep hbs hb) hwf)
  have HG := Lib.hid (fun w' (hb : Below w.heap.size w w') => func3_of w' params A b0 c bs hA (blocks_keep hbs hb) hwf hpi)
  have HR := Lib.hid (fun w' (hb : Below w.heap.size w w') => right_says w' params A b0 c bs hA (blocks_keep hbs hb) hwf)
  generalize checkN params bs = r at HF HG HR
  obtain ⟨r0, r1, r2⟩ := r
  clear hA hbs hwf hpi
  go_enter Try.func7, Try.ntmps7
  go_upto_region 1 with (fail)
  obtain ⟨W1, hW1⟩ : ∃ W1, w.alloc (.cells #[.int .i64 params, .slice A bs.length c] 24) = W1 := ⟨_, rfl⟩
  rw [hW1]
  have hb1 : Below w.heap.size w W1 := by rw [← hW1]; exact (Below.refl _ _).alloc (Nat.le_refl _) _
  have hs1 : Str W1 w.heap.size 24 [.int .i64 params, .slice A bs.length c] := by rw [← hW1]; exact World.alloc_heap_new w _
  have f0 : W1.cell? ⟨w.heap.size, 0, none⟩ = some (.int .i64 params) := hs1.cell 0
  have f1 : W1.cell? ⟨w.heap.size, 1, none⟩ = some (.slice A bs.length c) := hs1.cell 1
  have HB1 := Lib.hid hb1
  have HS1 := Lib.hid hs1
  clear hW1 hb1 hs1
  go_wp2_with fail
  refine (HF.out W1 HB1.out).mono ?_
  rintro e W2 ⟨rfl, hb2⟩
  have HB2 := Lib.hid (HB1.out.trans (hb2.mono HB1.out.size))
  have HS2 := Lib.hid (HS1.out.below hb2)
  clear hb2 f0 f1
  have f0 : W2.cell? ⟨w.heap.size, 0, none⟩ = some (.int .i64 params) := HS2.out.cell 0
  have f1 : W2.cell? ⟨w.heap.size, 1, none⟩ = some (.slice A bs.length c) := HS2.out.cell 1
  dsimp only
  go_wp2_with fail
  refine (HG.out W2 HB2.out).mono ?_
  rintro e W3 ⟨rfl, hb3⟩
  have HB3 := Lib.hid (HB2.out.trans (hb3.mono HB2.out.size))
  have HS3 := Lib.hid (HS2.out.below hb3)
  clear hb3 f0 f1
  have f0 : W3.cell? ⟨w.heap.size, 0, none⟩ = some (.int .i64 params) := HS3.out.cell 0
  have f1 : W3.cell? ⟨w.heap.size, 1, none⟩ = some (.slice A bs.length c) := HS3.out.cell 1
  dsimp only [gotV]
  go_upto_region 3 with (fail)
  obtain ⟨W4, hW4⟩ : ∃ W4, W3.alloc (.cells #[.int .i64 r0, .int .i64 r1, .int .i64 r2] 50) = W4 := ⟨_, rfl⟩
  rw [hW4]
  have hb4 : Below W3.heap.size W3 W4 := by rw [← hW4]; exact (Below.refl _ _).alloc (Nat.le_refl _) _
  have hs4 : Str W4 W3.heap.size 50 [.int .i64 r0, .int .i64 r1, .int .i64 r2] := by rw [← hW4]; exact World.alloc_heap_new W3 _
  have HB4 := Lib.hid (HB3.out.trans (hb4.mono HB3.out.size))
  have HS4 := Lib.hid (HS3.out.below hb4)
  clear hW4 hb4 f0 f1
  generalize W3.heap.size = gG at *
  have f0 : W4.cell? ⟨w.heap.size, 0, none⟩ = some (.int .i64 params) := HS4.out.cell 0
  have f1 : W4.cell? ⟨w.heap.size, 1, none⟩ = some (.slice A bs.length c) := HS4.out.cell 1
  have e0 : W4.cell? ⟨gG, 0, none⟩ = some (.int .i64 r0) := hs4.cell 0
  have e1 : W4.cell? ⟨gG, 1, none⟩ = some (.int .i64 r1) := hs4.cell 1
  have e2 : W4.cell? ⟨gG, 2, none⟩ = some (.int .i64 r2) := hs4.cell 2
  clear hs4
  refine region_held_wp (fun w' => w'.cell? ⟨w.heap.size, 0, none⟩ = some (.int .i64 params) ∧ w'.cell? ⟨w.heap.size, 1, none⟩ = some (.slice A bs.length c) ∧ w'.cell? ⟨gG, 0, none⟩ = some (.int .i64 r0) ∧ w'.cell? ⟨gG, 1, none⟩ = some (.int .i64 r1) ∧ w'.cell? ⟨gG, 2, none⟩ = some (.int .i64 r2)) [0, 1, 2, 3, 4, 5, 6, 7, 8, 9, 10, 11, 12, 13, 14, 15, 16, 17, 19, 20, 21, 22, 23, 24] [0, 1, 2, 3, 4, 5, 6, 7, 8, 9, 10, 11, 12, 13, 14, 15, 16, 17, 19, 20, 21, 18, 22, 23, 24] (by kernel_rfl) (by kernel_rfl) (by kernel_rfl) rfl (by intro c a d v w h; cases d <;> exact h) ⟨f0, f1, e0, e1, e2⟩ ?_
  refine walkH_still _ ?a0 rfl rfl (by kernel_rfl) ?ay0 ?_
  case ay0 => intro w hS; go_simp; first | done | with_reducible rfl
  simp only [Act.put]
  refine walkH_still _ ?a1 rfl rfl (by kernel_rfl) ?ay1 ?_
  case ay1 => intro w hS; go_simp; first | done | with_reducible rfl
  simp only [Act.put]
  refine walkH_still _ ?a2 rfl rfl (by kernel_rfl) ?ay2 ?_
  case ay2 => intro w hS; go_simp; first | done | with_reducible rfl
  simp only [Act.put]
  refine walkH_still _ (.bool true) rfl rfl (by kernel_rfl) ?ay3 ?_
  case ay3 => intro w hS; go_simp; first | done | rw [beq_self_eq_true] | simp
  simp only [Act.put]
  refine walkH_still _ ?a4 rfl rfl (by kernel_rfl) ?ay4 ?_
  case ay4 => intro w hS; go_simp; first | done | with_reducible rfl
  simp only [Act.put]
  refine walkH_still _ ?a5 rfl rfl (by kernel_rfl) ?ay5 ?_
  case ay5 => intro w hS; go_simp; first | done | with_reducible rfl
  simp only [Act.put]
  refine walkH_still _ ?a6 rfl rfl (by kernel_rfl) ?ay6 ?_
  case ay6 => intro w hS; go_simp; first | done | with_reducible rfl
  simp only [Act.put]
  refine walkH_still _ ?a7 rfl rfl (by kernel_rfl) ?ay7 ?_
  case ay7 => intro w hS; go_simp; first | done | with_reducible rfl
  simp only [Act.put]
  refine walkH_still _ (.bool true) rfl rfl (by kernel_rfl) ?ay8 ?_
  case ay8 => intro w hS; go_simp; first | done | rw [beq_self_eq_true] | simp
  simp only [Act.put]
  refine walkH_still _ ?a9 rfl rfl (by kernel_rfl) ?ay9 ?_
  case ay9 => intro w hS; go_simp; first | done | with_reducible rfl
  simp only [Act.put]
  refine walkH_still _ ?a10 rfl rfl (by kernel_rfl) ?ay10 ?_
  case ay10 => intro w hS; go_simp; first | done | with_reducible rfl
  simp only [Act.put]
  refine walkH_still _ ?a11 rfl rfl (by kernel_rfl) ?ay11 ?_
  case ay11 => intro w hS; go_simp; first | done | with_reducible rfl
  simp only [Act.put]
  refine walkH_still _ ?a12 rfl rfl (by kernel_rfl) ?ay12 ?_
  case ay12 => intro w hS; go_simp; first | done | with_reducible rfl
  simp only [Act.put]
  refine walkH_still _ ?a13 rfl rfl (by kernel_rfl) ?ay13 ?_
  case ay13 => intro w hS; go_simp; first | done | with_reducible rfl
  simp only [Act.put]
  refine walkH_still _ (.bool true) rfl rfl (by kernel_rfl) ?ay14 ?_
  case ay14 => intro w hS; go_simp; first | done | rw [beq_self_eq_true] | simp
  simp only [Act.put]
  refine walkH_still _ ?a15 rfl rfl (by kernel_rfl) ?ay15 ?_
  case ay15 => intro w hS; go_simp; first | done | with_reducible rfl
  simp only [Act.put]
  refine walkH_still _ ?a16 rfl rfl (by kernel_rfl) ?ay16 ?_
  case ay16 => intro w hS; go_simp; first | done | with_reducible rfl
  simp only [Act.put]
  refine walkH_still _ ?a17 rfl rfl (by kernel_rfl) ?ay17 ?_
  case ay17 => intro w hS; go_simp; first | done | with_reducible rfl
  simp only [Act.put]
  refine walkH_still _ ?a19 rfl rfl (by kernel_rfl) ?ay19 ?_
  case ay19 => intro w hS; go_simp; first | done | with_reducible rfl
  simp only [Act.put]
  refine walkH_still _ ?a20 rfl rfl (by kernel_rfl) ?ay20 ?_
  case ay20 => intro w hS; go_simp; first | done | with_reducible rfl
  simp only [Act.put]
  refine walkH_still _ ?a21 rfl rfl (by kernel_rfl) ?ay21 ?_
  case ay21 => intro w hS; go_simp; first | done | with_reducible rfl
  simp only [Act.put]
  simp only [List.setIfInBounds_toArray, List.set_cons_zero, List.set_cons_succ]
  refine walkH_does _ rfl rfl ?_
  go_wp2_with fail
  have hdr : Below W4.heap.size W4 W4.drew := (Below.refl _ _).drew
  refine (HR.out W4.drew (HB4.out.trans (hdr.mono HB4.out.size))).mono ?_
  rintro e W5 ⟨rfl, hb5⟩
  go_wp2
  have hb5' : Below W4.heap.size W4 W5 := hdr.trans hb5
  have HB5 := Lib.hid (HB4.out.trans (hb5'.mono HB4.out.size))
  have f0 := cell_keep hb5' (Nat.le_refl _) f0
  have f1 := cell_keep hb5' (Nat.le_refl _) f1
  have e0 := cell_keep hb5' (Nat.le_refl _) e0
  have e1 := cell_keep hb5' (Nat.le_refl _) e1
  have e2 := cell_keep hb5' (Nat.le_refl _) e2
  clear hb5 hb5' hdr
  refine ⟨⟨f0, f1, e0, e1, e2⟩, ?_⟩
  refine walkH_still _ (.bool true) rfl rfl (by kernel_rfl) ?by22 ?_
  case by22 => intro w hS; go_simp; first | done | rw [beq_self_eq_true] | simp
  simp only [Act.put]
  refine walkH_still _ ?b23 rfl rfl (by kernel_rfl) ?by23 ?_
  case by23 => intro w hS; go_simp; first | done | with_reducible rfl
  simp only [Act.put]
  refine walkH_still _ ?b24 rfl rfl (by kernel_rfl) ?by24 ?_
  case by24 => intro w hS; go_simp; first | done | with_reducible rfl
  simp only [Act.put]
  refine walkH_nil ?_
  simp only [List.setIfInBounds_toArray, List.set_cons_zero, List.set_cons_succ]
  go_wp2
  go_ret
  exact ⟨rfl, HB5.out⟩
end Go.Proofs.Ytdfehpcbcgbidaa.Rf
