/- Stage 7: mach.Run of code of one block, of one instruction, that returns. -/
import Derived.Test.YtonheiaohgbbcaaGreatMS
import Derived.WalkMore
namespace Go.Proofs.YtonheiaohgbbcaaGreat.Mc
open Go.ChangeShapes Go.WideShapes Go.ChangeAt Go.RowKit Go.Maps Go.Proofs.YtonheiaohgbbcaaGreat.Mem Go.Proofs.YtonheiaohgbbcaaGreat.Kc Go.Proofs.YtonheiaohgbbcaaGreat.Pl Go.Proofs.YtonheiaohgbbcaaGreat.Mw Go.Proofs.YtonheiaohgbbcaaGreat.Br
set_option linter.unusedVariables false
set_option linter.unusedSimpArgs false
/-- How a run ended. -/
def EndsPost (how val steps : Int) (w : World) (en : Ending) (w' : World) : Prop := ∃ mA mn mc cA cn ck, en = .returned (.agg #[.int .i64 how, .int .i32 val, .slice mA mn mc, .slice cA cn ck, .int .i64 steps]) ∧ Below w.heap.size w w'
set_option maxRecDepth 100000 in
set_option maxHeartbeats 4000000 in
theorem run_one (w : World) (params : Nat) (hp : params ≤ 4) (A : Option Addr) (c : Nat) (i : PMach) (fa fb fimm : Int) (to : List Int) (hA : MBlocksAt w (.slice A 1 c) [⟨[], [i], ⟨7, fa, fb, to, fimm⟩⟩]) (hwf : WfM [⟨[], [i], ⟨7, fa, fb, to, fimm⟩⟩]) (hfa : InI fa) (hok : (funcM params [⟨[], [i], ⟨7, fa, fb, to, fimm⟩⟩]).1 = 0)
    (av mv nv : Value) (lim : Int) (hlim : 2 ≤ lim) (al ml : List Int) (ha : WordsAt w av al) (hm : WordsAt w mv ml) (hop : i.op ≠ 28) (hw : ∀ r, InW (parV al (min params al.length) r)) (ht : (fxV i (parV al (min params al.length)) (ml.take 4096)).trap = 0) :
    Calls Tryz.prog 12 #[.agg #[.int .i64 params, .slice A 1 c], .agg #[av, mv, nv, .int .i64 lim]] w (EndsPost 1 (newV i (parV al (min params al.length)) (ml.take 4096) fa) 2 w) := by
  have HX := Lib.hid hA
  have HRT := Lib.hid (fun w' (hb : Below w.heap.size w w') => right_any w' params A c [⟨[], [i], ⟨7, fa, fb, to, fimm⟩⟩] (hA.keep hb) hwf (by simp))
  have HWF := Lib.hid hwf
  have HOK := Lib.hid (show ((funcM params [⟨[], [i], ⟨7, fa, fb, to, fimm⟩⟩]).1 == 0) = true from beq_iff_eq.2 hok)
  have HAV := Lib.hid ha
  have HMV := Lib.hid hm
  have HOP := Lib.hid hop
  have HW := Lib.hid hw
  have HFA := Lib.hid hfa
  obtain ⟨aA, an, rfl, _, _, _⟩ := ha
  obtain ⟨bA, bn, rfl, _, _, _⟩ := hm
  have HT := Lib.hid ht
  clear hA hwf hok hop hw hfa ht
  go_enter Tryz.func12, Tryz.ntmps12
  go_wp2
  go_step3
  go_wp2_with fail
  obtain ⟨W3, hW3⟩ : ∃ W3, ((w.alloc (.cells #[.int .i64 params, .slice A 1 c] 24)).alloc (.cells #[.slice aA al.length an, .slice bA ml.length bn, nv, .int .i64 lim] 27)).alloc (.cells #[.int .i64 0, .int .i32 0, .slice none 0 0, .slice none 0 0, .int .i64 0] 33) = W3 := ⟨_, rfl⟩
  rw [hW3]
  have hb3 : Below w.heap.size w W3 := by rw [← hW3]; exact (((Below.refl _ _).alloc (Nat.le_refl _) _).alloc (by simp) _).alloc (by simp; omega) _
  have hs0 : Str W3 w.heap.size 24 [.int .i64 params, .slice A 1 c] := by
    rw [← hW3]
    exact Str.below (Str.below (World.alloc_heap_new w _) ((Below.refl _ _).alloc (Nat.le_refl _) _)) ((Below.refl _ _).alloc (Nat.le_refl _) _)
  have hs2 : Str W3 (w.heap.size + 2) 33 [.int .i64 0, .int .i32 0, .slice none 0 0, .slice none 0 0, .int .i64 0] := by
    have := World.alloc_heap_new ((w.alloc (.cells #[.int .i64 params, .slice A 1 c] 24)).alloc (.cells #[.slice aA al.length an, .slice bA ml.length bn, nv, .int .i64 lim] 27)) (.cells #[.int .i64 0, .int .i32 0, .slice none 0 0, .slice none 0 0, .int .i64 0] 33)
    rw [hW3] at this
    simp only [World.size_alloc] at this
    exact this
  have hs1 : Str W3 (w.heap.size + 1) 27 [.slice aA al.length an, .slice bA ml.length bn, nv, .int .i64 lim] := by
    have h2 := Str.below (World.alloc_heap_new (w.alloc (.cells #[.int .i64 params, .slice A 1 c] 24)) (.cells #[.slice aA al.length an, .slice bA ml.length bn, nv, .int .i64 lim] 27)) ((Below.refl _ _).alloc (Nat.le_refl _) (.cells #[.int .i64 0, .int .i32 0, .slice none 0 0, .slice none 0 0, .int .i64 0] 33))
    simp only [World.size_alloc] at h2
    rw [← hW3]
    exact h2
  have hz3 : W3.heap.size = w.heap.size + 3 := by rw [← hW3]; simp
  clear hW3
  have HB3 := Lib.hid hb3
  have HS0 := Lib.hid hs0
  have HS1 := Lib.hid hs1
  have HS2 := Lib.hid hs2
  have HZ3 := Lib.hid (show w.heap.size + 3 ≤ W3.heap.size from by omega)
  have f0 : W3.cell? ⟨w.heap.size, 0, none⟩ = some (.int .i64 params) := hs0.cell 0
  have f1 : W3.cell? ⟨w.heap.size, 1, none⟩ = some (.slice A 1 c) := hs0.cell 1
  clear hb3 hs0 hs1 hs2 hz3
  go_wp2_with fail
  refine (HRT.out W3 HB3.out).mono ?_
  rintro e w4 ⟨rfl, hb4⟩
  rw [HOK.out]
  have HB4 := Lib.hid (HB3.out.trans (hb4.mono HB3.out.size))
  have HS0 := Lib.hid (HS0.out.below hb4)
  have HS1 := Lib.hid (HS1.out.below hb4)
  have HS2 := Lib.hid (HS2.out.below hb4)
  have HZ4 := Lib.hid (Nat.le_trans HZ3.out hb4.size)
  have f0 : w4.cell? ⟨w.heap.size, 0, none⟩ = some (.int .i64 params) := HS0.out.cell 0
  have g0 : w4.cell? ⟨w.heap.size + 1, 0, none⟩ = some (.slice aA al.length an) := HS1.out.cell 0
  have g1 : w4.cell? ⟨w.heap.size + 1, 1, none⟩ = some (.slice bA ml.length bn) := HS1.out.cell 1
  have g2 : w4.cell? ⟨w.heap.size + 1, 2, none⟩ = some nv := HS1.out.cell 2
  have g3 : w4.cell? ⟨w.heap.size + 1, 3, none⟩ = some (.int .i64 lim) := HS1.out.cell 3
  clear hb4 f1
  go_wp2_with fail
  refine (begin_any w4 params hp _ _ nv lim al ml (HAV.out.below HB4.out) (HMV.out.below HB4.out)).mono ?_
  rintro e w5 ⟨rb, mb, cc, mm, rfl, hbg⟩
  have HBG := Lib.hid hbg
  clear hbg f0 g0 g1 g2 g3
  go_wp2_with fail
  go_step3
  have HS0 := Lib.hid (HS0.out.below HBG.out.below)
  have HS2 := Lib.hid (HS2.out.below HBG.out.below)
  have HB5 := Lib.hid (HB4.out.trans (HBG.out.below.mono HB4.out.size))
  have f1 : w5.cell? ⟨w.heap.size, 1, none⟩ = some (.slice A 1 c) := HS0.out.cell 1
  obtain ⟨A', c', b, o, e, q1, q2, q3, q4⟩ := HX.out.keep HB5.out
  injection e with e1 e1b e3
  clear e1b
  subst e1 e3
  have e1 := q3 (by simp)
  subst e1
  have hblk := q4 0 (by simp)
  obtain ⟨p0, c0, p1, c1, p5, c5, r0, r1, r2, r3, r4, r5, r6, g0, g1, g5⟩ := mblock_rows hblk
  simp only [Nat.zero_mul, Nat.add_zero, List.getElem_cons_zero, List.length_nil, List.length_cons, Nat.zero_add] at r0 r1 r2 r3 r4 r5 r6 g0 g1 g5
  obtain ⟨_, _, b1, o1, e1, s1, s2, s3, s4⟩ := g1
  injection e1 with e1 e1b e1c
  clear e1b e1c s1 s2
  have e2 := s3 (by simp)
  rw [e2] at e1
  subst e1
  have hmi := s4 0 (by simp)
  simp only [Nat.zero_mul, Nat.add_zero, List.getElem_cons_zero] at hmi
  have HMI := Lib.hid hmi
  obtain ⟨z4, hz4⟩ : ∃ z, to.length = z := ⟨_, rfl⟩
  rw [hz4] at r5
  clear q3 q4 hblk g0 g5 s3 s4 hmi hz4 q1 q2 e2
  go_upto_region 6 with (fail)
  obtain ⟨W6, hW6⟩ : ∃ W6, w5.alloc (.cells #[.slice p0 0 c0, .slice (some ⟨b1, o1, none⟩) 1 c1, .int .i64 7, .int .i64 fa, .int .i64 fb, .slice p5 z4 c5, .int .i32 fimm] 67) = W6 := ⟨_, rfl⟩
  have hbW6 : Below w5.heap.size w5 W6 := by rw [← hW6]; exact (Below.refl _ _).alloc (Nat.le_refl _) _
  have hsW6 : Str W6 w5.heap.size 67 [.slice p0 0 c0, .slice (some ⟨b1, o1, none⟩) 1 c1, .int .i64 7, .int .i64 fa, .int .i64 fb, .slice p5 z4 c5, .int .i32 fimm] := by rw [← hW6]; exact World.alloc_heap_new w5 _
  rw [hW6]
  clear hW6
  have HS2 := Lib.hid (HS2.out.below hbW6)
  have HB6 := Lib.hid (HB5.out.trans (hbW6.mono HB5.out.size))
  have HR6 := Lib.hid (HBG.out.run.below hbW6)
  have HO6 := Lib.hid (HBG.out.own.below hbW6)
  have HMI := Lib.hid (MachAt.keep hbW6 _ _ _ HMI.out)
  have HSB := Lib.hid hsW6
  have HSB6 := Lib.hid hsW6.lt
  have HLT := Lib.hid (show w.heap.size + 3 ≤ w4.heap.size ∧ w4.heap.size < rb ∧ w4.heap.size < mb ∧ rb ≠ mb ∧ rb < w5.heap.size ∧ mb < w5.heap.size ∧ (∀ g, mm.ownBlock = some g → w4.heap.size ≤ g ∧ g < w5.heap.size ∧ g ≠ rb ∧ g ≠ mb) from ⟨HZ4.out, HBG.out.r1, HBG.out.r2, HBG.out.run.ne, HBG.out.run.str.lt, HBG.out.run.map.lt, fun g hg => ⟨(OwnWords.where_ HBG.out.own hg).1, (OwnWords.where_ HBG.out.own hg).2, fun e => HBG.out.m1 (by rw [← e]; exact hg), fun e => HBG.out.m2 (by rw [← e]; exact hg)⟩⟩)
  have HCC := Lib.hid (show cc ≤ 1000 from by have := HBG.out.cc; omega)
  have hb0 : W6.cell? ⟨w5.heap.size, 0, none⟩ = some (.slice p0 0 c0) := hsW6.cell 0
  have hb1 : W6.cell? ⟨w5.heap.size, 1, none⟩ = some (.slice (some ⟨b1, o1, none⟩) 1 c1) := hsW6.cell 1
  clear hbW6 hsW6 r0 r1 r2 r3 r4 r5 r6 f1
  go_wp2_with fail
  refine (rphis_none W6 rb p0 c0 0).mono ?_
  rintro e' w7 ⟨rfl, rfl⟩
  go_wp2_with fail
  go_loopw [10, 11, 12, 35] (fun _ _ _ j wr => (j = .int .i64 0 ∧ wr = w7) ∨ (j = .int .i64 1 ∧ ∃ c2, c2 ≤ 2000 ∧ RunAt wr rb mb c2 (.slice aA al.length an) (.slice bA ml.length bn) nv mm (.slice none 0 0) lim (newV i (parV al (min params al.length)) (ml.take 4096)) 1 ∧ Str wr w5.heap.size 67 [.slice p0 0 c0, .slice (some ⟨b1, o1, none⟩) 1 c1, .int .i64 7, .int .i64 fa, .int .i64 fb, .slice p5 z4 c5, .int .i32 fimm] ∧ Str wr (w.heap.size + 2) 33 [.int .i64 0, .int .i32 0, .slice none 0 0, .slice none 0 0, .int .i64 0] ∧ Below w.heap.size w wr ∧ ∃ mA mn mc, mm = .slice mA mn mc)) (fun _ _ _ j _ => 1 - (intOf j).toNat)
  case atStart => exact Or.inl ⟨rfl, rfl⟩
  case round =>
    rcases hrel with ⟨rfl, hw⟩ | ⟨rfl, c2, hc2, hrun, hsb, hs2, hbel, mA, mn, mc, rfl⟩
    · obtain rfl : w7 = wr := hw.symm
      clear hw
      obtain ⟨Ai, ki, h7, hia⟩ := mach_cells HMI.out
      obtain ⟨h0, h1, h2, h3, h4, h5, h6, _⟩ := HMI.out
      have HIN := Lib.hid (HWF.out.ins _ (List.mem_singleton.2 rfl) i (List.mem_singleton.2 rfl))
      clear hia
      go_upto_region 10 with (fail)
      obtain ⟨W7, hW7⟩ : ∃ W7, w7.alloc (.cells #[.int .i64 i.op, .int .i64 i.d, .int .i64 i.e, .int .i64 i.a, .int .i64 i.b, .int .i64 i.c, .int .i32 i.imm, .slice Ai i.args.length ki] 40) = W7 := ⟨_, rfl⟩
      have hbW7 : Below w7.heap.size w7 W7 := by rw [← hW7]; exact (Below.refl _ _).alloc (Nat.le_refl _) _
      have hsW7 : Str W7 w7.heap.size 40 [.int .i64 i.op, .int .i64 i.d, .int .i64 i.e, .int .i64 i.a, .int .i64 i.b, .int .i64 i.c, .int .i32 i.imm, .slice Ai i.args.length ki] := by rw [← hW7]; exact World.alloc_heap_new w7 _
      rw [hW7]
      clear hW7
      have HS2 := Lib.hid (HS2.out.below hbW7)
      have HSB := Lib.hid (HSB.out.below hbW7)
      have HB7 := Lib.hid (HB6.out.trans (hbW7.mono HB6.out.size))
      have HR7 := Lib.hid (HR6.out.below hbW7)
      have HO7 := Lib.hid (HO6.out.below hbW7)
      have HSI := Lib.hid hsW7
      have HLW := Lib.hid (show w5.heap.size < w7.heap.size from HSB6.out)
      clear hbW7 hsW7 h0 h1 h2 h3 h4 h5 h6 h7
      go_wp2_with fail
      refine (step_any W7 rb mb cc _ _ nv mm _ lim 0 _ HR7.out (by omega) (by omega)).mono ?_
      intro e' w8 hst
      unfold StepPost at hst
      rw [if_pos (by omega)] at hst
      obtain ⟨rfl, hbt, hrt⟩ := hst
      have HBT := Lib.hid hbt
      have HR8 := Lib.hid hrt
      have hl := HLT.out
      obtain ⟨l1, l2, l3, l4, l5, l6, l7⟩ := hl
      have HS2 := Lib.hid (hbt.str HS2.out (by omega))
      have HSB := Lib.hid (hbt.str HSB.out (by omega))
      have HSI := Lib.hid (hbt.str HSI.out (by have := HLW.out; omega))
      have HO8 := Lib.hid (OwnWords.but HO7.out hbt (fun e => (l7 _ e).2.2.1 rfl))
      have HB8 := Lib.hid (HB7.out.trans (below_of_but hbt (by omega) HB7.out.size))
      have HM1 := Lib.hid (show mm.ownBlock ≠ some rb from fun e => (l7 _ e).2.2.1 rfl)
      have HM2 := Lib.hid (show mm.ownBlock ≠ some mb from fun e => (l7 _ e).2.2.2 rfl)
      have HFAR := Lib.hid (show ∀ x, (w5.heap.size ≤ x ∨ x < w.heap.size + 3) → x ≠ mb ∧ mm.ownBlock ≠ some x from fun x hx => ⟨by omega, fun e => by have := (l7 _ e); omega⟩)
      have h0 : w8.cell? ⟨w7.heap.size, 0, none⟩ = some (.int .i64 i.op) := HSI.out.cell 0
      have h1 : w8.cell? ⟨w7.heap.size, 1, none⟩ = some (.int .i64 i.d) := HSI.out.cell 1
      have h2 : w8.cell? ⟨w7.heap.size, 2, none⟩ = some (.int .i64 i.e) := HSI.out.cell 2
      have h3 : w8.cell? ⟨w7.heap.size, 3, none⟩ = some (.int .i64 i.a) := HSI.out.cell 3
      have h4 : w8.cell? ⟨w7.heap.size, 4, none⟩ = some (.int .i64 i.b) := HSI.out.cell 4
      have h5 : w8.cell? ⟨w7.heap.size, 5, none⟩ = some (.int .i64 i.c) := HSI.out.cell 5
      have h6 : w8.cell? ⟨w7.heap.size, 6, none⟩ = some (.int .i32 i.imm) := HSI.out.cell 6
      have h7 : w8.cell? ⟨w7.heap.size, 7, none⟩ = some (.slice Ai i.args.length ki) := HSI.out.cell 7
      clear hbt hrt l1 l2 l3 l4 l5 l6 l7 hb0 hb1
      go_wp2_with fail
      refine (rdo_any w8 _ rb mb cc _ _ nv mm _ lim (0 + 1) _ HR8.out (by have := HCC.out; omega) (ml.take 4096) HO8.out (by rw [List.length_take]; omega) HM1.out HM2.out i Ai i.args.length ki HOP.out ⟨HIN.out.2.1, HIN.out.2.2.1, HIN.out.2.2.2.1, HIN.out.2.2.2.2.1, HIN.out.2.2.2.2.2.1⟩ HIN.out.2.2.2.2.2.2 HW.out).mono ?_
      rintro e' w9 ⟨rfl, ⟨c9, hc9, hr9⟩, ho9, ht9⟩
      rw [HT.out]
      obtain ⟨mA, mn, mc, rfl⟩ := OwnWords.slice ho9
      have HTW := Lib.hid ht9
      have HKS := Lib.hid (show ∀ x t vs, Str w8 x t vs → (w5.heap.size ≤ x ∨ x < w.heap.size + 3) → Str w9 x t vs from fun x t vs hx hr => (HTW.out.block x hx.lt (fun e => (HFAR.out x hr).1 (Option.some.inj e)) (fun e => (HFAR.out x hr).2 e.symm)).trans hx)
      have HR9 := Lib.hid hr9
      have HS2 := Lib.hid (HKS.out _ _ _ HS2.out (by omega))
      have HSB := Lib.hid (HKS.out _ _ _ HSB.out (by omega))
      have HB9 := Lib.hid (show Below w.heap.size w w9 from HB8.out.trans ⟨HTW.out.os, HTW.out.tape, HTW.out.output, HTW.out.size, fun k hk => HTW.out.block k (by have := HB8.out.size; omega) (fun e => by have := HLT.out; injection e with e; omega) (fun e => by have h := HLT.out.2.2.2.2.2.2 _ e.symm; have := HLT.out.1; omega)⟩)
      have HC9 := Lib.hid (show c9 ≤ 2000 from by have := HCC.out; omega)
      clear hr9 ho9 ht9 hc9 h0 h1 h2 h3 h4 h5 h6 h7
      go_wp2_with fail
      exact ⟨Or.inr ⟨by go_num, c9, HC9.out, HR9.out, HSB.out, HS2.out, HB9.out, mA, mn, mc, rfl⟩, by simp [intOf]⟩
    · have HRN := Lib.hid hrun
      have HSB := Lib.hid hsb
      have HS2 := Lib.hid hs2
      have HBL := Lib.hid hbel
      have HRL := Lib.hid (show w.heap.size + 2 < rb ∧ w.heap.size + 2 < mb ∧ w5.heap.size ≠ rb ∧ w5.heap.size ≠ mb ∧ rb ≠ mb from by have := HLT.out; omega)
      clear hrun hsb hs2 hbel hb0 hb1
      go_wp2_with fail
      refine (step_any wr rb mb c2 _ _ nv _ _ lim 1 _ HRN.out (by omega) (by omega)).mono ?_
      intro e' w8 hst
      unfold StepPost at hst
      rw [if_pos (by omega)] at hst
      obtain ⟨rfl, hbt, hrt⟩ := hst
      have HR8 := Lib.hid hrt
      have HS2 := Lib.hid (hbt.str HS2.out (by have := HRL.out; omega))
      have HSB := Lib.hid (hbt.str HSB.out (by have := HRL.out; omega))
      have HB8 := Lib.hid (HBL.out.trans (below_of_but hbt (by have := HRL.out; omega) HBL.out.size))
      have h0 : w8.cell? ⟨w5.heap.size, 0, none⟩ = some (.slice p0 0 c0) := HSB.out.cell 0
      have h1 : w8.cell? ⟨w5.heap.size, 1, none⟩ = some (.slice (some ⟨b1, o1, none⟩) 1 c1) := HSB.out.cell 1
      have h2 : w8.cell? ⟨w5.heap.size, 2, none⟩ = some (.int .i64 7) := HSB.out.cell 2
      have h3 : w8.cell? ⟨w5.heap.size, 3, none⟩ = some (.int .i64 fa) := HSB.out.cell 3
      have h4 : w8.cell? ⟨w5.heap.size, 4, none⟩ = some (.int .i64 fb) := HSB.out.cell 4
      have h5 : w8.cell? ⟨w5.heap.size, 5, none⟩ = some (.slice p5 z4 c5) := HSB.out.cell 5
      have h6 : w8.cell? ⟨w5.heap.size, 6, none⟩ = some (.int .i32 fimm) := HSB.out.cell 6
      clear hbt hrt
      go_upto_region 19 with (fail)
      obtain ⟨W9, hW9⟩ : ∃ W9, w8.alloc (.cells #[.int .i64 7, .int .i64 fa, .int .i64 fb, .slice p5 z4 c5, .int .i32 fimm] 42) = W9 := ⟨_, rfl⟩
      have hbW9 : Below w8.heap.size w8 W9 := by rw [← hW9]; exact (Below.refl _ _).alloc (Nat.le_refl _) _
      have hsW9 : Str W9 w8.heap.size 42 [.int .i64 7, .int .i64 fa, .int .i64 fb, .slice p5 z4 c5, .int .i32 fimm] := by rw [← hW9]; exact World.alloc_heap_new w8 _
      rw [hW9]
      clear hW9
      have HS2 := Lib.hid (HS2.out.below hbW9)
      have HB9 := Lib.hid (HB8.out.trans (hbW9.mono HB8.out.size))
      have HR9 := Lib.hid (HR8.out.below hbW9)
      have e0 : W9.cell? ⟨w8.heap.size, 0, none⟩ = some (.int .i64 7) := hsW9.cell 0
      have e1 : W9.cell? ⟨w8.heap.size, 1, none⟩ = some (.int .i64 fa) := hsW9.cell 1
      have k4 := HR9.out.c4
      have HLO := Lib.hid (show w.heap.size + 2 < w8.heap.size from Nat.lt_of_lt_of_le (by have := HRL.out; omega) (Nat.le_of_lt HR8.out.str.lt))
      have hn8 : rb ≠ w.heap.size + 2 := by have := HRL.out; omega
      have hn9 : w8.heap.size ≠ w.heap.size + 2 := by have := HLO.out; omega
      clear hbW9 hsW9 h0 h1 h2 h3 h4 h5 h6
      go_wp2_with fail
      refine region_heldC_wp (fun w' => w'.cell? ⟨rb, 4, none⟩ = some (.map (some mb)) ∧ w'.cell? ⟨w8.heap.size, 1, none⟩ = some (.int .i64 fa)) [0, 1, 2, 3, 4, 5, 6] [0, 1, 2, 3, 4, 5, 6, 7, 8, 9] (by kernel_rfl) (by kernel_rfl) (by kernel_rfl) rfl (by intro c a d v w h; cases d <;> exact h) ⟨k4, e1⟩ ?_
      refine walkC_still _ ?w0 rfl rfl rfl ?wy0 ?_
      case wy0 => intro w hS; go_simp; first | done | with_reducible rfl
      simp only [Act.put]
      refine walkC_still _ ?w1 rfl rfl rfl ?wy1 ?_
      case wy1 => intro w hS; go_simp; first | done | with_reducible rfl
      simp only [Act.put]
      refine walkC_still _ ?w2 rfl rfl rfl ?wy2 ?_
      case wy2 => intro w hS; go_simp; first | done | with_reducible rfl
      simp only [Act.put]
      refine walkC_still _ ?w3 rfl rfl rfl ?wy3 ?_
      case wy3 => intro w hS; go_simp; first | done | with_reducible rfl
      simp only [Act.put]
      refine walkC_still _ ?w4 rfl rfl rfl ?wy4 ?_
      case wy4 => intro w hS; go_simp; first | done | with_reducible rfl
      simp only [Act.put]
      refine walkC_still _ ?w5 rfl rfl rfl ?wy5 ?_
      case wy5 => intro w hS; go_simp; first | done | with_reducible rfl
      simp only [Act.put]
      refine walkC_still _ ?w6 rfl rfl rfl ?wy6 ?_
      case wy6 => intro w hS; go_simp; first | done | with_reducible rfl
      simp only [Act.put]
      try simp only [List.setIfInBounds_toArray, List.set_cons_zero, List.set_cons_succ]
      refine walkC_does _ rfl rfl ?_
      go_wp2_with fail
      refine (fileget_any _ mb c2 _ ((HR9.out.below (Below.refl _ _).drew).map) fa HFA.out).mono ?_
      rintro e' w10 ⟨rfl, rfl⟩
      go_wp2_with fail
      refine behindC ⟨k4, e1⟩ ?_
      refine walkC_does _ rfl rfl ?_
      go_wp2_with fail
      refine (rend_any _ rb mb c2 _ _ nv mA none mn mc 0 0 lim _ _ (HR9.out.below (Below.refl _ _).drew) 1 _).mono ?_
      rintro e' w11 ⟨rfl, hb11⟩
      have k4 := cell_keep hb11 (Nat.le_refl _) k4
      have e1 := cell_keep hb11 (Nat.le_refl _) e1
      have hs := HS2.out.below ((Below.refl _ _).drew.trans hb11)
      have HB11 := Lib.hid (HB9.out.trans (((Below.refl _ _).drew.trans hb11).mono HB9.out.size))
      have HSS := Lib.hid hs
      have z0 := hs.cell 0
      have z1 := hs.cell 1
      have z2 := hs.cell 2
      have z3 := hs.cell 3
      have z4' := hs.cell 4
      have y0 := hs.frozen 0
      have y1 := hs.frozen 1
      have y2 := hs.frozen 2
      have y3 := hs.frozen 3
      have y4 := hs.frozen 4
      clear hb11 hs e0
      go_wp2_with fail
      refine behindC ⟨k4, e1⟩ ?_
      refine walkC_does _ rfl rfl ?_
      go_wp2
      have hB : But (w.heap.size + 2) w11 _ := ((((but_set (w.heap.size + 2) 0 (.int .i64 1) w11).trans (but_set _ 1 (.int .i32 (newV i (parV al (min params al.length)) (ml.take 4096) fa)) _)).trans (but_set _ 2 (.slice mA mn mc) _)).trans (but_set _ 3 (.slice none 0 0) _)).trans (but_set _ 4 (.int .i64 (1 + 1)) _)
      refine behindC ⟨hB.cell k4 hn8, hB.cell e1 hn9⟩ (walkC_nil ?_)
      go_wp2
      rw [Exit.noGoto_ret]
      refine ⟨rfl, .agg #[.int .i64 1, .int .i32 (newV i (parV al (min params al.length)) (ml.take 4096) fa), .slice mA mn mc, .slice none 0 0, .int .i64 2], ?_, ?_⟩
      · simp only [results]
        go_simp
      · exact ⟨mA, mn, mc, none, 0, 0, rfl, HB11.out.trans (below_of_but hB (by omega) HB11.out.size)⟩
end Go.Proofs.YtonheiaohgbbcaaGreat.Mc
