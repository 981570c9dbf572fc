/- Stage 12: phys.Run of one block, and of what is not right. -/
import Derived.Test.YtdidacjmcafcpaaQR
import Derived.Test.YtdidacjmcafcpaaQP
import Derived.Test.YtdidacjmcafcpaaQL
namespace Go.Proofs.Ytdidacjmcafcpaa.Ph
open Go.ChangeShapes Go.WideShapes Go.ChangeAt Go.RowKit Go.Proofs.Ytdidacjmcafcpaa.Mem Go.Proofs.Ytdidacjmcafcpaa.Kc Go.Proofs.Ytdidacjmcafcpaa.Pl Go.Proofs.Ytdidacjmcafcpaa.Mw Go.Proofs.Ytdidacjmcafcpaa.Mc Go.Proofs.Ytdidacjmcafcpaa.Br Go.Proofs.Ytdidacjmcafcpaa.Wd Go.Proofs.Ytdidacjmcafcpaa.Gr
set_option linter.unusedVariables false
set_option linter.unusedSimpArgs false
theorem leaveS_me (f : PEnd) (s : PRun) : (leaveS f s).me = s.me ∧ (leaveS f s).ca = s.ca ∧ (leaveS f s).how ≠ 0 := by
  unfold leaveS
  split
  · exact ⟨rfl, rfl, by show (1 : Int) ≠ 0; decide⟩
  · exact ⟨rfl, rfl, by show (2 : Int) ≠ 0; decide⟩
theorem restQ_me (f : PEnd) : ∀ (l : List PlIn) (s : PRun) (m : List Int), (restQ f l s m).1.me = s.me ∧ (restQ f l s m).1.ca = s.ca ∧ (restQ f l s m).1.how ≠ 0
  | [], s, m => by
    unfold restQ
    split
    · exact leaveS_me f { s with steps := s.steps + 1 }
    · exact ⟨rfl, rfl, by show (3 : Int) ≠ 0; decide⟩
  | y :: l, s, m => by
    unfold restQ
    split
    · split
      · exact restQ_me f l _ _
      · exact ⟨rfl, rfl, by show (2 : Int) ≠ 0; decide⟩
    · exact ⟨rfl, rfl, by show (3 : Int) ≠ 0; decide⟩
theorem five_butQ (R : Nat) (w : World) (a b c d e : Value) : But R w (((((w.setCell ⟨R, 0, none⟩ a).setCell ⟨R, 1, none⟩ b).setCell ⟨R, 2, none⟩ c).setCell ⟨R, 3, none⟩ d).setCell ⟨R, 4, none⟩ e) := ((((but_set _ _ _ _).trans (but_set _ _ _ _)).trans (but_set _ _ _ _)).trans (but_set _ _ _ _)).trans (but_set _ _ _ _)
set_option maxRecDepth 100000 in
set_option maxHeartbeats 4000000 in
theorem runWrong_any (w : World) (params r sl : Int) (A : Option Addr) (c : Nat) (bs : List PPB) (hA : PBlocksAt w (.slice A bs.length c) bs) (hwf : WfQ bs) (hno : (funcQ params r sl bs).1 ≠ 0) (av mv nv : Value) (lim : Int) :
    Calls Try.prog 23 #[.agg #[.int .i64 params, .int .i64 r, .int .i64 sl, .slice A bs.length c], .agg #[av, mv, nv, .int .i64 lim]] w fun e w' => e = .returned (.agg #[.int .i64 4, .int .i32 0, .slice none 0 0, .slice none 0 0, .int .i64 0]) ∧ Below w.heap.size w w' := by
  have HA := Lib.hid hA
  have HWF := Lib.hid hwf
  have hfq : ((funcQ params r sl bs).1 == 0) = false := beq_eq_false_iff_ne.2 hno
  clear hA hwf hno
  go_enter Try.func23, Try.ntmps23
  go_upto_region 1 with (fail)
  obtain ⟨Wa, hWa⟩ : ∃ Wa, w.alloc (.cells #[.int .i64 params, .int .i64 r, .int .i64 sl, .slice A bs.length c] 51) = Wa := ⟨_, rfl⟩
  have hba : Below w.heap.size w Wa := by rw [← hWa]; exact (Below.refl _ _).alloc (Nat.le_refl _) _
  have hsa : Str Wa w.heap.size 51 [.int .i64 params, .int .i64 r, .int .i64 sl, .slice A bs.length c] := by rw [← hWa]; exact World.alloc_heap_new w _
  have hza : Wa.heap.size = w.heap.size + 1 := by rw [← hWa, World.size_alloc]
  rw [hWa]
  clear hWa
  obtain ⟨Wb, hWb⟩ : ∃ Wb, Wa.alloc (.cells #[av, mv, nv, .int .i64 lim] 53) = Wb := ⟨_, rfl⟩
  have hbb : Below Wa.heap.size Wa Wb := by rw [← hWb]; exact (Below.refl _ _).alloc (Nat.le_refl _) _
  have hsb : Str Wb Wa.heap.size 53 [av, mv, nv, .int .i64 lim] := by rw [← hWb]; exact World.alloc_heap_new Wa _
  have hzb : Wb.heap.size = Wa.heap.size + 1 := by rw [← hWb, World.size_alloc]
  rw [hWb]
  clear hWb
  obtain ⟨W1, hW1⟩ : ∃ W1, Wb.alloc (.cells #[.int .i64 0, .int .i32 0, .slice none 0 0, .slice none 0 0, .int .i64 0] 39) = W1 := ⟨_, rfl⟩
  have hbc : Below Wb.heap.size Wb W1 := by rw [← hW1]; exact (Below.refl _ _).alloc (Nat.le_refl _) _
  have hsc : Str W1 Wb.heap.size 39 [.int .i64 0, .int .i32 0, .slice none 0 0, .slice none 0 0, .int .i64 0] := by rw [← hW1]; exact World.alloc_heap_new Wb _
  rw [hW1]
  clear hW1
  rw [hza] at hsb
  rw [hzb, hza] at hsc
  have HF := Lib.hid ((hsa.below hbb).below hbc)
  have HN := Lib.hid (hsb.below hbc)
  have HR := Lib.hid hsc
  have HB1 := Lib.hid (hba.trans ((hbb.trans (hbc.mono hbb.size)).mono hba.size))
  have m0 := HF.out.cell 0
  have m1 := HF.out.cell 1
  have m2 := HF.out.cell 2
  have m3 := HF.out.cell 3
  simp only [List.getElem?_cons_zero, List.getElem?_cons_succ] at m0 m1 m2 m3
  clear hsa hsb hsc hza hzb hba hbb hbc
  go_wp2_with fail
  refine (rightQ_any W1 params r sl A c bs (HA.out.keep HB1.out) HWF.out).mono ?_
  rintro e w2 ⟨rfl, hb2⟩
  rw [hfq]
  have HB2 := Lib.hid (HB1.out.trans (hb2.mono HB1.out.size))
  have HF2 := Lib.hid (HF.out.below hb2)
  have HN2 := Lib.hid (HN.out.below hb2)
  have HR2 := Lib.hid (HR.out.below hb2)
  clear hb2 m0 m1 m2 m3 HF HN HR
  have z0 := HR2.out.cell 0
  have y0 := HR2.out.frozen 0
  have z1 := HR2.out.cell 1
  have y1 := HR2.out.frozen 1
  have z2 := HR2.out.cell 2
  have y2 := HR2.out.frozen 2
  have z3 := HR2.out.cell 3
  have y3 := HR2.out.frozen 3
  have z4 := HR2.out.cell 4
  have y4 := HR2.out.frozen 4
  simp only [List.getElem?_cons_zero, List.getElem?_cons_succ] at z0 z1 z2 z3 z4
  have HEND := Lib.hid (fun a b c d e => HB2.out.trans (below_of_but (five_butQ (w.heap.size + 1 + 1) w2 a b c d e) (by omega) HB2.out.size))
  go_wp2_with fail
  refine ⟨rfl, .agg #[.int .i64 4, .int .i32 0, .slice none 0 0, .slice none 0 0, .int .i64 0], ?_, rfl, HEND.out _ _ _ _ _⟩
  simp only [results]
  go_simp
def howM (w : World) (g : Nat) : Nat := match w.cell? ⟨g, 21, none⟩ with
  | some (.int _ v) => if v = 0 then 1 else 0
  | _ => 0
theorem howM_one {w : World} {g : Nat} (h : w.cell? ⟨g, 21, none⟩ = some (.int .i64 0)) : howM w g = 1 := by unfold howM; rw [h]; rfl
theorem howM_zero {w : World} {g : Nat} {v : Int} (h : w.cell? ⟨g, 21, none⟩ = some (.int .i64 v)) (hv : v ≠ 0) : howM w g = 0 := by unfold howM; rw [h]; exact if_neg hv
def startQ (av mv nv : Value) (lim : Int) (params : Nat) (al : List Int) (sv me : Value) : PRun := { av := av, mv := mv, nv := nv, max := lim, regs := parQ params al, sv := sv, how := 0, val := 0, me := me, ca := .slice none 0 0, steps := 0 }
def OnePost (x : PPB) (av mv nv : Value) (lim : Int) (params : Nat) (al ml : List Int) (w : World) (e : Ending) (w' : World) : Prop :=
  ∃ sv mA mn mc, e = .returned (.agg #[.int .i64 (restQ x.fin x.ins (startQ av mv nv lim params al sv (.slice mA mn mc)) (ml.take 4096)).1.how, .int .i32 (restQ x.fin x.ins (startQ av mv nv lim params al sv (.slice mA mn mc)) (ml.take 4096)).1.val, .slice mA mn mc, .slice none 0 0, .int .i64 (restQ x.fin x.ins (startQ av mv nv lim params al sv (.slice mA mn mc)) (ml.take 4096)).1.steps]) ∧ Below w.heap.size w w'
set_option maxRecDepth 100000 in
set_option maxHeartbeats 4000000 in
theorem runOne_any (w : World) (params sl : Nat) (r : Int) (A : Option Addr) (c : Nat) (x : PPB) (hA : PBlocksAt w (.slice A 1 c) [x]) (hwf : WfQ [x]) (hok : (funcQ params r sl [x]).1 = 0) (hp : params ≤ 4) (hsl : sl ≤ 1000000)
    (av mv nv : Value) (lim : Int) (al ml : List Int) (ha : WordsAt w av al) (hm : WordsAt w mv ml) (hx : InI lim)
    (hi : ∀ y ∈ x.ins, (y.i.op ≠ 28 ∧ y.i.op ≠ 30 ∧ y.i.op ≠ 31) ∧ (InI y.i.a ∧ InI y.i.b ∧ InI y.i.c ∧ InI y.i.d ∧ InI y.i.e) ∧ InW y.i.imm)
    (hW : ∀ sv me k, k < x.ins.length → (∀ r, InW (getP (stQ x.ins (startQ av mv nv lim params al sv me) (ml.take 4096) k).1.regs r)) ∧ (stQ x.ins (startQ av mv nv lim params al sv me) (ml.take 4096) k).2.length ≤ 1000000) (hf : x.fin.op = 7 ∧ x.fin.a < 16 ∨ x.fin.op = 8) :
    Calls Try.prog 23 #[.agg #[.int .i64 params, .int .i64 r, .int .i64 sl, .slice A 1 c], .agg #[av, mv, nv, .int .i64 lim]] w (OnePost x av mv nv lim params al ml w) := by
  have HA := Lib.hid (show PBlocksAt w (.slice A [x].length c) [x] from hA)
  have HWF := Lib.hid hwf
  have hfq : ((funcQ params r sl [x]).1 == 0) = true := beq_iff_eq.2 hok
  have HAV := Lib.hid ha
  have HMV := Lib.hid hm
  have HI := Lib.hid hi
  have HWW := Lib.hid hW
  have HX := Lib.hid hx
  have HFI := Lib.hid hf
  clear hA hwf hok ha hm hi hW hx hf
  go_enter Try.func23, Try.ntmps23
  go_upto_region 1 with (fail)
  obtain ⟨Wa, hWa⟩ : ∃ Wa, w.alloc (.cells #[.int .i64 params, .int .i64 r, .int .i64 sl, .slice A 1 c] 51) = Wa := ⟨_, rfl⟩
  have hba : Below w.heap.size w Wa := by rw [← hWa]; exact (Below.refl _ _).alloc (Nat.le_refl _) _
  have hsa : Str Wa w.heap.size 51 [.int .i64 params, .int .i64 r, .int .i64 sl, .slice A 1 c] := by rw [← hWa]; exact World.alloc_heap_new w _
  have hza : Wa.heap.size = w.heap.size + 1 := by rw [← hWa, World.size_alloc]
  rw [hWa]
  clear hWa
  obtain ⟨Wb, hWb⟩ : ∃ Wb, Wa.alloc (.cells #[av, mv, nv, .int .i64 lim] 53) = Wb := ⟨_, rfl⟩
  have hbb : Below Wa.heap.size Wa Wb := by rw [← hWb]; exact (Below.refl _ _).alloc (Nat.le_refl _) _
  have hsb : Str Wb Wa.heap.size 53 [av, mv, nv, .int .i64 lim] := by rw [← hWb]; exact World.alloc_heap_new Wa _
  have hzb : Wb.heap.size = Wa.heap.size + 1 := by rw [← hWb, World.size_alloc]
  rw [hWb]
  clear hWb
  obtain ⟨W1, hW1⟩ : ∃ W1, Wb.alloc (.cells #[.int .i64 0, .int .i32 0, .slice none 0 0, .slice none 0 0, .int .i64 0] 39) = W1 := ⟨_, rfl⟩
  have hbc : Below Wb.heap.size Wb W1 := by rw [← hW1]; exact (Below.refl _ _).alloc (Nat.le_refl _) _
  have hsc : Str W1 Wb.heap.size 39 [.int .i64 0, .int .i32 0, .slice none 0 0, .slice none 0 0, .int .i64 0] := by rw [← hW1]; exact World.alloc_heap_new Wb _
  rw [hW1]
  clear hW1
  rw [hza] at hsb
  rw [hzb, hza] at hsc
  have HF := Lib.hid ((hsa.below hbb).below hbc)
  have HN := Lib.hid (hsb.below hbc)
  have HR := Lib.hid hsc
  have HB1 := Lib.hid (hba.trans ((hbb.trans (hbc.mono hbb.size)).mono hba.size))
  have m0 := HF.out.cell 0
  have m1 := HF.out.cell 1
  have m2 := HF.out.cell 2
  have m3 := HF.out.cell 3
  simp only [List.getElem?_cons_zero, List.getElem?_cons_succ] at m0 m1 m2 m3
  clear hsa hsb hsc hza hzb hba hbb hbc
  go_wp2_with fail
  refine (rightQ_any W1 params r sl A c [x] (HA.out.keep HB1.out) HWF.out).mono ?_
  rintro e w2 ⟨rfl, hb2⟩
  rw [hfq]
  have HB2 := Lib.hid (HB1.out.trans (hb2.mono HB1.out.size))
  have HF2 := Lib.hid (HF.out.below hb2)
  have HN2 := Lib.hid (HN.out.below hb2)
  have HR2 := Lib.hid (HR.out.below hb2)
  clear hb2 m0 m1 m2 m3 HF HN HR
  have z0 := HR2.out.cell 0
  have y0 := HR2.out.frozen 0
  have z1 := HR2.out.cell 1
  have y1 := HR2.out.frozen 1
  have z2 := HR2.out.cell 2
  have y2 := HR2.out.frozen 2
  have z3 := HR2.out.cell 3
  have y3 := HR2.out.frozen 3
  have z4 := HR2.out.cell 4
  have y4 := HR2.out.frozen 4
  simp only [List.getElem?_cons_zero, List.getElem?_cons_succ] at z0 z1 z2 z3 z4
  have m0 := HF2.out.cell 0
  have n0 := HN2.out.cell 0
  have m1 := HF2.out.cell 1
  have n1 := HN2.out.cell 1
  have m2 := HF2.out.cell 2
  have n2 := HN2.out.cell 2
  have m3 := HF2.out.cell 3
  have n3 := HN2.out.cell 3
  simp only [List.getElem?_cons_zero, List.getElem?_cons_succ] at m0 m1 m2 m3 n0 n1 n2 n3
  go_wp2_with fail
  refine (beginQ_any w2 params sl r (.slice A 1 c) hp hsl av mv nv lim al ml (HAV.out.below HB2.out) (HMV.out.below HB2.out)).mono ?_
  rintro e w3 ⟨g, sv, me, rfl, hat, hsv, hme, hb3, _⟩
  obtain ⟨mA, mn, mc, rfl⟩ := OwnWords.slice hme
  have HAT := Lib.hid (show (startQ av mv nv lim params al sv (.slice mA mn mc)).At w2.heap.size g w3 from hat)
  have HME := Lib.hid hme
  have HB3 := Lib.hid hb3
  have HSUF := Lib.hid (show ∀ en w', (en = .returned (.agg #[.int .i64 (restQ x.fin x.ins (startQ av mv nv lim params al sv (.slice mA mn mc)) (ml.take 4096)).1.how, .int .i32 (restQ x.fin x.ins (startQ av mv nv lim params al sv (.slice mA mn mc)) (ml.take 4096)).1.val, .slice mA mn mc, .slice none 0 0, .int .i64 (restQ x.fin x.ins (startQ av mv nv lim params al sv (.slice mA mn mc)) (ml.take 4096)).1.steps]) ∧ Below w.heap.size w w') → OnePost x av mv nv lim params al ml w en w' from fun en w' h => ⟨sv, mA, mn, mc, h⟩)
  have HWK := Lib.hid (fun k hk => HWW.out sv (.slice mA mn mc) k hk)
  obtain ⟨s0, hs0⟩ : ∃ s0, startQ av mv nv lim params al sv (.slice mA mn mc) = s0 := ⟨_, rfl⟩
  have hs1 : s0.how = 0 ∧ s0.me = .slice mA mn mc ∧ s0.ca = .slice none 0 0 ∧ s0.max = lim ∧ s0.steps = 0 := by rw [← hs0]; exact ⟨rfl, rfl, rfl, rfl, rfl⟩
  rw [hs0] at HAT HSUF HWK
  have HS0 := Lib.hid hs1
  obtain ⟨⟨rs, rm⟩, hrr⟩ : ∃ p, restQ x.fin x.ins s0 (ml.take 4096) = p := ⟨_, rfl⟩
  have HRR := Lib.hid hrr
  have hrm := restQ_me x.fin x.ins s0 (ml.take 4096)
  rw [hrr] at HSUF hrm
  have HRM := Lib.hid hrm
  clear hat hsv hme hb3 hs0 hs1 hrr hrm z0 z1 z2 z3 z4 y0 y1 y2 y3 y4 hfq m0 m1 m2 m3 n0 n1 n2 n3
  go_wp2_with fail
  obtain ⟨A', c', b, o, e, q1, q2, q3, q4⟩ := HA.out.keep HB2.out
  injection e with e1 _ e3
  subst e1 e3
  have e1 := q3 Nat.zero_lt_one
  subst e1
  have q4 := q4 0 Nat.zero_lt_one
  rw [show o + 0 * 6 = o by omega] at q4
  obtain ⟨p0, c0, p4, c4, r0, r1, r2, r3, r4, r5, g1, g5⟩ := pblock_rows q4
  simp only [List.getElem_cons_zero] at r0 r1 r2 r3 r4 r5 g1 g5
  have HG1 := Lib.hid g1
  have HCE := Lib.hid (And.intro r0 (And.intro r1 (And.intro r2 (And.intro r3 (And.intro r4 r5)))))
  have q1 : 1 ≤ c := q1
  have HSZ := Lib.hid (HWF.out.sizes x (List.mem_singleton.2 rfl))
  clear q3 q4 g1 g5 r0 r1 r2 r3 r4 r5
  go_loopw [6] (fun i wr => i = .int .i64 0 ∧ ∃ p : PRun × List Int, (p = (s0, ml.take 4096) ∨ p = (rs, rm)) ∧ p.1.At w2.heap.size g wr ∧ OwnWords w2.heap.size wr p.1.me p.2 ∧ Below w2.heap.size w2 wr) (fun _ wr => howM wr g)
  case atStart => exact ⟨rfl, _, Or.inl rfl, HAT.out, by show OwnWords _ _ s0.me _; rw [HS0.out.2.1]; exact HME.out, HB3.out⟩
  case round =>
    obtain ⟨rfl, p, hp1, hp2, hp3, hp4⟩ := hrel
    rcases hp1 with rfl | rfl
    · have HP2 := Lib.hid hp2
      have HP3 := Lib.hid hp3
      have HP4 := Lib.hid hp4
      have c21 : wr.cell? ⟨g, 21, none⟩ = some (.int .i64 0) := by rw [hp2.cells.2.2.1]; show some (Value.int .i64 s0.how) = _; rw [HS0.out.1]
      have HC21 := Lib.hid c21
      obtain ⟨r0, r1, r2, r3, r4, r5⟩ := HCE.out
      have r0 := cell_keep HP4.out (Nat.le_refl _) r0
      have r1 := cell_keep HP4.out (Nat.le_refl _) r1
      have r2 := cell_keep HP4.out (Nat.le_refl _) r2
      have r3 := cell_keep HP4.out (Nat.le_refl _) r3
      have r4 := cell_keep HP4.out (Nat.le_refl _) r4
      have r5 := cell_keep HP4.out (Nat.le_refl _) r5
      have f3 := (HF2.out.below HP4.out).cell 3
      simp only [List.getElem?_cons_zero, List.getElem?_cons_succ] at f3
      clear hp2 hp3 hp4
      go_wp2_with fail
      refine (blockQ_any w2 wr HP4.out g s0 (ml.take 4096) x p0 p4 c0 c4 HG1.out HP2.out HP3.out HI.out HWK.out (by rw [HS0.out.2.2.2.1]; exact HX.out) (by rw [HS0.out.2.2.2.2]; exact Int.le_refl _) (by rw [HS0.out.2.2.2.2]; have := HSZ.out.1; omega) HSZ.out.1 HFI.out).mono ?_
      rintro e w4 ⟨rfl, a4, o4, b4⟩
      rw [HRR.out] at a4 o4
      have HA4 := Lib.hid a4
      have HO4 := Lib.hid o4
      have HB4 := Lib.hid b4
      have HMEAS := Lib.hid (show howM w4 g < howM wr g by rw [howM_zero a4.cells.2.2.1 HRM.out.2.2, howM_one HC21.out]; decide)
      clear a4 o4 b4 r0 r1 r2 r3 r4 r5 f3 c21
      go_wp2_with fail
      exact ⟨⟨rfl, (rs, rm), Or.inr rfl, HA4.out, HO4.out, HB4.out⟩, HMEAS.out⟩
    · have HP4 := Lib.hid hp4
      obtain ⟨d3, d20, d21, d22, d23, d24, d25⟩ := hp2.cells
      have c21 : wr.cell? ⟨g, 21, none⟩ = some (.int .i64 rs.how) := d21
      have c22 : wr.cell? ⟨g, 22, none⟩ = some (.int .i32 rs.val) := d22
      have c23 : wr.cell? ⟨g, 23, none⟩ = some (.slice mA mn mc) := by rw [d23]; show some rs.me = _; rw [show rs.me = s0.me from HRM.out.1, HS0.out.2.1]
      have c24 : wr.cell? ⟨g, 24, none⟩ = some (.slice none 0 0) := by rw [d24]; show some rs.ca = _; rw [show rs.ca = s0.ca from HRM.out.2.1, HS0.out.2.2.1]
      have c25 : wr.cell? ⟨g, 25, none⟩ = some (.int .i64 rs.steps) := d25
      have hz : (rs.how == 0) = false := beq_eq_false_iff_ne.2 HRM.out.2.2
      have z0 := (HR2.out.below HP4.out).cell 0
      have y0 := (HR2.out.below HP4.out).frozen 0
      have z1 := (HR2.out.below HP4.out).cell 1
      have y1 := (HR2.out.below HP4.out).frozen 1
      have z2 := (HR2.out.below HP4.out).cell 2
      have y2 := (HR2.out.below HP4.out).frozen 2
      have z3 := (HR2.out.below HP4.out).cell 3
      have y3 := (HR2.out.below HP4.out).frozen 3
      have z4 := (HR2.out.below HP4.out).cell 4
      have y4 := (HR2.out.below HP4.out).frozen 4
      simp only [List.getElem?_cons_zero, List.getElem?_cons_succ] at z0 z1 z2 z3 z4
      have HBR := Lib.hid (HB2.out.trans (HP4.out.mono HB2.out.size))
      have HEND := Lib.hid (fun a b c d e => HBR.out.trans (below_of_but (five_butQ (w.heap.size + 1 + 1) wr a b c d e) (by omega) HBR.out.size))
      clear hp2 hp3 hp4 d3 d20 d21 d22 d23 d24 d25
      go_wp2_with fail
      refine ⟨rfl, .agg #[.int .i64 rs.how, .int .i32 rs.val, .slice mA mn mc, .slice none 0 0, .int .i64 rs.steps], ?_, HSUF.out _ _ ⟨rfl, HEND.out _ _ _ _ _⟩⟩
      simp only [results]
      go_simp
end Go.Proofs.Ytdidacjmcafcpaa.Ph
