/- Stage 12: the law PhysPieces, as a call. -/
import Derived.Test.YtmbecjpooeofgaaQU
import Derived.Test.YtmbecjpooeofgaaQC
import Derived.Test.YtmbecjpooeofgaaQH
import Derived.Test.YtmbecjpooeofgaaQI
namespace Go.Proofs.Ytmbecjpooeofgaa.Ph
open Go.ChangeShapes Go.WideShapes Go.ChangeAt Go.RowKit Go.Proofs.Ytmbecjpooeofgaa.Mem Go.Proofs.Ytmbecjpooeofgaa.Kc Go.Proofs.Ytmbecjpooeofgaa.Pl Go.Proofs.Ytmbecjpooeofgaa.Mw Go.Proofs.Ytmbecjpooeofgaa.Mc Go.Proofs.Ytmbecjpooeofgaa.Br Go.Proofs.Ytmbecjpooeofgaa.Wd Go.Proofs.Ytmbecjpooeofgaa.Gr
set_option linter.unusedVariables false
set_option linter.unusedSimpArgs false
/-- The law's three boxes: an instruction, an end, three numbers. -/
structure Boxes (x : Nat) (M E N : List Value) (w : World) : Prop where
  b0 : Str w x 24 M
  b1 : Str w (x + 1) 26 E
  b2 : Str w (x + 2) 27 N
theorem Boxes.below {x : Nat} {M E N : List Value} {w w' : World} (h : Boxes x M E N w) (hb : Below w.heap.size w w') : Boxes x M E N w' := ⟨h.b0.below hb, h.b1.below hb, h.b2.below hb⟩
theorem Boxes.but {x y : Nat} {M E N : List Value} {w w' : World} (h : Boxes x M E N w) (hb : But y w w') (h0 : y < x ∨ x + 2 < y) : Boxes x M E N w' := ⟨hb.str h.b0 (by omega), hb.str h.b1 (by omega), hb.str h.b2 (by omega)⟩
theorem ints_but {B y : Nat} {w w' : World} {v : Value} {l : List Int} (h : OwnInts B w v l) (hb : But y w w') (hy : y < B) : OwnInts B w' v l := by
  refine World.ownsRow.kept h (row := some y) ⟨hb.os, hb.tape, hb.output, hb.size, fun k hk hn => hb.block k hk (fun e => hn (by rw [e]))⟩ (Or.inr ?_)
  rcases h.2 with ⟨rfl, _⟩ | ⟨g, cap, cur, rfl, hg, _⟩
  · intro e; cases e
  · intro e; injection e with e; have e : g = y := e; omega
theorem ints_below {B : Nat} {w w' : World} {v : Value} {l : List Int} (h : OwnInts B w v l) (hb : Below w.heap.size w w') : OwnInts B w' v l := by
  refine World.ownsRow.kept h (row := none) ⟨hb.os, hb.tape, hb.output, hb.size, fun k hk _ => hb.block k hk⟩ ?_
  cases v.ownBlock with
  | none => exact Or.inl rfl
  | some g => exact Or.inr (by simp)
set_option maxRecDepth 100000 in
set_option maxHeartbeats 8000000 in
theorem pieces_any (w : World) (i : PMach) (A : Option Addr) (k : Nat) (f : PEnd) (E : Option Addr) (ek : Nat) (n0 n1 n2 : Int) (hv : Ints w (.slice A i.args.length k) i.args) (he : Ints w (.slice E f.to.length ek) f.to) (hw : InW i.imm) :
    Calls Try.prog 3 #[.agg #[.int .i64 i.op, .int .i64 i.d, .int .i64 i.e, .int .i64 i.a, .int .i64 i.b, .int .i64 i.c, .int .i32 i.imm, .slice A i.args.length k], .agg #[.int .i64 f.op, .int .i64 f.a, .int .i64 f.b, .slice E f.to.length ek, .int .i32 f.imm], .agg #[.int .i64 n0, .int .i64 n1, .int .i64 n2]] w fun e w' => e = .returned (.bool true) ∧ Below w.heap.size w w' := by
  have HV := Lib.hid hv
  have HE := Lib.hid he
  have HW := Lib.hid hw
  obtain ⟨qa, hqa⟩ : ∃ q : Nat, min i.args.length 6 = q := ⟨_, rfl⟩
  obtain ⟨qt, hqt⟩ : ∃ q : Nat, min f.to.length 70 = q := ⟨_, rfl⟩
  have hma : min (i.args.length : Int) 6 = (qa : Int) := by omega
  have hmt : min (f.to.length : Int) 70 = (qt : Int) := by omega
  have hla : qa ≤ i.args.length := by omega
  have hlt : qt ≤ f.to.length := by omega
  have hxa : i.args.length ≤ 9223372036854775807 := by obtain ⟨_, _, e, h1, h2, _⟩ := hv; unfold maxLen at h2; omega
  have hka : i.args.length ≤ k := by obtain ⟨_, c', e, h1, h2, _⟩ := hv; injection e with _ _ e; omega
  have hkt : f.to.length ≤ ek := by obtain ⟨_, c', e, h1, h2, _⟩ := he; injection e with _ _ e; omega
  have hkm : k ≤ 9223372036854775807 ∧ ek ≤ 9223372036854775807 := by
    obtain ⟨_, c1, e1, _, h1, _⟩ := hv
    obtain ⟨_, c2, e2, _, h2, _⟩ := he
    injection e1 with _ _ e1
    injection e2 with _ _ e2
    unfold maxLen at h1 h2
    omega
  obtain ⟨hkm1, hkm2⟩ := hkm
  have hq6 : qa ≤ 6 := by omega
  have hq70 : qt ≤ 70 := by omega
  clear hv he hw
  go_enter Try.func3, Try.ntmps3
  go_upto_region 1 with (fail)
  obtain ⟨W1, hW1⟩ : ∃ V, ((w.alloc (.cells #[.int .i64 i.op, .int .i64 i.d, .int .i64 i.e, .int .i64 i.a, .int .i64 i.b, .int .i64 i.c, .int .i32 i.imm, .slice A i.args.length k] 24)).alloc (.cells #[.int .i64 f.op, .int .i64 f.a, .int .i64 f.b, .slice E f.to.length ek, .int .i32 f.imm] 26)).alloc (.cells #[.int .i64 n0, .int .i64 n1, .int .i64 n2] 27) = V := ⟨_, rfl⟩
  have hb1 : Below w.heap.size w W1 := by rw [← hW1]; exact (((Below.refl _ _).alloc (Nat.le_refl _) _).alloc (by simp) _).alloc (by simp; omega) _
  have hx1 : Boxes w.heap.size [.int .i64 i.op, .int .i64 i.d, .int .i64 i.e, .int .i64 i.a, .int .i64 i.b, .int .i64 i.c, .int .i32 i.imm, .slice A i.args.length k] [.int .i64 f.op, .int .i64 f.a, .int .i64 f.b, .slice E f.to.length ek, .int .i32 f.imm] [.int .i64 n0, .int .i64 n1, .int .i64 n2] W1 := by
    have a0 : Str _ w.heap.size 24 [.int .i64 i.op, .int .i64 i.d, .int .i64 i.e, .int .i64 i.a, .int .i64 i.b, .int .i64 i.c, .int .i32 i.imm, .slice A i.args.length k] := World.alloc_heap_new w _
    obtain ⟨Wa, hWa⟩ : ∃ V, w.alloc (.cells #[.int .i64 i.op, .int .i64 i.d, .int .i64 i.e, .int .i64 i.a, .int .i64 i.b, .int .i64 i.c, .int .i32 i.imm, .slice A i.args.length k] 24) = V := ⟨_, rfl⟩
    have hza : Wa.heap.size = w.heap.size + 1 := by rw [← hWa, World.size_alloc]
    rw [hWa] at a0 hW1
    have a1 : Str _ Wa.heap.size 26 [.int .i64 f.op, .int .i64 f.a, .int .i64 f.b, .slice E f.to.length ek, .int .i32 f.imm] := World.alloc_heap_new Wa _
    have ab : Below Wa.heap.size Wa (Wa.alloc (.cells #[.int .i64 f.op, .int .i64 f.a, .int .i64 f.b, .slice E f.to.length ek, .int .i32 f.imm] 26)) := (Below.refl _ _).alloc (Nat.le_refl _) _
    obtain ⟨Wb, hWb⟩ : ∃ V, Wa.alloc (.cells #[.int .i64 f.op, .int .i64 f.a, .int .i64 f.b, .slice E f.to.length ek, .int .i32 f.imm] 26) = V := ⟨_, rfl⟩
    have hzb : Wb.heap.size = Wa.heap.size + 1 := by rw [← hWb, World.size_alloc]
    rw [hWb] at a1 ab hW1
    have a2 : Str _ Wb.heap.size 27 [.int .i64 n0, .int .i64 n1, .int .i64 n2] := World.alloc_heap_new Wb _
    have ac : Below Wb.heap.size Wb (Wb.alloc (.cells #[.int .i64 n0, .int .i64 n1, .int .i64 n2] 27)) := (Below.refl _ _).alloc (Nat.le_refl _) _
    rw [hW1] at a2 ac
    rw [hza] at a1
    rw [hzb, hza] at a2
    exact ⟨(a0.below ab).below ac, a1.below ac, a2⟩
  rw [hW1]
  clear hW1
  have HB := Lib.hid hb1
  have HX := Lib.hid hx1
  clear hb1 hx1
  go_wp2_with fail
  refine (shown_any W1).mono ?_
  rintro e w2 ⟨rfl, hb⟩
  have HB := Lib.hid (HB.out.trans (hb.mono HB.out.size))
  have HX := Lib.hid (HX.out.below hb)
  clear hb
  go_upto_region 2 with (fail)
  have mb : (w2.alloc (.cells #[] 3)).cell? ⟨w.heap.size, 7, none⟩ = some (.slice A i.args.length k) := cell_keep ((Below.refl _ _).alloc (Nat.le_refl _) _) (Nat.le_refl _) (HX.out.b0.cell 7)
  go_wp2_with (at_builtin; refine wpList_own0i rfl _ _ rfl rfl w2.heap.size _ (i.args.take qa) rfl (empty_own w2 _ 1) ?c1 ?c2 ?c3 ?_)
  case c1 => exact Ints.take (HV.out.keep (HB.out.trans ((Below.refl w2.heap.size w2).alloc (Nat.le_refl _) _ |>.mono HB.out.size))) qa (by omega)
  case c2 => rw [List.length_take]; omega
  case c3 => simp
  intro v' w3 ho hg3
  have hb3 := below_of_own ((Below.refl w2.heap.size w2).alloc (Nat.le_refl _) _) hg3 (fun g hg => by have e2 : w2.heap.size = g := Option.some.inj hg; omega)
  obtain ⟨vA, vc, hve⟩ := own_form (show OwnInts w2.heap.size w3 v' _ from ho)
  rw [show (List.take qa i.args).length = qa by rw [List.length_take]; omega] at hve
  subst hve
  have HO := Lib.hid (show OwnInts w2.heap.size w3 _ _ from ho)
  have hx3 := HX.out.below hb3
  have z7 := hx3.b0.cell 7
  have y7 := hx3.b0.frozen 7
  have z7 : w3.cell? ⟨w.heap.size, 7, none⟩ = some (.slice A i.args.length k) := z7
  have hlt9 : w.heap.size + 2 < w2.heap.size := HX.out.b2.lt
  have HX3 := Lib.hid hx3
  have HB3 := Lib.hid (HB.out.trans (hb3.mono HB.out.size))
  skip
  clear ho hg3 hb3 hx3 mb
  go_upto_region 3 with (fail)
  obtain ⟨W4, hN⟩ : ∃ V, w3.setCell ⟨w.heap.size, 7, none⟩ (.slice vA qa vc) = V := ⟨_, rfl⟩
  rw [hN]
  have hbt : But (w.heap.size) w3 W4 := by rw [← hN]; exact but_set _ _ _ _
  have hst : Str W4 w.heap.size 24 [.int .i64 i.op, .int .i64 i.d, .int .i64 i.e, .int .i64 i.a, .int .i64 i.b, .int .i64 i.c, .int .i32 i.imm, .slice vA qa vc] := by rw [← hN]; exact HX3.out.b0.set 7 _
  have HX := Lib.hid (show Boxes w.heap.size [.int .i64 i.op, .int .i64 i.d, .int .i64 i.e, .int .i64 i.a, .int .i64 i.b, .int .i64 i.c, .int .i32 i.imm, .slice vA qa vc] [.int .i64 f.op, .int .i64 f.a, .int .i64 f.b, .slice E f.to.length ek, .int .i32 f.imm] [.int .i64 n0, .int .i64 n1, .int .i64 n2] W4 from ⟨hst, hbt.str HX3.out.b1 (by omega), hbt.str HX3.out.b2 (by omega)⟩)
  have Hv := Lib.hid (ints_but HO.out hbt (by omega))
  skip
  have HB := Lib.hid (HB3.out.trans (below_of_but hbt (by omega) HB3.out.size))
  clear hN hbt hst z7 y7
  have mb : (W4.alloc (.cells #[] 3)).cell? ⟨w.heap.size + 1, 3, none⟩ = some (.slice E f.to.length ek) := cell_keep ((Below.refl _ _).alloc (Nat.le_refl _) _) (Nat.le_refl _) (HX.out.b1.cell 3)
  go_wp2_with (at_builtin; refine wpList_own0i rfl _ _ rfl rfl W4.heap.size _ (f.to.take qt) rfl (empty_own W4 _ 1) ?c1 ?c2 ?c3 ?_)
  case c1 => exact Ints.take (HE.out.keep (HB.out.trans ((Below.refl W4.heap.size W4).alloc (Nat.le_refl _) _ |>.mono HB.out.size))) qt (by omega)
  case c2 => rw [List.length_take]; omega
  case c3 => simp
  intro v' w5 ho hg3
  have hb3 := below_of_own ((Below.refl W4.heap.size W4).alloc (Nat.le_refl _) _) hg3 (fun g hg => by have e2 : W4.heap.size = g := Option.some.inj hg; omega)
  obtain ⟨tA, tc, hve⟩ := own_form (show OwnInts W4.heap.size w5 v' _ from ho)
  rw [show (List.take qt f.to).length = qt by rw [List.length_take]; omega] at hve
  subst hve
  have HO := Lib.hid (show OwnInts W4.heap.size w5 _ _ from ho)
  have hx3 := HX.out.below hb3
  have z7 := hx3.b1.cell 3
  have y7 := hx3.b1.frozen 3
  have z7 : w5.cell? ⟨w.heap.size + 1, 3, none⟩ = some (.slice E f.to.length ek) := z7
  have hlt9 : w.heap.size + 2 < W4.heap.size := HX.out.b2.lt
  have HX3 := Lib.hid hx3
  have HB3 := Lib.hid (HB.out.trans (hb3.mono HB.out.size))
  have Hv := Lib.hid (ints_below Hv.out hb3)
  clear ho hg3 hb3 hx3 mb
  go_upto_region 4 with (fail)
  obtain ⟨W6, hN⟩ : ∃ V, w5.setCell ⟨w.heap.size + 1, 3, none⟩ (.slice tA qt tc) = V := ⟨_, rfl⟩
  rw [hN]
  have hbt : But (w.heap.size + 1) w5 W6 := by rw [← hN]; exact but_set _ _ _ _
  have hst : Str W6 (w.heap.size + 1) 26 [.int .i64 f.op, .int .i64 f.a, .int .i64 f.b, .slice tA qt tc, .int .i32 f.imm] := by rw [← hN]; exact HX3.out.b1.set 3 _
  have HX := Lib.hid (show Boxes w.heap.size [.int .i64 i.op, .int .i64 i.d, .int .i64 i.e, .int .i64 i.a, .int .i64 i.b, .int .i64 i.c, .int .i32 i.imm, .slice vA qa vc] [.int .i64 f.op, .int .i64 f.a, .int .i64 f.b, .slice tA qt tc, .int .i32 f.imm] [.int .i64 n0, .int .i64 n1, .int .i64 n2] W6 from ⟨hbt.str HX3.out.b0 (by omega), hst, hbt.str HX3.out.b2 (by omega)⟩)
  have Ht := Lib.hid (ints_but HO.out hbt (by omega))
  have Hv := Lib.hid (ints_but Hv.out hbt (by omega))
  have HB := Lib.hid (HB3.out.trans (below_of_but hbt (by omega) HB3.out.size))
  clear hN hbt hst z7 y7
  obtain ⟨j, hj⟩ : ∃ j : PMach, ({ i with args := i.args.take qa } : PMach) = j := ⟨_, rfl⟩
  obtain ⟨h, hh⟩ : ∃ h : PEnd, (⟨f.op, f.a, f.b, f.to.take qt, f.imm⟩ : PEnd) = h := ⟨_, rfl⟩
  have hjl : j.args.length = qa := by rw [← hj]; show (List.take qa i.args).length = qa; rw [List.length_take]; omega
  have hhl : h.to.length = qt := by rw [← hh]; show (List.take qt f.to).length = qt; rw [List.length_take]; omega
  have HX := Lib.hid (show Boxes w.heap.size [.int .i64 j.op, .int .i64 j.d, .int .i64 j.e, .int .i64 j.a, .int .i64 j.b, .int .i64 j.c, .int .i32 j.imm, .slice vA j.args.length vc] [.int .i64 h.op, .int .i64 h.a, .int .i64 h.b, .slice tA h.to.length tc, .int .i32 h.imm] [.int .i64 n0, .int .i64 n1, .int .i64 n2] W6 by rw [hjl, hhl, ← hj, ← hh]; exact HX.out)
  have HVI := Lib.hid (show Ints W6 (.slice vA j.args.length vc) j.args by rw [hjl, ← hj]; exact OwnInts.ints Hv.out)
  have HTI := Lib.hid (show Ints W6 (.slice tA h.to.length tc) h.to by rw [hhl, ← hh]; exact OwnInts.ints Ht.out)
  have HJW := Lib.hid (show InW j.imm by rw [← hj]; exact HW.out)
  have HJL := Lib.hid (show j.args.length ≤ 6 by omega)
  clear hj hh hjl hhl hma hmt hla hlt hxa hka hkt hkm1 hkm2 hq6 hq70 hqa hqt HX3 HB3 HO Hv Ht HV HE HW
  go_wp2_with fail
  have hdr : Below W6.heap.size W6 W6.drew := (Below.refl _ _).drew
  have HX := Lib.hid (HX.out.below hdr)
  have HVI := Lib.hid (HVI.out.keep hdr)
  have HTI := Lib.hid (HTI.out.keep hdr)
  have HB := Lib.hid (HB.out.trans (hdr.mono HB.out.size))
  clear hdr
  refine region_heldC_wp (fun w' => Boxes w.heap.size [.int .i64 j.op, .int .i64 j.d, .int .i64 j.e, .int .i64 j.a, .int .i64 j.b, .int .i64 j.c, .int .i32 j.imm, .slice vA j.args.length vc] [.int .i64 h.op, .int .i64 h.a, .int .i64 h.b, .slice tA h.to.length tc, .int .i32 h.imm] [.int .i64 n0, .int .i64 n1, .int .i64 n2] w') [0, 2, 5, 6, 8, 11, 12, 13, 15, 18, 19, 20, 22, 25, 26] [0, 2, 1, 3, 4, 5, 6, 8, 7, 9, 10, 11, 12, 13, 15, 14, 16, 17, 18, 19, 20, 22, 21, 23, 24, 25, 26] (by kernel_rfl) (by kernel_rfl) (by kernel_rfl) rfl (by intro c a d v w h; cases d <;> exact h) HX.out ?_
  refine walkC_still _ ?r1u rfl rfl rfl ?r1y ?_
  case r1y =>
    intro ww hS
    have qb00 : ww.cell? ⟨w.heap.size, 0, none⟩ = some (.int .i64 j.op) := hS.b0.cell 0
    have qb01 : ww.cell? ⟨w.heap.size, 1, none⟩ = some (.int .i64 j.d) := hS.b0.cell 1
    have qb02 : ww.cell? ⟨w.heap.size, 2, none⟩ = some (.int .i64 j.e) := hS.b0.cell 2
    have qb03 : ww.cell? ⟨w.heap.size, 3, none⟩ = some (.int .i64 j.a) := hS.b0.cell 3
    have qb04 : ww.cell? ⟨w.heap.size, 4, none⟩ = some (.int .i64 j.b) := hS.b0.cell 4
    have qb05 : ww.cell? ⟨w.heap.size, 5, none⟩ = some (.int .i64 j.c) := hS.b0.cell 5
    have qb06 : ww.cell? ⟨w.heap.size, 6, none⟩ = some (.int .i32 j.imm) := hS.b0.cell 6
    have qb07 : ww.cell? ⟨w.heap.size, 7, none⟩ = some (.slice vA j.args.length vc) := hS.b0.cell 7
    have qb10 : ww.cell? ⟨w.heap.size + 1, 0, none⟩ = some (.int .i64 h.op) := hS.b1.cell 0
    have qb11 : ww.cell? ⟨w.heap.size + 1, 1, none⟩ = some (.int .i64 h.a) := hS.b1.cell 1
    have qb12 : ww.cell? ⟨w.heap.size + 1, 2, none⟩ = some (.int .i64 h.b) := hS.b1.cell 2
    have qb13 : ww.cell? ⟨w.heap.size + 1, 3, none⟩ = some (.slice tA h.to.length tc) := hS.b1.cell 3
    have qb14 : ww.cell? ⟨w.heap.size + 1, 4, none⟩ = some (.int .i32 h.imm) := hS.b1.cell 4
    have qb20 : ww.cell? ⟨w.heap.size + 2, 0, none⟩ = some (.int .i64 n0) := hS.b2.cell 0
    have qb21 : ww.cell? ⟨w.heap.size + 2, 1, none⟩ = some (.int .i64 n1) := hS.b2.cell 1
    have qb22 : ww.cell? ⟨w.heap.size + 2, 2, none⟩ = some (.int .i64 n2) := hS.b2.cell 2
    go_simp; first | done | with_reducible rfl
  simp only [Act.put]
  try simp only [List.setIfInBounds_toArray, List.set_cons_zero, List.set_cons_succ]
  refine walkC_still _ ?r2u rfl rfl rfl ?r2y ?_
  case r2y =>
    intro ww hS
    have qb00 : ww.cell? ⟨w.heap.size, 0, none⟩ = some (.int .i64 j.op) := hS.b0.cell 0
    have qb01 : ww.cell? ⟨w.heap.size, 1, none⟩ = some (.int .i64 j.d) := hS.b0.cell 1
    have qb02 : ww.cell? ⟨w.heap.size, 2, none⟩ = some (.int .i64 j.e) := hS.b0.cell 2
    have qb03 : ww.cell? ⟨w.heap.size, 3, none⟩ = some (.int .i64 j.a) := hS.b0.cell 3
    have qb04 : ww.cell? ⟨w.heap.size, 4, none⟩ = some (.int .i64 j.b) := hS.b0.cell 4
    have qb05 : ww.cell? ⟨w.heap.size, 5, none⟩ = some (.int .i64 j.c) := hS.b0.cell 5
    have qb06 : ww.cell? ⟨w.heap.size, 6, none⟩ = some (.int .i32 j.imm) := hS.b0.cell 6
    have qb07 : ww.cell? ⟨w.heap.size, 7, none⟩ = some (.slice vA j.args.length vc) := hS.b0.cell 7
    have qb10 : ww.cell? ⟨w.heap.size + 1, 0, none⟩ = some (.int .i64 h.op) := hS.b1.cell 0
    have qb11 : ww.cell? ⟨w.heap.size + 1, 1, none⟩ = some (.int .i64 h.a) := hS.b1.cell 1
    have qb12 : ww.cell? ⟨w.heap.size + 1, 2, none⟩ = some (.int .i64 h.b) := hS.b1.cell 2
    have qb13 : ww.cell? ⟨w.heap.size + 1, 3, none⟩ = some (.slice tA h.to.length tc) := hS.b1.cell 3
    have qb14 : ww.cell? ⟨w.heap.size + 1, 4, none⟩ = some (.int .i32 h.imm) := hS.b1.cell 4
    have qb20 : ww.cell? ⟨w.heap.size + 2, 0, none⟩ = some (.int .i64 n0) := hS.b2.cell 0
    have qb21 : ww.cell? ⟨w.heap.size + 2, 1, none⟩ = some (.int .i64 n1) := hS.b2.cell 1
    have qb22 : ww.cell? ⟨w.heap.size + 2, 2, none⟩ = some (.int .i64 n2) := hS.b2.cell 2
    go_simp; first | done | with_reducible rfl
  simp only [Act.put]
  try simp only [List.setIfInBounds_toArray, List.set_cons_zero, List.set_cons_succ]
  refine walkC_does _ rfl rfl ?_
  go_wp2_with fail
  refine (takesQ_any _ j vA j.args.length vc HJW.out HVI.out (by have := HJL.out; omega)).mono ?_
  rintro e' xa ⟨va, rfl, ho, hb⟩
  have HB := Lib.hid (HB.out.trans (hb.mono HB.out.size))
  have HX := Lib.hid (HX.out.below hb)
  have HVI := Lib.hid (HVI.out.keep hb)
  have HTI := Lib.hid (HTI.out.keep hb)
  have Ha := Lib.hid (OwnInts.ints ho)
  obtain ⟨Aa, ka, rfl⟩ := own_form ho
  clear hb ho
  go_wp2_with fail
  refine behindC HX.out ?_
  try simp only [List.setIfInBounds_toArray, List.set_cons_zero, List.set_cons_succ]
  refine walkC_does _ rfl rfl ?_
  go_wp2_with fail
  refine (rtakesQ_any _ j vA j.args.length vc HJW.out HVI.out (by have := HJL.out; omega)).mono ?_
  rintro e' xb ⟨vb, rfl, ho, hb⟩
  have HB := Lib.hid (HB.out.trans (hb.mono HB.out.size))
  have HX := Lib.hid (HX.out.below hb)
  have HVI := Lib.hid (HVI.out.keep hb)
  have HTI := Lib.hid (HTI.out.keep hb)
  have Ha := Lib.hid (Ha.out.keep hb)
  have Hb := Lib.hid (OwnInts.ints ho)
  obtain ⟨Ab, kb, rfl⟩ := own_form ho
  clear hb ho
  go_wp2_with fail
  refine behindC HX.out ?_
  try simp only [List.setIfInBounds_toArray, List.set_cons_zero, List.set_cons_succ]
  refine walkC_does _ rfl rfl ?_
  go_wp2_with fail
  refine (nums_any _ _ _ (takesQ j) (takesQ j) Ha.out Hb.out).mono ?_
  rintro e' y1 ⟨rfl, hb⟩
  rw [show decide ((takesQ j) = (takesQ j)) = true from decide_eq_true rfl]
  have HB := Lib.hid (HB.out.trans (hb.mono HB.out.size))
  have HX := Lib.hid (HX.out.below hb)
  have HVI := Lib.hid (HVI.out.keep hb)
  have HTI := Lib.hid (HTI.out.keep hb)
  clear hb Ha Hb
  go_wp2_with fail
  refine behindC HX.out ?_
  try simp only [List.setIfInBounds_toArray, List.set_cons_zero, List.set_cons_succ]
  refine walkC_still _ ?r3u rfl rfl rfl ?r3y ?_
  case r3y =>
    intro ww hS
    go_simp; first | done | with_reducible rfl
  simp only [Act.put]
  try simp only [List.setIfInBounds_toArray, List.set_cons_zero, List.set_cons_succ]
  refine walkC_still _ ?r4u rfl rfl rfl ?r4y ?_
  case r4y =>
    intro ww hS
    have qb00 : ww.cell? ⟨w.heap.size, 0, none⟩ = some (.int .i64 j.op) := hS.b0.cell 0
    have qb01 : ww.cell? ⟨w.heap.size, 1, none⟩ = some (.int .i64 j.d) := hS.b0.cell 1
    have qb02 : ww.cell? ⟨w.heap.size, 2, none⟩ = some (.int .i64 j.e) := hS.b0.cell 2
    have qb03 : ww.cell? ⟨w.heap.size, 3, none⟩ = some (.int .i64 j.a) := hS.b0.cell 3
    have qb04 : ww.cell? ⟨w.heap.size, 4, none⟩ = some (.int .i64 j.b) := hS.b0.cell 4
    have qb05 : ww.cell? ⟨w.heap.size, 5, none⟩ = some (.int .i64 j.c) := hS.b0.cell 5
    have qb06 : ww.cell? ⟨w.heap.size, 6, none⟩ = some (.int .i32 j.imm) := hS.b0.cell 6
    have qb07 : ww.cell? ⟨w.heap.size, 7, none⟩ = some (.slice vA j.args.length vc) := hS.b0.cell 7
    have qb10 : ww.cell? ⟨w.heap.size + 1, 0, none⟩ = some (.int .i64 h.op) := hS.b1.cell 0
    have qb11 : ww.cell? ⟨w.heap.size + 1, 1, none⟩ = some (.int .i64 h.a) := hS.b1.cell 1
    have qb12 : ww.cell? ⟨w.heap.size + 1, 2, none⟩ = some (.int .i64 h.b) := hS.b1.cell 2
    have qb13 : ww.cell? ⟨w.heap.size + 1, 3, none⟩ = some (.slice tA h.to.length tc) := hS.b1.cell 3
    have qb14 : ww.cell? ⟨w.heap.size + 1, 4, none⟩ = some (.int .i32 h.imm) := hS.b1.cell 4
    have qb20 : ww.cell? ⟨w.heap.size + 2, 0, none⟩ = some (.int .i64 n0) := hS.b2.cell 0
    have qb21 : ww.cell? ⟨w.heap.size + 2, 1, none⟩ = some (.int .i64 n1) := hS.b2.cell 1
    have qb22 : ww.cell? ⟨w.heap.size + 2, 2, none⟩ = some (.int .i64 n2) := hS.b2.cell 2
    go_simp; first | done | with_reducible rfl
  simp only [Act.put]
  try simp only [List.setIfInBounds_toArray, List.set_cons_zero, List.set_cons_succ]
  refine walkC_still _ ?r5u rfl rfl rfl ?r5y ?_
  case r5y =>
    intro ww hS
    have qb00 : ww.cell? ⟨w.heap.size, 0, none⟩ = some (.int .i64 j.op) := hS.b0.cell 0
    have qb01 : ww.cell? ⟨w.heap.size, 1, none⟩ = some (.int .i64 j.d) := hS.b0.cell 1
    have qb02 : ww.cell? ⟨w.heap.size, 2, none⟩ = some (.int .i64 j.e) := hS.b0.cell 2
    have qb03 : ww.cell? ⟨w.heap.size, 3, none⟩ = some (.int .i64 j.a) := hS.b0.cell 3
    have qb04 : ww.cell? ⟨w.heap.size, 4, none⟩ = some (.int .i64 j.b) := hS.b0.cell 4
    have qb05 : ww.cell? ⟨w.heap.size, 5, none⟩ = some (.int .i64 j.c) := hS.b0.cell 5
    have qb06 : ww.cell? ⟨w.heap.size, 6, none⟩ = some (.int .i32 j.imm) := hS.b0.cell 6
    have qb07 : ww.cell? ⟨w.heap.size, 7, none⟩ = some (.slice vA j.args.length vc) := hS.b0.cell 7
    have qb10 : ww.cell? ⟨w.heap.size + 1, 0, none⟩ = some (.int .i64 h.op) := hS.b1.cell 0
    have qb11 : ww.cell? ⟨w.heap.size + 1, 1, none⟩ = some (.int .i64 h.a) := hS.b1.cell 1
    have qb12 : ww.cell? ⟨w.heap.size + 1, 2, none⟩ = some (.int .i64 h.b) := hS.b1.cell 2
    have qb13 : ww.cell? ⟨w.heap.size + 1, 3, none⟩ = some (.slice tA h.to.length tc) := hS.b1.cell 3
    have qb14 : ww.cell? ⟨w.heap.size + 1, 4, none⟩ = some (.int .i32 h.imm) := hS.b1.cell 4
    have qb20 : ww.cell? ⟨w.heap.size + 2, 0, none⟩ = some (.int .i64 n0) := hS.b2.cell 0
    have qb21 : ww.cell? ⟨w.heap.size + 2, 1, none⟩ = some (.int .i64 n1) := hS.b2.cell 1
    have qb22 : ww.cell? ⟨w.heap.size + 2, 2, none⟩ = some (.int .i64 n2) := hS.b2.cell 2
    go_simp; first | done | with_reducible rfl
  simp only [Act.put]
  try simp only [List.setIfInBounds_toArray, List.set_cons_zero, List.set_cons_succ]
  refine walkC_does _ rfl rfl ?_
  go_wp2_with fail
  refine (makesQ_any _ j vA j.args.length vc HJW.out HVI.out (by have := HJL.out; omega)).mono ?_
  rintro e' xc ⟨vc, rfl, ho, hb⟩
  have HB := Lib.hid (HB.out.trans (hb.mono HB.out.size))
  have HX := Lib.hid (HX.out.below hb)
  have HVI := Lib.hid (HVI.out.keep hb)
  have HTI := Lib.hid (HTI.out.keep hb)
  have Hc := Lib.hid (OwnInts.ints ho)
  obtain ⟨Ac, kc, rfl⟩ := own_form ho
  clear hb ho
  go_wp2_with fail
  refine behindC HX.out ?_
  try simp only [List.setIfInBounds_toArray, List.set_cons_zero, List.set_cons_succ]
  refine walkC_does _ rfl rfl ?_
  go_wp2_with fail
  refine (rmakesQ_any _ j vA j.args.length vc HJW.out).mono ?_
  rintro e' xd ⟨vd, rfl, ho, hb⟩
  have HB := Lib.hid (HB.out.trans (hb.mono HB.out.size))
  have HX := Lib.hid (HX.out.below hb)
  have HVI := Lib.hid (HVI.out.keep hb)
  have HTI := Lib.hid (HTI.out.keep hb)
  have Hc := Lib.hid (Hc.out.keep hb)
  have Hd := Lib.hid (OwnInts.ints ho)
  obtain ⟨Ad, kd, rfl⟩ := own_form ho
  clear hb ho
  go_wp2_with fail
  refine behindC HX.out ?_
  try simp only [List.setIfInBounds_toArray, List.set_cons_zero, List.set_cons_succ]
  refine walkC_does _ rfl rfl ?_
  go_wp2_with fail
  refine (nums_any _ _ _ (makesQ j) (makesQ j) Hc.out Hd.out).mono ?_
  rintro e' y2 ⟨rfl, hb⟩
  rw [show decide ((makesQ j) = (makesQ j)) = true from decide_eq_true rfl]
  have HB := Lib.hid (HB.out.trans (hb.mono HB.out.size))
  have HX := Lib.hid (HX.out.below hb)
  have HVI := Lib.hid (HVI.out.keep hb)
  have HTI := Lib.hid (HTI.out.keep hb)
  clear hb Hc Hd
  go_wp2_with fail
  refine behindC HX.out ?_
  try simp only [List.setIfInBounds_toArray, List.set_cons_zero, List.set_cons_succ]
  refine walkC_still _ ?r6u rfl rfl rfl ?r6y ?_
  case r6y =>
    intro ww hS
    go_simp; first | done | with_reducible rfl
  simp only [Act.put]
  try simp only [List.setIfInBounds_toArray, List.set_cons_zero, List.set_cons_succ]
  refine walkC_still _ ?r7u rfl rfl rfl ?r7y ?_
  case r7y =>
    intro ww hS
    go_simp; first | done | with_reducible rfl
  simp only [Act.put]
  try simp only [List.setIfInBounds_toArray, List.set_cons_zero, List.set_cons_succ]
  refine walkC_still _ ?r8u rfl rfl rfl ?r8y ?_
  case r8y =>
    intro ww hS
    have qb00 : ww.cell? ⟨w.heap.size, 0, none⟩ = some (.int .i64 j.op) := hS.b0.cell 0
    have qb01 : ww.cell? ⟨w.heap.size, 1, none⟩ = some (.int .i64 j.d) := hS.b0.cell 1
    have qb02 : ww.cell? ⟨w.heap.size, 2, none⟩ = some (.int .i64 j.e) := hS.b0.cell 2
    have qb03 : ww.cell? ⟨w.heap.size, 3, none⟩ = some (.int .i64 j.a) := hS.b0.cell 3
    have qb04 : ww.cell? ⟨w.heap.size, 4, none⟩ = some (.int .i64 j.b) := hS.b0.cell 4
    have qb05 : ww.cell? ⟨w.heap.size, 5, none⟩ = some (.int .i64 j.c) := hS.b0.cell 5
    have qb06 : ww.cell? ⟨w.heap.size, 6, none⟩ = some (.int .i32 j.imm) := hS.b0.cell 6
    have qb07 : ww.cell? ⟨w.heap.size, 7, none⟩ = some (.slice vA j.args.length vc) := hS.b0.cell 7
    have qb10 : ww.cell? ⟨w.heap.size + 1, 0, none⟩ = some (.int .i64 h.op) := hS.b1.cell 0
    have qb11 : ww.cell? ⟨w.heap.size + 1, 1, none⟩ = some (.int .i64 h.a) := hS.b1.cell 1
    have qb12 : ww.cell? ⟨w.heap.size + 1, 2, none⟩ = some (.int .i64 h.b) := hS.b1.cell 2
    have qb13 : ww.cell? ⟨w.heap.size + 1, 3, none⟩ = some (.slice tA h.to.length tc) := hS.b1.cell 3
    have qb14 : ww.cell? ⟨w.heap.size + 1, 4, none⟩ = some (.int .i32 h.imm) := hS.b1.cell 4
    have qb20 : ww.cell? ⟨w.heap.size + 2, 0, none⟩ = some (.int .i64 n0) := hS.b2.cell 0
    have qb21 : ww.cell? ⟨w.heap.size + 2, 1, none⟩ = some (.int .i64 n1) := hS.b2.cell 1
    have qb22 : ww.cell? ⟨w.heap.size + 2, 2, none⟩ = some (.int .i64 n2) := hS.b2.cell 2
    go_simp; first | done | with_reducible rfl
  simp only [Act.put]
  try simp only [List.setIfInBounds_toArray, List.set_cons_zero, List.set_cons_succ]
  refine walkC_still _ ?r9u rfl rfl rfl ?r9y ?_
  case r9y =>
    intro ww hS
    have qb00 : ww.cell? ⟨w.heap.size, 0, none⟩ = some (.int .i64 j.op) := hS.b0.cell 0
    have qb01 : ww.cell? ⟨w.heap.size, 1, none⟩ = some (.int .i64 j.d) := hS.b0.cell 1
    have qb02 : ww.cell? ⟨w.heap.size, 2, none⟩ = some (.int .i64 j.e) := hS.b0.cell 2
    have qb03 : ww.cell? ⟨w.heap.size, 3, none⟩ = some (.int .i64 j.a) := hS.b0.cell 3
    have qb04 : ww.cell? ⟨w.heap.size, 4, none⟩ = some (.int .i64 j.b) := hS.b0.cell 4
    have qb05 : ww.cell? ⟨w.heap.size, 5, none⟩ = some (.int .i64 j.c) := hS.b0.cell 5
    have qb06 : ww.cell? ⟨w.heap.size, 6, none⟩ = some (.int .i32 j.imm) := hS.b0.cell 6
    have qb07 : ww.cell? ⟨w.heap.size, 7, none⟩ = some (.slice vA j.args.length vc) := hS.b0.cell 7
    have qb10 : ww.cell? ⟨w.heap.size + 1, 0, none⟩ = some (.int .i64 h.op) := hS.b1.cell 0
    have qb11 : ww.cell? ⟨w.heap.size + 1, 1, none⟩ = some (.int .i64 h.a) := hS.b1.cell 1
    have qb12 : ww.cell? ⟨w.heap.size + 1, 2, none⟩ = some (.int .i64 h.b) := hS.b1.cell 2
    have qb13 : ww.cell? ⟨w.heap.size + 1, 3, none⟩ = some (.slice tA h.to.length tc) := hS.b1.cell 3
    have qb14 : ww.cell? ⟨w.heap.size + 1, 4, none⟩ = some (.int .i32 h.imm) := hS.b1.cell 4
    have qb20 : ww.cell? ⟨w.heap.size + 2, 0, none⟩ = some (.int .i64 n0) := hS.b2.cell 0
    have qb21 : ww.cell? ⟨w.heap.size + 2, 1, none⟩ = some (.int .i64 n1) := hS.b2.cell 1
    have qb22 : ww.cell? ⟨w.heap.size + 2, 2, none⟩ = some (.int .i64 n2) := hS.b2.cell 2
    go_simp; first | done | with_reducible rfl
  simp only [Act.put]
  try simp only [List.setIfInBounds_toArray, List.set_cons_zero, List.set_cons_succ]
  refine walkC_does _ rfl rfl ?_
  go_wp2_with fail
  refine (spoilsQ_any _ j vA j.args.length vc).mono ?_
  rintro e' xe ⟨ve, rfl, ho, hb⟩
  have HB := Lib.hid (HB.out.trans (hb.mono HB.out.size))
  have HX := Lib.hid (HX.out.below hb)
  have HVI := Lib.hid (HVI.out.keep hb)
  have HTI := Lib.hid (HTI.out.keep hb)
  have He := Lib.hid (OwnInts.ints ho)
  obtain ⟨Ae, ke, rfl⟩ := own_form ho
  clear hb ho
  go_wp2_with fail
  refine behindC HX.out ?_
  try simp only [List.setIfInBounds_toArray, List.set_cons_zero, List.set_cons_succ]
  refine walkC_does _ rfl rfl ?_
  go_wp2_with fail
  refine (rspoilsQ_any _ j vA j.args.length vc).mono ?_
  rintro e' xf ⟨vf, rfl, ho, hb⟩
  have HB := Lib.hid (HB.out.trans (hb.mono HB.out.size))
  have HX := Lib.hid (HX.out.below hb)
  have HVI := Lib.hid (HVI.out.keep hb)
  have HTI := Lib.hid (HTI.out.keep hb)
  have He := Lib.hid (He.out.keep hb)
  have Hf := Lib.hid (OwnInts.ints ho)
  obtain ⟨Af, kf, rfl⟩ := own_form ho
  clear hb ho
  go_wp2_with fail
  refine behindC HX.out ?_
  try simp only [List.setIfInBounds_toArray, List.set_cons_zero, List.set_cons_succ]
  refine walkC_does _ rfl rfl ?_
  go_wp2_with fail
  refine (nums_any _ _ _ (spoilsQ j) (spoilsQ j) He.out Hf.out).mono ?_
  rintro e' y3 ⟨rfl, hb⟩
  rw [show decide ((spoilsQ j) = (spoilsQ j)) = true from decide_eq_true rfl]
  have HB := Lib.hid (HB.out.trans (hb.mono HB.out.size))
  have HX := Lib.hid (HX.out.below hb)
  have HVI := Lib.hid (HVI.out.keep hb)
  have HTI := Lib.hid (HTI.out.keep hb)
  clear hb He Hf
  go_wp2_with fail
  refine behindC HX.out ?_
  try simp only [List.setIfInBounds_toArray, List.set_cons_zero, List.set_cons_succ]
  refine walkC_still _ ?r10u rfl rfl rfl ?r10y ?_
  case r10y =>
    intro ww hS
    go_simp; first | done | with_reducible rfl
  simp only [Act.put]
  try simp only [List.setIfInBounds_toArray, List.set_cons_zero, List.set_cons_succ]
  refine walkC_still _ ?r11u rfl rfl rfl ?r11y ?_
  case r11y =>
    intro ww hS
    go_simp; first | done | with_reducible rfl
  simp only [Act.put]
  try simp only [List.setIfInBounds_toArray, List.set_cons_zero, List.set_cons_succ]
  refine walkC_still _ ?r12u rfl rfl rfl ?r12y ?_
  case r12y =>
    intro ww hS
    have qb00 : ww.cell? ⟨w.heap.size, 0, none⟩ = some (.int .i64 j.op) := hS.b0.cell 0
    have qb01 : ww.cell? ⟨w.heap.size, 1, none⟩ = some (.int .i64 j.d) := hS.b0.cell 1
    have qb02 : ww.cell? ⟨w.heap.size, 2, none⟩ = some (.int .i64 j.e) := hS.b0.cell 2
    have qb03 : ww.cell? ⟨w.heap.size, 3, none⟩ = some (.int .i64 j.a) := hS.b0.cell 3
    have qb04 : ww.cell? ⟨w.heap.size, 4, none⟩ = some (.int .i64 j.b) := hS.b0.cell 4
    have qb05 : ww.cell? ⟨w.heap.size, 5, none⟩ = some (.int .i64 j.c) := hS.b0.cell 5
    have qb06 : ww.cell? ⟨w.heap.size, 6, none⟩ = some (.int .i32 j.imm) := hS.b0.cell 6
    have qb07 : ww.cell? ⟨w.heap.size, 7, none⟩ = some (.slice vA j.args.length vc) := hS.b0.cell 7
    have qb10 : ww.cell? ⟨w.heap.size + 1, 0, none⟩ = some (.int .i64 h.op) := hS.b1.cell 0
    have qb11 : ww.cell? ⟨w.heap.size + 1, 1, none⟩ = some (.int .i64 h.a) := hS.b1.cell 1
    have qb12 : ww.cell? ⟨w.heap.size + 1, 2, none⟩ = some (.int .i64 h.b) := hS.b1.cell 2
    have qb13 : ww.cell? ⟨w.heap.size + 1, 3, none⟩ = some (.slice tA h.to.length tc) := hS.b1.cell 3
    have qb14 : ww.cell? ⟨w.heap.size + 1, 4, none⟩ = some (.int .i32 h.imm) := hS.b1.cell 4
    have qb20 : ww.cell? ⟨w.heap.size + 2, 0, none⟩ = some (.int .i64 n0) := hS.b2.cell 0
    have qb21 : ww.cell? ⟨w.heap.size + 2, 1, none⟩ = some (.int .i64 n1) := hS.b2.cell 1
    have qb22 : ww.cell? ⟨w.heap.size + 2, 2, none⟩ = some (.int .i64 n2) := hS.b2.cell 2
    go_simp; first | done | with_reducible rfl
  simp only [Act.put]
  try simp only [List.setIfInBounds_toArray, List.set_cons_zero, List.set_cons_succ]
  refine walkC_still _ ?r13u rfl rfl rfl ?r13y ?_
  case r13y =>
    intro ww hS
    have qb00 : ww.cell? ⟨w.heap.size, 0, none⟩ = some (.int .i64 j.op) := hS.b0.cell 0
    have qb01 : ww.cell? ⟨w.heap.size, 1, none⟩ = some (.int .i64 j.d) := hS.b0.cell 1
    have qb02 : ww.cell? ⟨w.heap.size, 2, none⟩ = some (.int .i64 j.e) := hS.b0.cell 2
    have qb03 : ww.cell? ⟨w.heap.size, 3, none⟩ = some (.int .i64 j.a) := hS.b0.cell 3
    have qb04 : ww.cell? ⟨w.heap.size, 4, none⟩ = some (.int .i64 j.b) := hS.b0.cell 4
    have qb05 : ww.cell? ⟨w.heap.size, 5, none⟩ = some (.int .i64 j.c) := hS.b0.cell 5
    have qb06 : ww.cell? ⟨w.heap.size, 6, none⟩ = some (.int .i32 j.imm) := hS.b0.cell 6
    have qb07 : ww.cell? ⟨w.heap.size, 7, none⟩ = some (.slice vA j.args.length vc) := hS.b0.cell 7
    have qb10 : ww.cell? ⟨w.heap.size + 1, 0, none⟩ = some (.int .i64 h.op) := hS.b1.cell 0
    have qb11 : ww.cell? ⟨w.heap.size + 1, 1, none⟩ = some (.int .i64 h.a) := hS.b1.cell 1
    have qb12 : ww.cell? ⟨w.heap.size + 1, 2, none⟩ = some (.int .i64 h.b) := hS.b1.cell 2
    have qb13 : ww.cell? ⟨w.heap.size + 1, 3, none⟩ = some (.slice tA h.to.length tc) := hS.b1.cell 3
    have qb14 : ww.cell? ⟨w.heap.size + 1, 4, none⟩ = some (.int .i32 h.imm) := hS.b1.cell 4
    have qb20 : ww.cell? ⟨w.heap.size + 2, 0, none⟩ = some (.int .i64 n0) := hS.b2.cell 0
    have qb21 : ww.cell? ⟨w.heap.size + 2, 1, none⟩ = some (.int .i64 n1) := hS.b2.cell 1
    have qb22 : ww.cell? ⟨w.heap.size + 2, 2, none⟩ = some (.int .i64 n2) := hS.b2.cell 2
    go_simp; first | done | with_reducible rfl
  simp only [Act.put]
  try simp only [List.setIfInBounds_toArray, List.set_cons_zero, List.set_cons_succ]
  refine walkC_does _ rfl rfl ?_
  go_wp2_with fail
  refine (needsQ_any _ h tA h.to.length tc).mono ?_
  rintro e' xg ⟨vg, rfl, ho, hb⟩
  have HB := Lib.hid (HB.out.trans (hb.mono HB.out.size))
  have HX := Lib.hid (HX.out.below hb)
  have HVI := Lib.hid (HVI.out.keep hb)
  have HTI := Lib.hid (HTI.out.keep hb)
  have Hg := Lib.hid (OwnInts.ints ho)
  obtain ⟨Ag, kg, rfl⟩ := own_form ho
  clear hb ho
  go_wp2_with fail
  refine behindC HX.out ?_
  try simp only [List.setIfInBounds_toArray, List.set_cons_zero, List.set_cons_succ]
  refine walkC_does _ rfl rfl ?_
  go_wp2_with fail
  refine (rneeds_any _ h tA h.to.length tc).mono ?_
  rintro e' xh ⟨vh, rfl, ho, hb⟩
  have HB := Lib.hid (HB.out.trans (hb.mono HB.out.size))
  have HX := Lib.hid (HX.out.below hb)
  have HVI := Lib.hid (HVI.out.keep hb)
  have HTI := Lib.hid (HTI.out.keep hb)
  have Hg := Lib.hid (Hg.out.keep hb)
  have Hh := Lib.hid (OwnInts.ints ho)
  obtain ⟨Ah, kh, rfl⟩ := own_form ho
  clear hb ho
  go_wp2_with fail
  refine behindC HX.out ?_
  try simp only [List.setIfInBounds_toArray, List.set_cons_zero, List.set_cons_succ]
  refine walkC_does _ rfl rfl ?_
  go_wp2_with fail
  refine (nums_any _ _ _ (needsL h) (needsL h) Hg.out Hh.out).mono ?_
  rintro e' y4 ⟨rfl, hb⟩
  rw [show decide ((needsL h) = (needsL h)) = true from decide_eq_true rfl]
  have HB := Lib.hid (HB.out.trans (hb.mono HB.out.size))
  have HX := Lib.hid (HX.out.below hb)
  have HVI := Lib.hid (HVI.out.keep hb)
  have HTI := Lib.hid (HTI.out.keep hb)
  clear hb Hg Hh
  go_wp2_with fail
  refine behindC HX.out ?_
  try simp only [List.setIfInBounds_toArray, List.set_cons_zero, List.set_cons_succ]
  refine walkC_still _ ?r14u rfl rfl rfl ?r14y ?_
  case r14y =>
    intro ww hS
    go_simp; first | done | with_reducible rfl
  simp only [Act.put]
  try simp only [List.setIfInBounds_toArray, List.set_cons_zero, List.set_cons_succ]
  refine walkC_still _ ?r15u rfl rfl rfl ?r15y ?_
  case r15y =>
    intro ww hS
    go_simp; first | done | with_reducible rfl
  simp only [Act.put]
  try simp only [List.setIfInBounds_toArray, List.set_cons_zero, List.set_cons_succ]
  refine walkC_nil ?_
  go_wp2_with fail
  obtain ⟨zi, hzi⟩ : ∃ z, insQ j n0 n1 = z := ⟨_, rfl⟩
  obtain ⟨ze, hze⟩ : ∃ z, endQ h n0 n2 = z := ⟨_, rfl⟩
  have hii : (zi == zi) = true := beq_self_eq_true zi
  have hee : (ze == ze) = true := beq_self_eq_true ze
  have hdr : Below y4.heap.size y4 y4.drew := (Below.refl _ _).drew
  have HX := Lib.hid (HX.out.below hdr)
  have HVI := Lib.hid (HVI.out.keep hdr)
  have HTI := Lib.hid (HTI.out.keep hdr)
  have HB := Lib.hid (HB.out.trans (hdr.mono HB.out.size))
  clear hdr
  refine region_heldC_wp (fun w' => Boxes w.heap.size [.int .i64 j.op, .int .i64 j.d, .int .i64 j.e, .int .i64 j.a, .int .i64 j.b, .int .i64 j.c, .int .i32 j.imm, .slice vA j.args.length vc] [.int .i64 h.op, .int .i64 h.a, .int .i64 h.b, .slice tA h.to.length tc, .int .i32 h.imm] [.int .i64 n0, .int .i64 n1, .int .i64 n2] w') [0, 1, 2, 3, 4, 5, 6, 7, 8, 9, 11, 12, 13, 14, 15, 17, 18, 19, 20, 21, 22, 23, 24, 26, 27, 28, 29, 30, 32, 33, 34] [0, 1, 2, 3, 4, 5, 6, 7, 8, 9, 11, 12, 13, 14, 15, 10, 16, 17, 18, 19, 20, 21, 22, 23, 24, 26, 27, 28, 29, 30, 25, 31, 32, 33, 34] (by kernel_rfl) (by kernel_rfl) (by kernel_rfl) rfl (by intro c a d v w h; cases d <;> exact h) HX.out ?_
  refine walkC_still _ ?r16u rfl rfl rfl ?r16y ?_
  case r16y =>
    intro ww hS
    go_simp; first | done | with_reducible rfl
  simp only [Act.put]
  try simp only [List.setIfInBounds_toArray, List.set_cons_zero, List.set_cons_succ]
  refine walkC_still _ ?r17u rfl rfl rfl ?r17y ?_
  case r17y =>
    intro ww hS
    go_simp; first | done | with_reducible rfl
  simp only [Act.put]
  try simp only [List.setIfInBounds_toArray, List.set_cons_zero, List.set_cons_succ]
  refine walkC_still _ ?r18u rfl rfl rfl ?r18y ?_
  case r18y =>
    intro ww hS
    go_simp; first | done | with_reducible rfl
  simp only [Act.put]
  try simp only [List.setIfInBounds_toArray, List.set_cons_zero, List.set_cons_succ]
  refine walkC_still _ ?r19u rfl rfl rfl ?r19y ?_
  case r19y =>
    intro ww hS
    go_simp; first | done | with_reducible rfl
  simp only [Act.put]
  try simp only [List.setIfInBounds_toArray, List.set_cons_zero, List.set_cons_succ]
  refine walkC_still _ ?r20u rfl rfl rfl ?r20y ?_
  case r20y =>
    intro ww hS
    go_simp; first | done | with_reducible rfl
  simp only [Act.put]
  try simp only [List.setIfInBounds_toArray, List.set_cons_zero, List.set_cons_succ]
  refine walkC_still _ ?r21u rfl rfl rfl ?r21y ?_
  case r21y =>
    intro ww hS
    have qb00 : ww.cell? ⟨w.heap.size, 0, none⟩ = some (.int .i64 j.op) := hS.b0.cell 0
    have qb01 : ww.cell? ⟨w.heap.size, 1, none⟩ = some (.int .i64 j.d) := hS.b0.cell 1
    have qb02 : ww.cell? ⟨w.heap.size, 2, none⟩ = some (.int .i64 j.e) := hS.b0.cell 2
    have qb03 : ww.cell? ⟨w.heap.size, 3, none⟩ = some (.int .i64 j.a) := hS.b0.cell 3
    have qb04 : ww.cell? ⟨w.heap.size, 4, none⟩ = some (.int .i64 j.b) := hS.b0.cell 4
    have qb05 : ww.cell? ⟨w.heap.size, 5, none⟩ = some (.int .i64 j.c) := hS.b0.cell 5
    have qb06 : ww.cell? ⟨w.heap.size, 6, none⟩ = some (.int .i32 j.imm) := hS.b0.cell 6
    have qb07 : ww.cell? ⟨w.heap.size, 7, none⟩ = some (.slice vA j.args.length vc) := hS.b0.cell 7
    have qb10 : ww.cell? ⟨w.heap.size + 1, 0, none⟩ = some (.int .i64 h.op) := hS.b1.cell 0
    have qb11 : ww.cell? ⟨w.heap.size + 1, 1, none⟩ = some (.int .i64 h.a) := hS.b1.cell 1
    have qb12 : ww.cell? ⟨w.heap.size + 1, 2, none⟩ = some (.int .i64 h.b) := hS.b1.cell 2
    have qb13 : ww.cell? ⟨w.heap.size + 1, 3, none⟩ = some (.slice tA h.to.length tc) := hS.b1.cell 3
    have qb14 : ww.cell? ⟨w.heap.size + 1, 4, none⟩ = some (.int .i32 h.imm) := hS.b1.cell 4
    have qb20 : ww.cell? ⟨w.heap.size + 2, 0, none⟩ = some (.int .i64 n0) := hS.b2.cell 0
    have qb21 : ww.cell? ⟨w.heap.size + 2, 1, none⟩ = some (.int .i64 n1) := hS.b2.cell 1
    have qb22 : ww.cell? ⟨w.heap.size + 2, 2, none⟩ = some (.int .i64 n2) := hS.b2.cell 2
    go_simp; first | done | with_reducible rfl
  simp only [Act.put]
  try simp only [List.setIfInBounds_toArray, List.set_cons_zero, List.set_cons_succ]
  refine walkC_still _ ?r22u rfl rfl rfl ?r22y ?_
  case r22y =>
    intro ww hS
    go_simp; first | done | with_reducible rfl
  simp only [Act.put]
  try simp only [List.setIfInBounds_toArray, List.set_cons_zero, List.set_cons_succ]
  refine walkC_still _ ?r23u rfl rfl rfl ?r23y ?_
  case r23y =>
    intro ww hS
    have qb00 : ww.cell? ⟨w.heap.size, 0, none⟩ = some (.int .i64 j.op) := hS.b0.cell 0
    have qb01 : ww.cell? ⟨w.heap.size, 1, none⟩ = some (.int .i64 j.d) := hS.b0.cell 1
    have qb02 : ww.cell? ⟨w.heap.size, 2, none⟩ = some (.int .i64 j.e) := hS.b0.cell 2
    have qb03 : ww.cell? ⟨w.heap.size, 3, none⟩ = some (.int .i64 j.a) := hS.b0.cell 3
    have qb04 : ww.cell? ⟨w.heap.size, 4, none⟩ = some (.int .i64 j.b) := hS.b0.cell 4
    have qb05 : ww.cell? ⟨w.heap.size, 5, none⟩ = some (.int .i64 j.c) := hS.b0.cell 5
    have qb06 : ww.cell? ⟨w.heap.size, 6, none⟩ = some (.int .i32 j.imm) := hS.b0.cell 6
    have qb07 : ww.cell? ⟨w.heap.size, 7, none⟩ = some (.slice vA j.args.length vc) := hS.b0.cell 7
    have qb10 : ww.cell? ⟨w.heap.size + 1, 0, none⟩ = some (.int .i64 h.op) := hS.b1.cell 0
    have qb11 : ww.cell? ⟨w.heap.size + 1, 1, none⟩ = some (.int .i64 h.a) := hS.b1.cell 1
    have qb12 : ww.cell? ⟨w.heap.size + 1, 2, none⟩ = some (.int .i64 h.b) := hS.b1.cell 2
    have qb13 : ww.cell? ⟨w.heap.size + 1, 3, none⟩ = some (.slice tA h.to.length tc) := hS.b1.cell 3
    have qb14 : ww.cell? ⟨w.heap.size + 1, 4, none⟩ = some (.int .i32 h.imm) := hS.b1.cell 4
    have qb20 : ww.cell? ⟨w.heap.size + 2, 0, none⟩ = some (.int .i64 n0) := hS.b2.cell 0
    have qb21 : ww.cell? ⟨w.heap.size + 2, 1, none⟩ = some (.int .i64 n1) := hS.b2.cell 1
    have qb22 : ww.cell? ⟨w.heap.size + 2, 2, none⟩ = some (.int .i64 n2) := hS.b2.cell 2
    go_simp; first | done | with_reducible rfl
  simp only [Act.put]
  try simp only [List.setIfInBounds_toArray, List.set_cons_zero, List.set_cons_succ]
  refine walkC_still _ ?r24u rfl rfl rfl ?r24y ?_
  case r24y =>
    intro ww hS
    go_simp; first | done | with_reducible rfl
  simp only [Act.put]
  try simp only [List.setIfInBounds_toArray, List.set_cons_zero, List.set_cons_succ]
  refine walkC_still _ ?r25u rfl rfl rfl ?r25y ?_
  case r25y =>
    intro ww hS
    have qb00 : ww.cell? ⟨w.heap.size, 0, none⟩ = some (.int .i64 j.op) := hS.b0.cell 0
    have qb01 : ww.cell? ⟨w.heap.size, 1, none⟩ = some (.int .i64 j.d) := hS.b0.cell 1
    have qb02 : ww.cell? ⟨w.heap.size, 2, none⟩ = some (.int .i64 j.e) := hS.b0.cell 2
    have qb03 : ww.cell? ⟨w.heap.size, 3, none⟩ = some (.int .i64 j.a) := hS.b0.cell 3
    have qb04 : ww.cell? ⟨w.heap.size, 4, none⟩ = some (.int .i64 j.b) := hS.b0.cell 4
    have qb05 : ww.cell? ⟨w.heap.size, 5, none⟩ = some (.int .i64 j.c) := hS.b0.cell 5
    have qb06 : ww.cell? ⟨w.heap.size, 6, none⟩ = some (.int .i32 j.imm) := hS.b0.cell 6
    have qb07 : ww.cell? ⟨w.heap.size, 7, none⟩ = some (.slice vA j.args.length vc) := hS.b0.cell 7
    have qb10 : ww.cell? ⟨w.heap.size + 1, 0, none⟩ = some (.int .i64 h.op) := hS.b1.cell 0
    have qb11 : ww.cell? ⟨w.heap.size + 1, 1, none⟩ = some (.int .i64 h.a) := hS.b1.cell 1
    have qb12 : ww.cell? ⟨w.heap.size + 1, 2, none⟩ = some (.int .i64 h.b) := hS.b1.cell 2
    have qb13 : ww.cell? ⟨w.heap.size + 1, 3, none⟩ = some (.slice tA h.to.length tc) := hS.b1.cell 3
    have qb14 : ww.cell? ⟨w.heap.size + 1, 4, none⟩ = some (.int .i32 h.imm) := hS.b1.cell 4
    have qb20 : ww.cell? ⟨w.heap.size + 2, 0, none⟩ = some (.int .i64 n0) := hS.b2.cell 0
    have qb21 : ww.cell? ⟨w.heap.size + 2, 1, none⟩ = some (.int .i64 n1) := hS.b2.cell 1
    have qb22 : ww.cell? ⟨w.heap.size + 2, 2, none⟩ = some (.int .i64 n2) := hS.b2.cell 2
    go_simp; first | done | with_reducible rfl
  simp only [Act.put]
  try simp only [List.setIfInBounds_toArray, List.set_cons_zero, List.set_cons_succ]
  refine walkC_still _ ?r26u rfl rfl rfl ?r26y ?_
  case r26y =>
    intro ww hS
    have qb00 : ww.cell? ⟨w.heap.size, 0, none⟩ = some (.int .i64 j.op) := hS.b0.cell 0
    have qb01 : ww.cell? ⟨w.heap.size, 1, none⟩ = some (.int .i64 j.d) := hS.b0.cell 1
    have qb02 : ww.cell? ⟨w.heap.size, 2, none⟩ = some (.int .i64 j.e) := hS.b0.cell 2
    have qb03 : ww.cell? ⟨w.heap.size, 3, none⟩ = some (.int .i64 j.a) := hS.b0.cell 3
    have qb04 : ww.cell? ⟨w.heap.size, 4, none⟩ = some (.int .i64 j.b) := hS.b0.cell 4
    have qb05 : ww.cell? ⟨w.heap.size, 5, none⟩ = some (.int .i64 j.c) := hS.b0.cell 5
    have qb06 : ww.cell? ⟨w.heap.size, 6, none⟩ = some (.int .i32 j.imm) := hS.b0.cell 6
    have qb07 : ww.cell? ⟨w.heap.size, 7, none⟩ = some (.slice vA j.args.length vc) := hS.b0.cell 7
    have qb10 : ww.cell? ⟨w.heap.size + 1, 0, none⟩ = some (.int .i64 h.op) := hS.b1.cell 0
    have qb11 : ww.cell? ⟨w.heap.size + 1, 1, none⟩ = some (.int .i64 h.a) := hS.b1.cell 1
    have qb12 : ww.cell? ⟨w.heap.size + 1, 2, none⟩ = some (.int .i64 h.b) := hS.b1.cell 2
    have qb13 : ww.cell? ⟨w.heap.size + 1, 3, none⟩ = some (.slice tA h.to.length tc) := hS.b1.cell 3
    have qb14 : ww.cell? ⟨w.heap.size + 1, 4, none⟩ = some (.int .i32 h.imm) := hS.b1.cell 4
    have qb20 : ww.cell? ⟨w.heap.size + 2, 0, none⟩ = some (.int .i64 n0) := hS.b2.cell 0
    have qb21 : ww.cell? ⟨w.heap.size + 2, 1, none⟩ = some (.int .i64 n1) := hS.b2.cell 1
    have qb22 : ww.cell? ⟨w.heap.size + 2, 2, none⟩ = some (.int .i64 n2) := hS.b2.cell 2
    go_simp; first | done | with_reducible rfl
  simp only [Act.put]
  try simp only [List.setIfInBounds_toArray, List.set_cons_zero, List.set_cons_succ]
  refine walkC_still _ ?r27u rfl rfl rfl ?r27y ?_
  case r27y =>
    intro ww hS
    go_simp; first | done | with_reducible rfl
  simp only [Act.put]
  try simp only [List.setIfInBounds_toArray, List.set_cons_zero, List.set_cons_succ]
  refine walkC_still _ ?r28u rfl rfl rfl ?r28y ?_
  case r28y =>
    intro ww hS
    have qb00 : ww.cell? ⟨w.heap.size, 0, none⟩ = some (.int .i64 j.op) := hS.b0.cell 0
    have qb01 : ww.cell? ⟨w.heap.size, 1, none⟩ = some (.int .i64 j.d) := hS.b0.cell 1
    have qb02 : ww.cell? ⟨w.heap.size, 2, none⟩ = some (.int .i64 j.e) := hS.b0.cell 2
    have qb03 : ww.cell? ⟨w.heap.size, 3, none⟩ = some (.int .i64 j.a) := hS.b0.cell 3
    have qb04 : ww.cell? ⟨w.heap.size, 4, none⟩ = some (.int .i64 j.b) := hS.b0.cell 4
    have qb05 : ww.cell? ⟨w.heap.size, 5, none⟩ = some (.int .i64 j.c) := hS.b0.cell 5
    have qb06 : ww.cell? ⟨w.heap.size, 6, none⟩ = some (.int .i32 j.imm) := hS.b0.cell 6
    have qb07 : ww.cell? ⟨w.heap.size, 7, none⟩ = some (.slice vA j.args.length vc) := hS.b0.cell 7
    have qb10 : ww.cell? ⟨w.heap.size + 1, 0, none⟩ = some (.int .i64 h.op) := hS.b1.cell 0
    have qb11 : ww.cell? ⟨w.heap.size + 1, 1, none⟩ = some (.int .i64 h.a) := hS.b1.cell 1
    have qb12 : ww.cell? ⟨w.heap.size + 1, 2, none⟩ = some (.int .i64 h.b) := hS.b1.cell 2
    have qb13 : ww.cell? ⟨w.heap.size + 1, 3, none⟩ = some (.slice tA h.to.length tc) := hS.b1.cell 3
    have qb14 : ww.cell? ⟨w.heap.size + 1, 4, none⟩ = some (.int .i32 h.imm) := hS.b1.cell 4
    have qb20 : ww.cell? ⟨w.heap.size + 2, 0, none⟩ = some (.int .i64 n0) := hS.b2.cell 0
    have qb21 : ww.cell? ⟨w.heap.size + 2, 1, none⟩ = some (.int .i64 n1) := hS.b2.cell 1
    have qb22 : ww.cell? ⟨w.heap.size + 2, 2, none⟩ = some (.int .i64 n2) := hS.b2.cell 2
    go_simp; first | done | with_reducible rfl
  simp only [Act.put]
  try simp only [List.setIfInBounds_toArray, List.set_cons_zero, List.set_cons_succ]
  refine walkC_still _ ?r29u rfl rfl rfl ?r29y ?_
  case r29y =>
    intro ww hS
    go_simp; first | done | with_reducible rfl
  simp only [Act.put]
  try simp only [List.setIfInBounds_toArray, List.set_cons_zero, List.set_cons_succ]
  refine walkC_still _ ?r30u rfl rfl rfl ?r30y ?_
  case r30y =>
    intro ww hS
    have qb00 : ww.cell? ⟨w.heap.size, 0, none⟩ = some (.int .i64 j.op) := hS.b0.cell 0
    have qb01 : ww.cell? ⟨w.heap.size, 1, none⟩ = some (.int .i64 j.d) := hS.b0.cell 1
    have qb02 : ww.cell? ⟨w.heap.size, 2, none⟩ = some (.int .i64 j.e) := hS.b0.cell 2
    have qb03 : ww.cell? ⟨w.heap.size, 3, none⟩ = some (.int .i64 j.a) := hS.b0.cell 3
    have qb04 : ww.cell? ⟨w.heap.size, 4, none⟩ = some (.int .i64 j.b) := hS.b0.cell 4
    have qb05 : ww.cell? ⟨w.heap.size, 5, none⟩ = some (.int .i64 j.c) := hS.b0.cell 5
    have qb06 : ww.cell? ⟨w.heap.size, 6, none⟩ = some (.int .i32 j.imm) := hS.b0.cell 6
    have qb07 : ww.cell? ⟨w.heap.size, 7, none⟩ = some (.slice vA j.args.length vc) := hS.b0.cell 7
    have qb10 : ww.cell? ⟨w.heap.size + 1, 0, none⟩ = some (.int .i64 h.op) := hS.b1.cell 0
    have qb11 : ww.cell? ⟨w.heap.size + 1, 1, none⟩ = some (.int .i64 h.a) := hS.b1.cell 1
    have qb12 : ww.cell? ⟨w.heap.size + 1, 2, none⟩ = some (.int .i64 h.b) := hS.b1.cell 2
    have qb13 : ww.cell? ⟨w.heap.size + 1, 3, none⟩ = some (.slice tA h.to.length tc) := hS.b1.cell 3
    have qb14 : ww.cell? ⟨w.heap.size + 1, 4, none⟩ = some (.int .i32 h.imm) := hS.b1.cell 4
    have qb20 : ww.cell? ⟨w.heap.size + 2, 0, none⟩ = some (.int .i64 n0) := hS.b2.cell 0
    have qb21 : ww.cell? ⟨w.heap.size + 2, 1, none⟩ = some (.int .i64 n1) := hS.b2.cell 1
    have qb22 : ww.cell? ⟨w.heap.size + 2, 2, none⟩ = some (.int .i64 n2) := hS.b2.cell 2
    go_simp; first | done | with_reducible rfl
  simp only [Act.put]
  try simp only [List.setIfInBounds_toArray, List.set_cons_zero, List.set_cons_succ]
  refine walkC_does _ rfl rfl ?_
  go_wp2_with fail
  refine (insP_any _ j vA vc n0 n1 HVI.out (by have := HJL.out; omega) HJW.out).mono ?_
  rintro e' ua ⟨rfl, hb⟩
  rw [hzi]
  have HB := Lib.hid (HB.out.trans (hb.mono HB.out.size))
  have HX := Lib.hid (HX.out.below hb)
  have HVI := Lib.hid (HVI.out.keep hb)
  have HTI := Lib.hid (HTI.out.keep hb)
  clear hb
  go_wp2_with fail
  refine behindC HX.out ?_
  try simp only [List.setIfInBounds_toArray, List.set_cons_zero, List.set_cons_succ]
  refine walkC_does _ rfl rfl ?_
  go_wp2_with fail
  refine (insR_any _ j vA vc n0 n1 HVI.out (by have := HJL.out; omega) HJW.out).mono ?_
  rintro e' ub ⟨rfl, hb⟩
  rw [hzi]
  have HB := Lib.hid (HB.out.trans (hb.mono HB.out.size))
  have HX := Lib.hid (HX.out.below hb)
  have HVI := Lib.hid (HVI.out.keep hb)
  have HTI := Lib.hid (HTI.out.keep hb)
  clear hb
  go_wp2_with fail
  refine behindC HX.out ?_
  try simp only [List.setIfInBounds_toArray, List.set_cons_zero, List.set_cons_succ]
  refine walkC_still _ ?r31u rfl rfl rfl ?r31y ?_
  case r31y =>
    intro ww hS
    go_simp; first | done | with_reducible rfl
  simp only [Act.put]
  try simp only [List.setIfInBounds_toArray, List.set_cons_zero, List.set_cons_succ]
  refine walkC_still _ ?r32u rfl rfl rfl ?r32y ?_
  case r32y =>
    intro ww hS
    go_simp; first | done | with_reducible rfl
  simp only [Act.put]
  try simp only [List.setIfInBounds_toArray, List.set_cons_zero, List.set_cons_succ]
  refine walkC_still _ ?r33u rfl rfl rfl ?r33y ?_
  case r33y =>
    intro ww hS
    go_simp; first | done | with_reducible rfl
  simp only [Act.put]
  try simp only [List.setIfInBounds_toArray, List.set_cons_zero, List.set_cons_succ]
  refine walkC_still _ ?r34u rfl rfl rfl ?r34y ?_
  case r34y =>
    intro ww hS
    have qb00 : ww.cell? ⟨w.heap.size, 0, none⟩ = some (.int .i64 j.op) := hS.b0.cell 0
    have qb01 : ww.cell? ⟨w.heap.size, 1, none⟩ = some (.int .i64 j.d) := hS.b0.cell 1
    have qb02 : ww.cell? ⟨w.heap.size, 2, none⟩ = some (.int .i64 j.e) := hS.b0.cell 2
    have qb03 : ww.cell? ⟨w.heap.size, 3, none⟩ = some (.int .i64 j.a) := hS.b0.cell 3
    have qb04 : ww.cell? ⟨w.heap.size, 4, none⟩ = some (.int .i64 j.b) := hS.b0.cell 4
    have qb05 : ww.cell? ⟨w.heap.size, 5, none⟩ = some (.int .i64 j.c) := hS.b0.cell 5
    have qb06 : ww.cell? ⟨w.heap.size, 6, none⟩ = some (.int .i32 j.imm) := hS.b0.cell 6
    have qb07 : ww.cell? ⟨w.heap.size, 7, none⟩ = some (.slice vA j.args.length vc) := hS.b0.cell 7
    have qb10 : ww.cell? ⟨w.heap.size + 1, 0, none⟩ = some (.int .i64 h.op) := hS.b1.cell 0
    have qb11 : ww.cell? ⟨w.heap.size + 1, 1, none⟩ = some (.int .i64 h.a) := hS.b1.cell 1
    have qb12 : ww.cell? ⟨w.heap.size + 1, 2, none⟩ = some (.int .i64 h.b) := hS.b1.cell 2
    have qb13 : ww.cell? ⟨w.heap.size + 1, 3, none⟩ = some (.slice tA h.to.length tc) := hS.b1.cell 3
    have qb14 : ww.cell? ⟨w.heap.size + 1, 4, none⟩ = some (.int .i32 h.imm) := hS.b1.cell 4
    have qb20 : ww.cell? ⟨w.heap.size + 2, 0, none⟩ = some (.int .i64 n0) := hS.b2.cell 0
    have qb21 : ww.cell? ⟨w.heap.size + 2, 1, none⟩ = some (.int .i64 n1) := hS.b2.cell 1
    have qb22 : ww.cell? ⟨w.heap.size + 2, 2, none⟩ = some (.int .i64 n2) := hS.b2.cell 2
    go_simp; first | done | with_reducible rfl
  simp only [Act.put]
  try simp only [List.setIfInBounds_toArray, List.set_cons_zero, List.set_cons_succ]
  refine walkC_still _ ?r35u rfl rfl rfl ?r35y ?_
  case r35y =>
    intro ww hS
    go_simp; first | done | with_reducible rfl
  simp only [Act.put]
  try simp only [List.setIfInBounds_toArray, List.set_cons_zero, List.set_cons_succ]
  refine walkC_still _ ?r36u rfl rfl rfl ?r36y ?_
  case r36y =>
    intro ww hS
    have qb00 : ww.cell? ⟨w.heap.size, 0, none⟩ = some (.int .i64 j.op) := hS.b0.cell 0
    have qb01 : ww.cell? ⟨w.heap.size, 1, none⟩ = some (.int .i64 j.d) := hS.b0.cell 1
    have qb02 : ww.cell? ⟨w.heap.size, 2, none⟩ = some (.int .i64 j.e) := hS.b0.cell 2
    have qb03 : ww.cell? ⟨w.heap.size, 3, none⟩ = some (.int .i64 j.a) := hS.b0.cell 3
    have qb04 : ww.cell? ⟨w.heap.size, 4, none⟩ = some (.int .i64 j.b) := hS.b0.cell 4
    have qb05 : ww.cell? ⟨w.heap.size, 5, none⟩ = some (.int .i64 j.c) := hS.b0.cell 5
    have qb06 : ww.cell? ⟨w.heap.size, 6, none⟩ = some (.int .i32 j.imm) := hS.b0.cell 6
    have qb07 : ww.cell? ⟨w.heap.size, 7, none⟩ = some (.slice vA j.args.length vc) := hS.b0.cell 7
    have qb10 : ww.cell? ⟨w.heap.size + 1, 0, none⟩ = some (.int .i64 h.op) := hS.b1.cell 0
    have qb11 : ww.cell? ⟨w.heap.size + 1, 1, none⟩ = some (.int .i64 h.a) := hS.b1.cell 1
    have qb12 : ww.cell? ⟨w.heap.size + 1, 2, none⟩ = some (.int .i64 h.b) := hS.b1.cell 2
    have qb13 : ww.cell? ⟨w.heap.size + 1, 3, none⟩ = some (.slice tA h.to.length tc) := hS.b1.cell 3
    have qb14 : ww.cell? ⟨w.heap.size + 1, 4, none⟩ = some (.int .i32 h.imm) := hS.b1.cell 4
    have qb20 : ww.cell? ⟨w.heap.size + 2, 0, none⟩ = some (.int .i64 n0) := hS.b2.cell 0
    have qb21 : ww.cell? ⟨w.heap.size + 2, 1, none⟩ = some (.int .i64 n1) := hS.b2.cell 1
    have qb22 : ww.cell? ⟨w.heap.size + 2, 2, none⟩ = some (.int .i64 n2) := hS.b2.cell 2
    go_simp; first | done | with_reducible rfl
  simp only [Act.put]
  try simp only [List.setIfInBounds_toArray, List.set_cons_zero, List.set_cons_succ]
  refine walkC_still _ ?r37u rfl rfl rfl ?r37y ?_
  case r37y =>
    intro ww hS
    go_simp; first | done | with_reducible rfl
  simp only [Act.put]
  try simp only [List.setIfInBounds_toArray, List.set_cons_zero, List.set_cons_succ]
  refine walkC_still _ ?r38u rfl rfl rfl ?r38y ?_
  case r38y =>
    intro ww hS
    have qb00 : ww.cell? ⟨w.heap.size, 0, none⟩ = some (.int .i64 j.op) := hS.b0.cell 0
    have qb01 : ww.cell? ⟨w.heap.size, 1, none⟩ = some (.int .i64 j.d) := hS.b0.cell 1
    have qb02 : ww.cell? ⟨w.heap.size, 2, none⟩ = some (.int .i64 j.e) := hS.b0.cell 2
    have qb03 : ww.cell? ⟨w.heap.size, 3, none⟩ = some (.int .i64 j.a) := hS.b0.cell 3
    have qb04 : ww.cell? ⟨w.heap.size, 4, none⟩ = some (.int .i64 j.b) := hS.b0.cell 4
    have qb05 : ww.cell? ⟨w.heap.size, 5, none⟩ = some (.int .i64 j.c) := hS.b0.cell 5
    have qb06 : ww.cell? ⟨w.heap.size, 6, none⟩ = some (.int .i32 j.imm) := hS.b0.cell 6
    have qb07 : ww.cell? ⟨w.heap.size, 7, none⟩ = some (.slice vA j.args.length vc) := hS.b0.cell 7
    have qb10 : ww.cell? ⟨w.heap.size + 1, 0, none⟩ = some (.int .i64 h.op) := hS.b1.cell 0
    have qb11 : ww.cell? ⟨w.heap.size + 1, 1, none⟩ = some (.int .i64 h.a) := hS.b1.cell 1
    have qb12 : ww.cell? ⟨w.heap.size + 1, 2, none⟩ = some (.int .i64 h.b) := hS.b1.cell 2
    have qb13 : ww.cell? ⟨w.heap.size + 1, 3, none⟩ = some (.slice tA h.to.length tc) := hS.b1.cell 3
    have qb14 : ww.cell? ⟨w.heap.size + 1, 4, none⟩ = some (.int .i32 h.imm) := hS.b1.cell 4
    have qb20 : ww.cell? ⟨w.heap.size + 2, 0, none⟩ = some (.int .i64 n0) := hS.b2.cell 0
    have qb21 : ww.cell? ⟨w.heap.size + 2, 1, none⟩ = some (.int .i64 n1) := hS.b2.cell 1
    have qb22 : ww.cell? ⟨w.heap.size + 2, 2, none⟩ = some (.int .i64 n2) := hS.b2.cell 2
    go_simp; first | done | with_reducible rfl
  simp only [Act.put]
  try simp only [List.setIfInBounds_toArray, List.set_cons_zero, List.set_cons_succ]
  refine walkC_still _ ?r39u rfl rfl rfl ?r39y ?_
  case r39y =>
    intro ww hS
    have qb00 : ww.cell? ⟨w.heap.size, 0, none⟩ = some (.int .i64 j.op) := hS.b0.cell 0
    have qb01 : ww.cell? ⟨w.heap.size, 1, none⟩ = some (.int .i64 j.d) := hS.b0.cell 1
    have qb02 : ww.cell? ⟨w.heap.size, 2, none⟩ = some (.int .i64 j.e) := hS.b0.cell 2
    have qb03 : ww.cell? ⟨w.heap.size, 3, none⟩ = some (.int .i64 j.a) := hS.b0.cell 3
    have qb04 : ww.cell? ⟨w.heap.size, 4, none⟩ = some (.int .i64 j.b) := hS.b0.cell 4
    have qb05 : ww.cell? ⟨w.heap.size, 5, none⟩ = some (.int .i64 j.c) := hS.b0.cell 5
    have qb06 : ww.cell? ⟨w.heap.size, 6, none⟩ = some (.int .i32 j.imm) := hS.b0.cell 6
    have qb07 : ww.cell? ⟨w.heap.size, 7, none⟩ = some (.slice vA j.args.length vc) := hS.b0.cell 7
    have qb10 : ww.cell? ⟨w.heap.size + 1, 0, none⟩ = some (.int .i64 h.op) := hS.b1.cell 0
    have qb11 : ww.cell? ⟨w.heap.size + 1, 1, none⟩ = some (.int .i64 h.a) := hS.b1.cell 1
    have qb12 : ww.cell? ⟨w.heap.size + 1, 2, none⟩ = some (.int .i64 h.b) := hS.b1.cell 2
    have qb13 : ww.cell? ⟨w.heap.size + 1, 3, none⟩ = some (.slice tA h.to.length tc) := hS.b1.cell 3
    have qb14 : ww.cell? ⟨w.heap.size + 1, 4, none⟩ = some (.int .i32 h.imm) := hS.b1.cell 4
    have qb20 : ww.cell? ⟨w.heap.size + 2, 0, none⟩ = some (.int .i64 n0) := hS.b2.cell 0
    have qb21 : ww.cell? ⟨w.heap.size + 2, 1, none⟩ = some (.int .i64 n1) := hS.b2.cell 1
    have qb22 : ww.cell? ⟨w.heap.size + 2, 2, none⟩ = some (.int .i64 n2) := hS.b2.cell 2
    go_simp; first | done | with_reducible rfl
  simp only [Act.put]
  try simp only [List.setIfInBounds_toArray, List.set_cons_zero, List.set_cons_succ]
  refine walkC_still _ ?r40u rfl rfl rfl ?r40y ?_
  case r40y =>
    intro ww hS
    go_simp; first | done | with_reducible rfl
  simp only [Act.put]
  try simp only [List.setIfInBounds_toArray, List.set_cons_zero, List.set_cons_succ]
  refine walkC_still _ ?r41u rfl rfl rfl ?r41y ?_
  case r41y =>
    intro ww hS
    have qb00 : ww.cell? ⟨w.heap.size, 0, none⟩ = some (.int .i64 j.op) := hS.b0.cell 0
    have qb01 : ww.cell? ⟨w.heap.size, 1, none⟩ = some (.int .i64 j.d) := hS.b0.cell 1
    have qb02 : ww.cell? ⟨w.heap.size, 2, none⟩ = some (.int .i64 j.e) := hS.b0.cell 2
    have qb03 : ww.cell? ⟨w.heap.size, 3, none⟩ = some (.int .i64 j.a) := hS.b0.cell 3
    have qb04 : ww.cell? ⟨w.heap.size, 4, none⟩ = some (.int .i64 j.b) := hS.b0.cell 4
    have qb05 : ww.cell? ⟨w.heap.size, 5, none⟩ = some (.int .i64 j.c) := hS.b0.cell 5
    have qb06 : ww.cell? ⟨w.heap.size, 6, none⟩ = some (.int .i32 j.imm) := hS.b0.cell 6
    have qb07 : ww.cell? ⟨w.heap.size, 7, none⟩ = some (.slice vA j.args.length vc) := hS.b0.cell 7
    have qb10 : ww.cell? ⟨w.heap.size + 1, 0, none⟩ = some (.int .i64 h.op) := hS.b1.cell 0
    have qb11 : ww.cell? ⟨w.heap.size + 1, 1, none⟩ = some (.int .i64 h.a) := hS.b1.cell 1
    have qb12 : ww.cell? ⟨w.heap.size + 1, 2, none⟩ = some (.int .i64 h.b) := hS.b1.cell 2
    have qb13 : ww.cell? ⟨w.heap.size + 1, 3, none⟩ = some (.slice tA h.to.length tc) := hS.b1.cell 3
    have qb14 : ww.cell? ⟨w.heap.size + 1, 4, none⟩ = some (.int .i32 h.imm) := hS.b1.cell 4
    have qb20 : ww.cell? ⟨w.heap.size + 2, 0, none⟩ = some (.int .i64 n0) := hS.b2.cell 0
    have qb21 : ww.cell? ⟨w.heap.size + 2, 1, none⟩ = some (.int .i64 n1) := hS.b2.cell 1
    have qb22 : ww.cell? ⟨w.heap.size + 2, 2, none⟩ = some (.int .i64 n2) := hS.b2.cell 2
    go_simp; first | done | with_reducible rfl
  simp only [Act.put]
  try simp only [List.setIfInBounds_toArray, List.set_cons_zero, List.set_cons_succ]
  refine walkC_still _ ?r42u rfl rfl rfl ?r42y ?_
  case r42y =>
    intro ww hS
    go_simp; first | done | with_reducible rfl
  simp only [Act.put]
  try simp only [List.setIfInBounds_toArray, List.set_cons_zero, List.set_cons_succ]
  refine walkC_still _ ?r43u rfl rfl rfl ?r43y ?_
  case r43y =>
    intro ww hS
    have qb00 : ww.cell? ⟨w.heap.size, 0, none⟩ = some (.int .i64 j.op) := hS.b0.cell 0
    have qb01 : ww.cell? ⟨w.heap.size, 1, none⟩ = some (.int .i64 j.d) := hS.b0.cell 1
    have qb02 : ww.cell? ⟨w.heap.size, 2, none⟩ = some (.int .i64 j.e) := hS.b0.cell 2
    have qb03 : ww.cell? ⟨w.heap.size, 3, none⟩ = some (.int .i64 j.a) := hS.b0.cell 3
    have qb04 : ww.cell? ⟨w.heap.size, 4, none⟩ = some (.int .i64 j.b) := hS.b0.cell 4
    have qb05 : ww.cell? ⟨w.heap.size, 5, none⟩ = some (.int .i64 j.c) := hS.b0.cell 5
    have qb06 : ww.cell? ⟨w.heap.size, 6, none⟩ = some (.int .i32 j.imm) := hS.b0.cell 6
    have qb07 : ww.cell? ⟨w.heap.size, 7, none⟩ = some (.slice vA j.args.length vc) := hS.b0.cell 7
    have qb10 : ww.cell? ⟨w.heap.size + 1, 0, none⟩ = some (.int .i64 h.op) := hS.b1.cell 0
    have qb11 : ww.cell? ⟨w.heap.size + 1, 1, none⟩ = some (.int .i64 h.a) := hS.b1.cell 1
    have qb12 : ww.cell? ⟨w.heap.size + 1, 2, none⟩ = some (.int .i64 h.b) := hS.b1.cell 2
    have qb13 : ww.cell? ⟨w.heap.size + 1, 3, none⟩ = some (.slice tA h.to.length tc) := hS.b1.cell 3
    have qb14 : ww.cell? ⟨w.heap.size + 1, 4, none⟩ = some (.int .i32 h.imm) := hS.b1.cell 4
    have qb20 : ww.cell? ⟨w.heap.size + 2, 0, none⟩ = some (.int .i64 n0) := hS.b2.cell 0
    have qb21 : ww.cell? ⟨w.heap.size + 2, 1, none⟩ = some (.int .i64 n1) := hS.b2.cell 1
    have qb22 : ww.cell? ⟨w.heap.size + 2, 2, none⟩ = some (.int .i64 n2) := hS.b2.cell 2
    go_simp; first | done | with_reducible rfl
  simp only [Act.put]
  try simp only [List.setIfInBounds_toArray, List.set_cons_zero, List.set_cons_succ]
  refine walkC_does _ rfl rfl ?_
  go_wp2_with fail
  refine (endP_any _ h tA tc n0 n2 HTI.out).mono ?_
  rintro e' uc ⟨rfl, hb⟩
  rw [hze]
  have HB := Lib.hid (HB.out.trans (hb.mono HB.out.size))
  have HX := Lib.hid (HX.out.below hb)
  have HVI := Lib.hid (HVI.out.keep hb)
  have HTI := Lib.hid (HTI.out.keep hb)
  clear hb
  go_wp2_with fail
  refine behindC HX.out ?_
  try simp only [List.setIfInBounds_toArray, List.set_cons_zero, List.set_cons_succ]
  refine walkC_does _ rfl rfl ?_
  go_wp2_with fail
  refine (endR_any _ h tA tc n0 n2 HTI.out).mono ?_
  rintro e' ud ⟨rfl, hb⟩
  rw [hze]
  have HB := Lib.hid (HB.out.trans (hb.mono HB.out.size))
  have HX := Lib.hid (HX.out.below hb)
  have HVI := Lib.hid (HVI.out.keep hb)
  have HTI := Lib.hid (HTI.out.keep hb)
  clear hb
  go_wp2_with fail
  refine behindC HX.out ?_
  try simp only [List.setIfInBounds_toArray, List.set_cons_zero, List.set_cons_succ]
  refine walkC_still _ ?r44u rfl rfl rfl ?r44y ?_
  case r44y =>
    intro ww hS
    go_simp; first | done | with_reducible rfl
  simp only [Act.put]
  try simp only [List.setIfInBounds_toArray, List.set_cons_zero, List.set_cons_succ]
  refine walkC_still _ ?r45u rfl rfl rfl ?r45y ?_
  case r45y =>
    intro ww hS
    go_simp; first | done | with_reducible rfl
  simp only [Act.put]
  try simp only [List.setIfInBounds_toArray, List.set_cons_zero, List.set_cons_succ]
  refine walkC_still _ ?r46u rfl rfl rfl ?r46y ?_
  case r46y =>
    intro ww hS
    go_simp; first | done | with_reducible rfl
  simp only [Act.put]
  try simp only [List.setIfInBounds_toArray, List.set_cons_zero, List.set_cons_succ]
  refine walkC_nil ?_
  go_wp2_with fail
  go_ret
  exact ⟨rfl, HB.out⟩
end Go.Proofs.Ytmbecjpooeofgaa.Ph
