/- jacquardlaw03.few walked, and CheckTells over what is told of its callees. -/
import Derived.Test.YtdfehpcbcgbidaaTG
import Derived.Test.YtdfehpcbcgbidaaRA
import Derived.Deep.Cut
import Derived.Deep.DeepCutAuto
import Derived.Deep.QuietTactic
import Derived.BigQuiet
import Derived.Test.YtdfehpcbcgbidaaUD
/- jacquardlaw03.few walked: a function of the call's own, of so many things at most. -/
namespace Go.Proofs.Ytdfehpcbcgbidaa.Kc
open Go.ChangeShapes Go.WideShapes Go.ChangeAt Go.RowKit Go.Maps Go.Proofs.Ytdfehpcbcgbidaa.Mem Go.Proofs.Ytdfehpcbcgbidaa.Br Go.Proofs.Ytdfehpcbcgbidaa.Gr Go.Proofs.Ytdfehpcbcgbidaa.Rf
set_option linter.unusedVariables false
def fewPhi (p : PPhi) : PPhi := ⟨p.dst, p.ins.take 6⟩
def fewIns (i : PIns) : PIns := ⟨i.op, i.dst, i.two, i.args.take 6, i.imm⟩
def fewB (x : PBlock) : PBlock := ⟨(x.phis.take 8).map fewPhi, (x.ins.take 40).map fewIns, ⟨x.term.kind, x.term.args.take 6, x.term.to.take 70, x.term.imm⟩⟩
def fewP (bs : List PBlock) : List PBlock := (bs.take 9).map fewB
theorem info_inF : (Try.prog.info? 72).map (fun i => (i.zero, i.size, i.bytes)) = some (some (.agg #[.int .i64 0, .int .i64 0]), 2, 16) := by kernel_rfl
theorem info_phiF : (Try.prog.info? 54).map (fun i => (i.zero, i.size, i.bytes)) = some (some (.agg #[.int .i64 0, .slice none 0 0]), 2, 32) := by kernel_rfl
theorem info_insF : (Try.prog.info? 36).map (fun i => (i.zero, i.size, i.bytes)) = some (some (.agg #[.int .i64 0, .int .i64 0, .int .i64 0, .slice none 0 0, .int .i32 0]), 5, 56) := by kernel_rfl
theorem info_blockF : (Try.prog.info? 34).map (fun i => (i.zero, i.size, i.bytes)) = some (some (.agg #[.slice none 0 0, .slice none 0 0, .int .i64 0, .slice none 0 0, .slice none 0 0, .int .i32 0]), 6, 112) := by kernel_rfl
/-- What lies there while blocks are copied. -/
structure FewAt (w : World) (params : Int) (fv : Value) (vB : Value) (l : List PBlock) (wr : World) : Prop where
  fbox : Str wr w.heap.size 24 [.int .i64 params, fv]
  rbox : Str wr (w.heap.size + 1) 24 [.int .i64 0, .slice none 0 0]
  obox : Str wr (w.heap.size + 2) 24 [.int .i64 params, vB]
  rows : RowsOwn w.heap.size wr 34 6 (blockC w.heap.size) vB l
  below : Below w.heap.size w wr
theorem FewAt.keep {w : World} {params : Int} {fv vB : Value} {l : List PBlock} {wr wr' : World} (h : FewAt w params fv vB l wr) (hb : Below wr.heap.size wr wr') : FewAt w params fv vB l wr' :=
  ⟨h.fbox.below hb, h.rbox.below hb, h.obox.below hb, h.rows.below hb (blockC.below hb), h.below.trans (hb.mono h.below.size)⟩
/-- What lies there while a block's phis, and instructions, are copied: behind where the round began. -/
structure PartAt (M : Nat) (wM : World) (xb : Nat) (xs : List Value) (vP vI : Value) (k : Int) (sa st : Value) (imm : Int) (lp : List PPhi) (li : List PIns) (wr : World) : Prop where
  xbox : Str wr xb 34 xs
  ybox : Str wr (xb + 1) 34 [vP, vI, .int .i64 k, sa, st, .int .i32 imm]
  phis : RowsOwn M wr 54 2 (phiC M) vP lp
  ins : RowsOwn M wr 36 5 (insC M) vI li
  below : Below M wM wr
theorem PartAt.keep {M : Nat} {wM : World} {xb : Nat} {xs : List Value} {vP vI : Value} {k : Int} {sa st : Value} {imm : Int} {lp : List PPhi} {li : List PIns} {wr wr' : World} (h : PartAt M wM xb xs vP vI k sa st imm lp li wr) (hM : M ≤ wr.heap.size) (hb : Below wr.heap.size wr wr') :
    PartAt M wM xb xs vP vI k sa st imm lp li wr' :=
  ⟨h.xbox.below hb, h.ybox.below hb, h.phis.below hb (phiC.below hb), h.ins.below hb (insC.below hb), h.below.trans (hb.mono hM)⟩
/-- One phi more. -/
theorem PartAt.phi {M : Nat} {wM : World} {xb : Nat} {xs : List Value} {vP vP' vI : Value} {k : Int} {sa st : Value} {imm : Int} {lp : List PPhi} {li : List PIns} {wr wr' : World} (h : PartAt M wM xb xs vP vI k sa st imm lp li wr) (hx : M ≤ xb) (hM : M ≤ wr.heap.size)
    {cs : List (List Value)} (h1 : cs.length = lp.length) (h3 : ∀ i (h : i < lp.length), ∃ c, cs[i]? = some c ∧ c.length = 2 ∧ phiC M wr c lp[i]) (h2 : wr.ownsRow M 54 2 vP lp.length cs.flatten)
    {c : List Value} {p : PPhi} (hr : wr'.ownsRow M 54 2 vP' (lp.length + 1) (cs.flatten ++ c)) (hg : wr.grownBy wr' vP.ownBlock) (hc : c.length = 2) (hp : phiC M wr c p) :
    PartAt M wM xb xs vP' vI k sa st imm (lp ++ [p]) li (wr'.setCell ⟨xb + 1, 0, none⟩ vP') := by
  have nI : NoRow wr vP.ownBlock 72 := noRow_own h2 (by decide)
  have nS : NoRow wr vP.ownBlock 36 := noRow_own h2 (by decide)
  have nN : NoRow wr vP.ownBlock 3 := noRow_own h2 (by decide)
  have hy := h.ybox.kept hg (h.ybox.not_row (by decide) h2)
  have hxx := h.xbox.kept hg (h.xbox.not_row (by decide) h2)
  have hs : wr'.grownBy (wr'.setCell ⟨xb + 1, 0, none⟩ vP') (some (xb + 1)) := setCell_grownBy wr' ⟨xb + 1, 0, none⟩ vP'
  have hb : Below M wM wr' := Go.Proofs.Ytdfehpcbcgbidaa.Rf.below_own h.below hM hg (fun g hg => (h2.lt g hg).1)
  refine ⟨hxx.kept hs (by simp), hy.set 0 vP', ?_, ?_, hb.setCell (p := ⟨xb + 1, 0, none⟩) (by show M ≤ xb + 1; omega) _⟩
  · refine (RowsOwn.pushed h1 h3 (phiC.kept hg nI) hr hc (phiC.kept hg nI _ _ hp)).kept hs (noRow_str hy (by decide) _ _ _ _ _ hr) (phiC.kept hs (noRow_str hy (by decide)))
  · obtain ⟨ci, i1, i2, i3⟩ := h.ins
    have hi := h.ins.kept hg (nS _ _ _ _ _ i2) (insC.kept hg nN)
    have i2' := World.ownsRow.kept i2 hg (nS _ _ _ _ _ i2)
    exact hi.kept hs (noRow_str hy (by decide) _ _ _ _ _ i2') (insC.kept hs (noRow_str hy (by decide)))
/-- One instruction more. -/
theorem PartAt.in_ {M : Nat} {wM : World} {xb : Nat} {xs : List Value} {vP vI vI' : Value} {k : Int} {sa st : Value} {imm : Int} {lp : List PPhi} {li : List PIns} {wr wr' : World} (h : PartAt M wM xb xs vP vI k sa st imm lp li wr) (hx : M ≤ xb) (hM : M ≤ wr.heap.size)
    {cs : List (List Value)} (h1 : cs.length = li.length) (h3 : ∀ i (h : i < li.length), ∃ c, cs[i]? = some c ∧ c.length = 5 ∧ insC M wr c li[i]) (h2 : wr.ownsRow M 36 5 vI li.length cs.flatten)
    {c : List Value} {p : PIns} (hr : wr'.ownsRow M 36 5 vI' (li.length + 1) (cs.flatten ++ c)) (hg : wr.grownBy wr' vI.ownBlock) (hc : c.length = 5) (hp : insC M wr c p) :
    PartAt M wM xb xs vP vI' k sa st imm lp (li ++ [p]) (wr'.setCell ⟨xb + 1, 1, none⟩ vI') := by
  have nI : NoRow wr vI.ownBlock 72 := noRow_own h2 (by decide)
  have nP : NoRow wr vI.ownBlock 54 := noRow_own h2 (by decide)
  have nN : NoRow wr vI.ownBlock 3 := noRow_own h2 (by decide)
  have hy := h.ybox.kept hg (h.ybox.not_row (by decide) h2)
  have hxx := h.xbox.kept hg (h.xbox.not_row (by decide) h2)
  have hs : wr'.grownBy (wr'.setCell ⟨xb + 1, 1, none⟩ vI') (some (xb + 1)) := setCell_grownBy wr' ⟨xb + 1, 1, none⟩ vI'
  have hb : Below M wM wr' := Go.Proofs.Ytdfehpcbcgbidaa.Rf.below_own h.below hM hg (fun g hg => (h2.lt g hg).1)
  refine ⟨hxx.kept hs (by simp), hy.set 1 vI', ?_, ?_, hb.setCell (p := ⟨xb + 1, 1, none⟩) (by show M ≤ xb + 1; omega) _⟩
  · obtain ⟨ci, i1, i2, i3⟩ := h.phis
    have hi := h.phis.kept hg (nP _ _ _ _ _ i2) (phiC.kept hg nI)
    have i2' := World.ownsRow.kept i2 hg (nP _ _ _ _ _ i2)
    exact hi.kept hs (noRow_str hy (by decide) _ _ _ _ _ i2') (phiC.kept hs (noRow_str hy (by decide)))
  · refine (RowsOwn.pushed h1 h3 (insC.kept hg nN) hr hc (insC.kept hg nN _ _ hp)).kept hs (noRow_str hy (by decide) _ _ _ _ _ hr) (insC.kept hs (noRow_str hy (by decide)))
/-- A term's operands, and blocks. -/
theorem PartAt.arg {M : Nat} {wM : World} {xb : Nat} {xs : List Value} {vP vI : Value} {k : Int} {sa st : Value} {imm : Int} {lp : List PPhi} {li : List PIns} {wr : World} (h : PartAt M wM xb xs vP vI k sa st imm lp li wr) (hx : M ≤ xb) (u : Value) :
    PartAt M wM xb xs vP vI k u st imm lp li (wr.setCell ⟨xb + 1, 3, none⟩ u) := by
  have hs : wr.grownBy (wr.setCell ⟨xb + 1, 3, none⟩ u) (some (xb + 1)) := setCell_grownBy wr ⟨xb + 1, 3, none⟩ u
  refine ⟨h.xbox.kept hs (by simp), h.ybox.set 3 u, ?_, ?_, h.below.setCell (p := ⟨xb + 1, 3, none⟩) (by show M ≤ xb + 1; omega) _⟩
  · obtain ⟨ci, i1, i2, i3⟩ := h.phis
    exact h.phis.kept hs (noRow_str h.ybox (by decide) _ _ _ _ _ i2) (phiC.kept hs (noRow_str h.ybox (by decide)))
  · obtain ⟨ci, i1, i2, i3⟩ := h.ins
    exact h.ins.kept hs (noRow_str h.ybox (by decide) _ _ _ _ _ i2) (insC.kept hs (noRow_str h.ybox (by decide)))
theorem PartAt.to_ {M : Nat} {wM : World} {xb : Nat} {xs : List Value} {vP vI : Value} {k : Int} {sa st : Value} {imm : Int} {lp : List PPhi} {li : List PIns} {wr : World} (h : PartAt M wM xb xs vP vI k sa st imm lp li wr) (hx : M ≤ xb) (u : Value) :
    PartAt M wM xb xs vP vI k sa u imm lp li (wr.setCell ⟨xb + 1, 4, none⟩ u) := by
  have hs : wr.grownBy (wr.setCell ⟨xb + 1, 4, none⟩ u) (some (xb + 1)) := setCell_grownBy wr ⟨xb + 1, 4, none⟩ u
  refine ⟨h.xbox.kept hs (by simp), h.ybox.set 4 u, ?_, ?_, h.below.setCell (p := ⟨xb + 1, 4, none⟩) (by show M ≤ xb + 1; omega) _⟩
  · obtain ⟨ci, i1, i2, i3⟩ := h.phis
    exact h.phis.kept hs (noRow_str h.ybox (by decide) _ _ _ _ _ i2) (phiC.kept hs (noRow_str h.ybox (by decide)))
  · obtain ⟨ci, i1, i2, i3⟩ := h.ins
    exact h.ins.kept hs (noRow_str h.ybox (by decide) _ _ _ _ _ i2) (insC.kept hs (noRow_str h.ybox (by decide)))
/-- One block more. -/
theorem FewAt.block {w : World} {params : Int} {fv vB vB' : Value} {l : List PBlock} {wr wr' : World} (h : FewAt w params fv vB l wr)
    {cs : List (List Value)} (h1 : cs.length = l.length) (h3 : ∀ i (h : i < l.length), ∃ c, cs[i]? = some c ∧ c.length = 6 ∧ blockC w.heap.size wr c l[i]) (h2 : wr.ownsRow w.heap.size 34 6 vB l.length cs.flatten)
    {c : List Value} {p : PBlock} (hr : wr'.ownsRow w.heap.size 34 6 vB' (l.length + 1) (cs.flatten ++ c)) (hg : wr.grownBy wr' vB.ownBlock) (hc : c.length = 6) (hp : blockC w.heap.size wr c p) :
    FewAt w params fv vB' (l ++ [p]) (wr'.setCell ⟨w.heap.size + 2, 1, none⟩ vB') := by
  have n1 : NoRow wr vB.ownBlock 72 := noRow_own h2 (by decide)
  have n2 : NoRow wr vB.ownBlock 3 := noRow_own h2 (by decide)
  have n3 : NoRow wr vB.ownBlock 54 := noRow_own h2 (by decide)
  have n4 : NoRow wr vB.ownBlock 36 := noRow_own h2 (by decide)
  have hf := h.fbox.kept hg (h.fbox.not_row (by decide) h2)
  have hr' := h.rbox.kept hg (h.rbox.not_row (by decide) h2)
  have ho := h.obox.kept hg (h.obox.not_row (by decide) h2)
  have hs : wr'.grownBy (wr'.setCell ⟨w.heap.size + 2, 1, none⟩ vB') (some (w.heap.size + 2)) := setCell_grownBy wr' ⟨w.heap.size + 2, 1, none⟩ vB'
  have hb : Below w.heap.size w wr' := Go.Proofs.Ytdfehpcbcgbidaa.Rf.below_own h.below h.below.size hg (fun g hg => (h2.lt g hg).1)
  refine ⟨hf.kept hs (by simp), hr'.kept hs (by simp), ho.set 1 vB', ?_, hb.setCell (p := ⟨w.heap.size + 2, 1, none⟩) (by show w.heap.size ≤ w.heap.size + 2; omega) _⟩
  exact (RowsOwn.pushed h1 h3 (blockC.kept hg n1 n2 n3 n4) hr hc (blockC.kept hg n1 n2 n3 n4 _ _ hp)).kept hs (noRow_str ho (by decide) _ _ _ _ _ hr) (blockC.kept hs (noRow_str ho (by decide)) (noRow_str ho (by decide)) (noRow_str ho (by decide)) (noRow_str ho (by decide)))
/-- What was copied, told. -/
theorem FewAt.done {w : World} {params : Int} {fv : Value} {A : Option Addr} {c : Nat} {l : List PBlock} {wr : World} (h : FewAt w params fv (.slice A l.length c) l wr) (u v : Value) :
    BlocksAt ((wr.setCell ⟨w.heap.size + 1, 0, none⟩ u).setCell ⟨w.heap.size + 1, 1, none⟩ v) (.slice A l.length c) l ∧ (0 < l.length → ∃ g, A = some ⟨g, 0, none⟩) ∧ Below w.heap.size w ((wr.setCell ⟨w.heap.size + 1, 0, none⟩ u).setCell ⟨w.heap.size + 1, 1, none⟩ v) := by
  have s1 : wr.grownBy (wr.setCell ⟨w.heap.size + 1, 0, none⟩ u) (some (w.heap.size + 1)) := setCell_grownBy wr ⟨w.heap.size + 1, 0, none⟩ u
  have r1 := h.rbox.set 0 u
  have s2 : (wr.setCell ⟨w.heap.size + 1, 0, none⟩ u).grownBy ((wr.setCell ⟨w.heap.size + 1, 0, none⟩ u).setCell ⟨w.heap.size + 1, 1, none⟩ v) (some (w.heap.size + 1)) := setCell_grownBy _ ⟨w.heap.size + 1, 1, none⟩ v
  obtain ⟨cs, q1, q2, q3⟩ := h.rows
  have k1 := h.rows.kept s1 (noRow_str h.rbox (by decide) _ _ _ _ _ q2) (blockC.kept s1 (noRow_str h.rbox (by decide)) (noRow_str h.rbox (by decide)) (noRow_str h.rbox (by decide)) (noRow_str h.rbox (by decide)))
  obtain ⟨cs', q1', q2', q3'⟩ := k1
  have k2 := (show RowsOwn w.heap.size _ 34 6 (blockC w.heap.size) (.slice A l.length c) l from ⟨cs', q1', q2', q3'⟩).kept s2 (noRow_str r1 (by decide) _ _ _ _ _ q2') (blockC.kept s2 (noRow_str r1 (by decide)) (noRow_str r1 (by decide)) (noRow_str r1 (by decide)) (noRow_str r1 (by decide)))
  obtain ⟨x1, A', c', e, x2⟩ := k2.row block_at
  injection e with e _ _
  subst e
  exact ⟨x1, x2, (h.below.setCell (p := ⟨w.heap.size + 1, 0, none⟩) (by show w.heap.size ≤ w.heap.size + 1; omega) _).setCell (p := ⟨w.heap.size + 1, 1, none⟩) (by show w.heap.size ≤ w.heap.size + 1; omega) _⟩
set_option maxRecDepth 100000 in
set_option maxHeartbeats 8000000 in
theorem few_any (w : World) (params : Int) (fv : Value) (bs : List PBlock) (hbs : BlocksAt w fv bs) :
    Calls Try.prog 8 #[.agg #[.int .i64 params, fv]] w (fun e w' => ∃ A c, e = .returned (.agg #[.int .i64 params, .slice A (fewP bs).length c]) ∧ BlocksAt w' (.slice A (fewP bs).length c) (fewP bs) ∧ (0 < (fewP bs).length → ∃ g, A = some ⟨g, 0, none⟩) ∧ Below w.heap.size w w') := by
  obtain ⟨i0, hi, hz0, hz1, hz2⟩ := info_parts info_inF
  have HI0 := Lib.hid hi
  have HZ0 := Lib.hid hz0
  have HZ1 := Lib.hid hz1
  have HZ2 := Lib.hid hz2
  obtain ⟨i1, hi, hz0, hz1, hz2⟩ := info_parts info_phiF
  have HI1 := Lib.hid hi
  have HY0 := Lib.hid hz0
  have HY1 := Lib.hid hz1
  have HY2 := Lib.hid hz2
  obtain ⟨i2, hi, hz0, hz1, hz2⟩ := info_parts info_insF
  have HI2 := Lib.hid hi
  have HX0 := Lib.hid hz0
  have HX1 := Lib.hid hz1
  have HX2 := Lib.hid hz2
  obtain ⟨i3, hi, hz0, hz1, hz2⟩ := info_parts info_blockF
  have HI3 := Lib.hid hi
  have HU0 := Lib.hid hz0
  have HU1 := Lib.hid hz1
  have HU2 := Lib.hid hz2
  obtain ⟨i4, hi, hz0, hz1, hz2⟩ := info_parts Go.Proofs.Ytdfehpcbcgbidaa.Rf.info_num
  have HI4 := Lib.hid hi
  have HT0 := Lib.hid hz0
  have HT1 := Lib.hid hz1
  have HT2 := Lib.hid hz2
  clear hi hz0 hz1 hz2
  have HBS := Lib.hid hbs
  obtain ⟨A, cB, gB, oB, rfl, hl1, hl2, hA, hblk⟩ := hbs
  unfold maxLen at hl2
  have HA := Lib.hid hA
  clear hA hblk
  go_enter Try.func8, Try.ntmps8
  go_upto_region 3 with (fail)
  obtain ⟨W1, hW1⟩ : ∃ W1, ((w.alloc (.cells #[.int .i64 params, .slice A bs.length cB] 24)).alloc (.cells #[.int .i64 0, .slice none 0 0] 24)).alloc (.cells #[.int .i64 params, .slice none 0 0] 24) = W1 := ⟨_, rfl⟩
  rw [hW1]
  have HFA := Lib.hid (show FewAt w params (.slice A bs.length cB) (.slice none 0 0) [] W1 by
    rw [← hW1]
    have b1 := (Below.refl w.heap.size w).alloc (Nat.le_refl _) (.cells #[.int .i64 params, .slice A bs.length cB] 24)
    have b2 := (Below.refl (w.alloc (.cells #[.int .i64 params, .slice A bs.length cB] 24)).heap.size (w.alloc (.cells #[.int .i64 params, .slice A bs.length cB] 24))).alloc (Nat.le_refl _) (.cells #[.int .i64 0, .slice none 0 0] 24)
    have z1 : (w.alloc (.cells #[.int .i64 params, .slice A bs.length cB] 24)).heap.size = w.heap.size + 1 := by simp
    generalize hV : w.alloc (.cells #[.int .i64 params, .slice A bs.length cB] 24) = V at *
    have s1 : Str V w.heap.size 24 [.int .i64 params, .slice A bs.length cB] := by rw [← hV]; exact World.alloc_heap_new w _
    have s2 : Str (V.alloc (.cells #[.int .i64 0, .slice none 0 0] 24)) V.heap.size 24 [.int .i64 0, .slice none 0 0] := World.alloc_heap_new V _
    have z2 : (V.alloc (.cells #[.int .i64 0, .slice none 0 0] 24)).heap.size = w.heap.size + 2 := by simp [z1]
    have s1 := s1.below b2
    generalize V.alloc (.cells #[.int .i64 0, .slice none 0 0] 24) = U at *
    have b3 := (Below.refl U.heap.size U).alloc (Nat.le_refl _) (.cells #[.int .i64 params, .slice none 0 0] 24)
    have s3 : Str (U.alloc (.cells #[.int .i64 params, .slice none 0 0] 24)) U.heap.size 24 [.int .i64 params, .slice none 0 0] := World.alloc_heap_new U _
    rw [z1] at s2
    rw [z2] at s3
    exact ⟨s1.below b3, s2.below b3, s3, RowsOwn.nil _ _ _ _ _, (b1.trans (b2.mono (by omega))).trans (b3.mono (by omega))⟩)
  clear hW1
  go_wp2_with fail
  go_loopw [4, 5, 6, 7, 8, 9, 10] (fun i _ _ _ _ _ _ wr => ∃ (k : Nat) (vB : Value), k ≤ bs.length ∧ k ≤ 9 ∧ i = .int .i64 k ∧ FewAt w params (.slice A bs.length cB) vB ((bs.take k).map fewB) wr) (fun i _ _ _ _ _ _ _ => 9 - (intOf i).toNat)
  case atStart => exact ⟨0, _, by omega, by omega, rfl, HFA.out⟩
  case round =>
    obtain ⟨k, vB, hk, hk9, rfl, hfa⟩ := hrel
    obtain ⟨wo, rfl⟩ : ∃ wo : World, wo = wr := ⟨_, rfl⟩
    have f1 : wo.cell? ⟨w.heap.size, 1, none⟩ = some (.slice A bs.length cB) := hfa.fbox.cell 1
    have hzo := hfa.below.size
    have hob := hfa.obox.lt
    have HFO := Lib.hid hfa
    clear hfa
    by_cases hlt : k < bs.length
    · by_cases hlt9 : k < 9
      · have eA := HA.out (by omega)
        subst eA
        have HTK := Lib.hid (show (bs.take (k + 1)).map fewB = (bs.take k).map fewB ++ [fewB bs[k]] by rw [List.take_succ_eq_append_getElem hlt, List.map_append]; rfl)
        have HLN := Lib.hid (show ((bs.take k).map fewB).length = k by rw [List.length_map, List.length_take]; omega)
        obtain ⟨hbl, hbk⟩ := open_block HBS.out hlt
        obtain ⟨p0, c0, p1, c1, p3, c3, p4, c4, r0, r1, r2, r3, r4, r5, q0, q1, q3, q4⟩ := block_rows hbk
        have hbo := HFO.out.below
        have r0 := cell_keep hbo (Nat.le_refl _) r0
        have r1 := cell_keep hbo (Nat.le_refl _) r1
        have r2 := cell_keep hbo (Nat.le_refl _) r2
        have r3 := cell_keep hbo (Nat.le_refl _) r3
        have r4 := cell_keep hbo (Nat.le_refl _) r4
        have r5 := cell_keep hbo (Nat.le_refl _) r5
        have HQ0 := Lib.hid q0
        have HQ1 := Lib.hid q1
        have HQ3 := Lib.hid q3
        have HQ4 := Lib.hid q4
        clear q0 q1 q3 q4 hbk hbo
        generalize (bs.take k).map fewB = L0 at *
        generalize bs[k] = x at *
        go_upto_region 7 with (fail)
        obtain ⟨W2, hW2⟩ : ∃ W2, (wo.alloc (.cells #[.slice p0 x.phis.length c0, .slice p1 x.ins.length c1, .int .i64 x.term.kind, .slice p3 x.term.args.length c3, .slice p4 x.term.to.length c4, .int .i32 x.term.imm] 34)).alloc (.cells #[.slice none 0 0, .slice none 0 0, .int .i64 x.term.kind, .slice p3 x.term.args.length c3, .slice p4 x.term.to.length c4, .int .i32 x.term.imm] 34) = W2 := ⟨_, rfl⟩
        rw [hW2]
        obtain ⟨M, hM⟩ : ∃ M, wo.heap.size = M := ⟨_, rfl⟩
        have HPA := Lib.hid (show PartAt M wo M [.slice p0 x.phis.length c0, .slice p1 x.ins.length c1, .int .i64 x.term.kind, .slice p3 x.term.args.length c3, .slice p4 x.term.to.length c4, .int .i32 x.term.imm] (.slice none 0 0) (.slice none 0 0) x.term.kind (.slice p3 x.term.args.length c3) (.slice p4 x.term.to.length c4) x.term.imm [] [] W2 by
          rw [← hW2]
          subst hM
          have b1 := (Below.refl wo.heap.size wo).alloc (Nat.le_refl _) (.cells #[.slice p0 x.phis.length c0, .slice p1 x.ins.length c1, .int .i64 x.term.kind, .slice p3 x.term.args.length c3, .slice p4 x.term.to.length c4, .int .i32 x.term.imm] 34)
          have s1 : Str (wo.alloc (.cells #[.slice p0 x.phis.length c0, .slice p1 x.ins.length c1, .int .i64 x.term.kind, .slice p3 x.term.args.length c3, .slice p4 x.term.to.length c4, .int .i32 x.term.imm] 34)) wo.heap.size 34 [.slice p0 x.phis.length c0, .slice p1 x.ins.length c1, .int .i64 x.term.kind, .slice p3 x.term.args.length c3, .slice p4 x.term.to.length c4, .int .i32 x.term.imm] := World.alloc_heap_new wo _
          have z1 : (wo.alloc (.cells #[.slice p0 x.phis.length c0, .slice p1 x.ins.length c1, .int .i64 x.term.kind, .slice p3 x.term.args.length c3, .slice p4 x.term.to.length c4, .int .i32 x.term.imm] 34)).heap.size = wo.heap.size + 1 := by simp
          generalize wo.alloc (.cells #[.slice p0 x.phis.length c0, .slice p1 x.ins.length c1, .int .i64 x.term.kind, .slice p3 x.term.args.length c3, .slice p4 x.term.to.length c4, .int .i32 x.term.imm] 34) = V at *
          have b2 := (Below.refl V.heap.size V).alloc (Nat.le_refl _) (.cells #[.slice none 0 0, .slice none 0 0, .int .i64 x.term.kind, .slice p3 x.term.args.length c3, .slice p4 x.term.to.length c4, .int .i32 x.term.imm] 34)
          have s2 : Str (V.alloc (.cells #[.slice none 0 0, .slice none 0 0, .int .i64 x.term.kind, .slice p3 x.term.args.length c3, .slice p4 x.term.to.length c4, .int .i32 x.term.imm] 34)) V.heap.size 34 [.slice none 0 0, .slice none 0 0, .int .i64 x.term.kind, .slice p3 x.term.args.length c3, .slice p4 x.term.to.length c4, .int .i32 x.term.imm] := World.alloc_heap_new V _
          rw [z1] at s2
          exact ⟨s1.below b2, s2, RowsOwn.nil _ _ _ _ _, RowsOwn.nil _ _ _ _ _, b1.trans (b2.mono (by omega))⟩)
        rw [hM]
        have hMw : w.heap.size + 3 ≤ M := by omega
        clear hW2 r0 r1 r2 r3 r4 r5 f1
        obtain ⟨xs, hxs⟩ : ∃ xs : List Value, [.slice p0 x.phis.length c0, .slice p1 x.ins.length c1, .int .i64 x.term.kind, .slice p3 x.term.args.length c3, .slice p4 x.term.to.length c4, .int .i32 x.term.imm] = xs := ⟨_, rfl⟩
        rw [hxs] at HPA
        have HXS := Lib.hid hxs
        clear hxs
        go_wp2_with fail
        go_loopw [7, 8] (fun i _ wr => ∃ (n : Nat) (vP : Value), n ≤ x.phis.length ∧ n ≤ 8 ∧ i = .int .i64 n ∧ PartAt M wo M xs vP (.slice none 0 0) x.term.kind (.slice p3 x.term.args.length c3) (.slice p4 x.term.to.length c4) x.term.imm ((x.phis.take n).map fewPhi) [] wr) (fun i _ _ => 8 - (intOf i).toNat)
        case atStart => exact ⟨0, _, by omega, by omega, rfl, HPA.out⟩
        case round =>
          obtain ⟨n, vP, hn, hn8, rfl, hpa⟩ := hrel
          obtain ⟨wi, rfl⟩ : ∃ wi : World, wi = wr := ⟨_, rfl⟩
          have x0 : wi.cell? ⟨M, 0, none⟩ = some (.slice p0 x.phis.length c0) := by have := hpa.xbox.cell 0; rw [← HXS.out] at this; exact this
          have hbi := HFO.out.below.trans (hpa.below.mono (show w.heap.size ≤ M by omega))
          have hzi := hpa.below.size
          have hyb := hpa.ybox.lt
          rw [hM] at hzi
          have HPI := Lib.hid hpa
          have HBi := Lib.hid hbi
          clear hpa hbi
          by_cases hgo : n < x.phis.length ∧ n < 8
          · obtain ⟨hltn, hlt8⟩ := hgo
            · have HTP := Lib.hid (show (x.phis.take (n + 1)).map fewPhi = (x.phis.take n).map fewPhi ++ [fewPhi x.phis[n]] by rw [List.take_succ_eq_append_getElem hltn, List.map_append]; rfl)
              have HLP := Lib.hid (show ((x.phis.take n).map fewPhi).length = n by rw [List.length_map, List.length_take]; omega)
              obtain ⟨A', c', bP, oP, e, u1, u2, u3, u4⟩ := HQ0.out
              injection e with e1 _ e3
              subst e1 e3
              have e1 := u3 (by omega)
              subst e1
              unfold maxLen at u2
              obtain ⟨y0, vI, y1, hrow⟩ := u4 n hltn
              have HROW := Lib.hid hrow
              obtain ⟨pI, cI, bI, oI, rfl, v1, v2, v3, v4⟩ := hrow
              unfold maxLen at v2
              have HV3 := Lib.hid v3
              have HV4 := Lib.hid v4
              have y0 := cell_keep HBi.out (Nat.le_refl _) y0
              have y1 := cell_keep HBi.out (Nat.le_refl _) y1
              clear u3 u4 v3 v4
              generalize hL1 : (x.phis.take n).map fewPhi = L1 at *
              have HL1 := Lib.hid hL1
              clear hL1
              generalize x.phis[n] = ph at *
              go_upto_region 11 with (fail)
              obtain ⟨W3, hW3⟩ : ∃ W3, wi.alloc (.cells #[.int .i64 ph.dst, .slice pI ph.ins.length cI] 54) = W3 := ⟨_, rfl⟩
              rw [hW3]
              have hb3 : Below wi.heap.size wi W3 := by rw [← hW3]; exact (Below.refl _ _).alloc (Nat.le_refl _) _
              have hs3 : Str W3 wi.heap.size 54 [.int .i64 ph.dst, .slice pI ph.ins.length cI] := by rw [← hW3]; exact World.alloc_heap_new wi _
              have hz3e : W3.heap.size = wi.heap.size + 1 := by rw [← hW3]; simp
              obtain ⟨pb, hpb⟩ : ∃ pb, wi.heap.size = pb := ⟨_, rfl⟩
              rw [hpb] at hs3 ⊢
              have hz3 : pb < W3.heap.size := by omega
              clear hW3 hz3e x0 y0 y1
              have HP3 := Lib.hid (HPI.out.keep hzi hb3)
              have HBI := Lib.hid hb3
              have HPB := Lib.hid hpb
              have HB3 := Lib.hid (HBi.out.trans (hb3.mono (by have := HBi.out.size; omega)))
              have HS3 := Lib.hid hs3
              obtain ⟨W4, hW4⟩ : ∃ W4, W3.alloc (.cells #[] 72) = W4 := ⟨_, rfl⟩
              have hb4 : Below W3.heap.size W3 W4 := by rw [← hW4]; exact (Below.refl _ _).alloc (Nat.le_refl _) _
              have hs4 := hs3.below hb4
              have hr4 : W4.ownsRow W3.heap.size 72 2 (.slice (some ⟨W3.heap.size, 0, none⟩) 0 0) 0 [] := by rw [← hW4]; exact empty_row W3 72 2
              have HW4 := Lib.hid hW4
              have HR4 := Lib.hid hr4
              have HS4 := Lib.hid hs4
              have HP4 := Lib.hid (HP3.out.keep (by omega) hb4)
              have HB4 := Lib.hid (HB3.out.trans (hb4.mono (by have := HB3.out.size; omega)))
              have hz4 := hb4.size
              have g1 : (W3.alloc (.cells #[] 72)).cell? ⟨pb, 1, none⟩ = some (.slice pI ph.ins.length cI) := by rw [hW4]; exact hs4.cell 1
              clear hb3 hs3 hb4 hs4 hr4 hW4 hpb
              obtain ⟨m, hm⟩ : ∃ m : Nat, min ph.ins.length 6 = m := ⟨_, rfl⟩
              have hmin : min (ph.ins.length : Int) 6 = (m : Int) := by omega
              have hm1 : m ≤ ph.ins.length := by omega
              have hm6 : m ≤ 6 := by omega
              have HTI := Lib.hid (show ph.ins.take 6 = ph.ins.take m by rw [← hm, List.take_eq_take_min]; congr 1; omega)
              clear hm
              have HNC := Lib.hid (inCells_from HROW.out HB4.out hm1)
              have HNL := Lib.hid (show (inCells (ph.ins.take m)).length = m * 2 by rw [inCells_len, List.length_take]; omega)
              have HNM := Lib.hid (show (ph.ins.take m).length = m by rw [List.length_take]; omega)
              clear u1 u2
              go_wp2_with (at_builtin; rw [HW4.out]; refine wpList_copy0 rfl _ _ _ rfl rfl W3.heap.size 72 i0 (.agg #[.int .i64 0, .int .i64 0]) 2 16 Try.underlying52 HI0.out HZ0.out HZ1.out HZ2.out rfl (by decide) (.slice (some ⟨W3.heap.size, 0, none⟩) 0 0) rfl HR4.out pI m cI rfl (inCells (ph.ins.take m)) HNL.out HNC.out (inCells_one _) (by omega) (by omega) hz4 ?_)
              intro v5 w5 hr5 hg5
              obtain ⟨vA, vc, rfl⟩ := own_form hr5
              have hb5 : Below W3.heap.size W3 w5 := Go.Proofs.Ytdfehpcbcgbidaa.Rf.below_own (show Below W3.heap.size W3 W4 by rw [← HW4.out]; exact (Below.refl _ _).alloc (Nat.le_refl _) _) hz4 hg5 (fun g hg => (HR4.out.lt g hg).1)
              have hs5 := HS3.out.below hb5
              have g1 : w5.cell? ⟨pb, 1, none⟩ = some (.slice pI ph.ins.length cI) := hs5.cell 1
              have g2 := hs5.frozen 1
              have HS5 := Lib.hid hs5
              have HB5 := Lib.hid hb5
              have HR5 := Lib.hid (rows_in HNM.out hr5)
              clear hs5 hb5 hr5 hg5
              go_upto_region 12 with (fail)
              obtain ⟨W6, hW6⟩ : ∃ W6, w5.setCell ⟨pb, 1, none⟩ (.slice vA m vc) = W6 := ⟨_, rfl⟩
              rw [hW6]
              have hs6 : Str W6 pb 54 [.int .i64 ph.dst, .slice vA m vc] := by rw [← hW6]; exact HS5.out.set 1 _
              have hb6 : Below wi.heap.size wi W6 := by
                rw [← hW6]
                exact (HBI.out.trans (HB5.out.mono (by have := HBI.out.size; omega))).setCell (p := ⟨pb, 1, none⟩) (by show wi.heap.size ≤ pb; rw [HPB.out]; exact Nat.le_refl _) _
              have hr6 : RowsOwn W3.heap.size W6 72 2 inC (.slice vA m vc) (ph.ins.take m) := by
                obtain ⟨ci, q1, q2, q3⟩ := HR5.out
                rw [← hW6]
                exact HR5.out.kept (setCell_grownBy w5 ⟨pb, 1, none⟩ (.slice vA m vc)) (noRow_str HS5.out (by decide) _ _ _ _ _ q2) (fun _ _ h => h)
              have HP6 := Lib.hid (HPI.out.keep hzi hb6)
              have t0 : W6.cell? ⟨M + 1, 0, none⟩ = some vP := HP6.out.ybox.cell 0
              have t1 : W6.cell? ⟨pb, 0, none⟩ = some (.int .i64 ph.dst) := hs6.cell 0
              have t2 : W6.cell? ⟨pb, 1, none⟩ = some (.slice vA m vc) := hs6.cell 1
              have hz6 : M ≤ W6.heap.size := by have := hb6.size; omega
              clear hs6 g1 g2 hW6
              obtain ⟨W7, hW7⟩ : ∃ W7, W6.alloc (.cells #[.int .i64 ph.dst, .slice vA m vc] 54) = W7 := ⟨_, rfl⟩
              have hb7 : Below W6.heap.size W6 W7 := by rw [← hW7]; exact (Below.refl _ _).alloc (Nat.le_refl _) _
              have hs7 : Str W7 W6.heap.size 54 [.int .i64 ph.dst, .slice vA m vc] := by rw [← hW7]; exact World.alloc_heap_new W6 _
              have HW7 := Lib.hid hW7
              have HS7 := Lib.hid hs7
              have HP7 := Lib.hid (HP6.out.keep hz6 hb7)
              have hz7 : M ≤ W7.heap.size := by have := hb7.size; omega
              have HPC := Lib.hid (show phiC M W7 [.int .i64 ph.dst, .slice vA m vc] (fewPhi ph) from ⟨_, rfl, by
                show RowsOwn M W7 72 2 inC (.slice vA m vc) (ph.ins.take 6)
                rw [HTI.out]
                exact (hr6.below hb7 (fun _ _ h => h)).base (by have := HBI.out.size; omega) (fun _ _ h => h)⟩)
              obtain ⟨cs, q1, q2, q3⟩ := HP7.out.phis
              have HQ2 := Lib.hid q2
              rw [HLP.out] at q2
              have HQ1 := Lib.hid q1
              have HQ3 := Lib.hid q3
              have HQN := Lib.hid q2
              clear hb7 hs7 hW7 hr6 q1 q2 q3 hb6
              go_wp2_with (at_builtin; rw [HW7.out]; refine wpList_appendM rfl _ _ _ rfl M 54 i1 (.agg #[.int .i64 0, .slice none 0 0]) 2 32 Try.underlying31 HI1.out HY0.out HY1.out HY2.out rfl (by decide) vP n cs.flatten rfl HQN.out ⟨W6.heap.size, 0, none⟩ [.int .i64 ph.dst, .slice vA m vc] rfl rfl ?news ?one (by omega) (by omega) (by omega) ?_)
              case news =>
                intro j u hj
                try rw [Go.Proofs.Ytdfehpcbcgbidaa.Mem.at_add0]
                rw [HS7.out.cell j]
                exact hj
              case one => intro u hu; simp only [List.mem_cons, List.not_mem_nil, or_false] at hu; rcases hu with rfl | rfl <;> rfl
              intro v8 w8 hr8 hg8 hm8
              obtain ⟨bA, bc, rfl⟩ := own_form hr8
              rw [← HLP.out] at hr8
              have hp8 := PartAt.phi HP7.out (Nat.le_refl _) hz7 HQ1.out HQ3.out HQ2.out hr8 hg8 rfl HPC.out
              have hy8 := HP7.out.ybox.kept hg8 (HP7.out.ybox.not_row (by decide) HQ2.out)
              have t0 : w8.cell? ⟨M + 1, 0, none⟩ = some vP := hy8.cell 0
              have t3 := hy8.frozen 0
              rw [HLP.out, ← HTP.out] at hp8
              have HP8 := Lib.hid hp8
              clear hp8 hy8 hr8 hg8 hm8 t1 t2
              go_wp2_with fail
              go_roundw
              case rel => exact ⟨n + 1, _, by omega, by omega, by go_num, by simpa using HP8.out⟩
              case measure => simp [intOf]; omega
          · have HPX := Lib.hid (show PartAt M wo M xs vP (.slice none 0 0) x.term.kind (.slice p3 x.term.args.length c3) (.slice p4 x.term.to.length c4) x.term.imm ((x.phis.take 8).map fewPhi) [] wi by
              rcases Nat.lt_or_ge n 8 with h | h
              · have e : x.phis.take 8 = x.phis.take n := by rw [List.take_of_length_le (by omega), List.take_of_length_le (by omega)]
                rw [e]
                exact HPI.out
              · have e : n = 8 := by omega
                subst e
                exact HPI.out)
            rcases (show (n < x.phis.length ∧ ¬ n < 8) ∨ ¬ n < x.phis.length by omega) with ⟨hltn, hlt8⟩ | hltn
            all_goals
              clear hgo
              have hyv := HPX.out.ybox.lt
              clear HPA HPI HFA
              go_wp2_with fail
              go_loopw [9, 10] (fun i _ wr => ∃ (n2 : Nat) (vI : Value), n2 ≤ x.ins.length ∧ n2 ≤ 40 ∧ i = .int .i64 n2 ∧ PartAt M wo M xs vP vI x.term.kind (.slice p3 x.term.args.length c3) (.slice p4 x.term.to.length c4) x.term.imm ((x.phis.take 8).map fewPhi) ((x.ins.take n2).map fewIns) wr) (fun i _ _ => 40 - (intOf i).toNat)
              case atStart => exact ⟨0, _, by omega, by omega, rfl, HPX.out⟩
              case round =>
                obtain ⟨n2, vI, hn2, hn40, rfl, hpa⟩ := hrel
                obtain ⟨wk, rfl⟩ : ∃ wk : World, wk = wr := ⟨_, rfl⟩
                have x1 : wk.cell? ⟨M, 1, none⟩ = some (.slice p1 x.ins.length c1) := by have := hpa.xbox.cell 1; rw [← HXS.out] at this; exact this
                have hbk := HFO.out.below.trans (hpa.below.mono (show w.heap.size ≤ M by omega))
                have hzk := hpa.below.size
                have hybk := hpa.ybox.lt
                rw [hM] at hzk
                have HPI := Lib.hid hpa
                have HBk := Lib.hid hbk
                clear hpa hbk
                by_cases hgo : n2 < x.ins.length ∧ n2 < 40
                · obtain ⟨hltm, hlt40⟩ := hgo
                  · have HTP := Lib.hid (show (x.ins.take (n2 + 1)).map fewIns = (x.ins.take n2).map fewIns ++ [fewIns x.ins[n2]] by rw [List.take_succ_eq_append_getElem hltm, List.map_append]; rfl)
                    have HLP := Lib.hid (show ((x.ins.take n2).map fewIns).length = n2 by rw [List.length_map, List.length_take]; omega)
                    obtain ⟨A', c', bP, oP, e, u1, u2, u3, u4⟩ := HQ1.out
                    injection e with e1 _ e3
                    subst e1 e3
                    have e1 := u3 (by omega)
                    subst e1
                    unfold maxLen at u2
                    obtain ⟨y0, y1, y2, ⟨vG, y3, hrow⟩, y4⟩ := u4 n2 hltm
                    have HROW := Lib.hid hrow
                    obtain ⟨pI, cI, rfl, v1, v2, v4⟩ := hrow
                    unfold maxLen at v2
                    have y0 := cell_keep HBk.out (Nat.le_refl _) y0
                    have y1 := cell_keep HBk.out (Nat.le_refl _) y1
                    have y2 := cell_keep HBk.out (Nat.le_refl _) y2
                    have y3 := cell_keep HBk.out (Nat.le_refl _) y3
                    have y4 := cell_keep HBk.out (Nat.le_refl _) y4
                    clear u3 u4 v4
                    generalize hL1 : (x.ins.take n2).map fewIns = L1 at *
                    have HL1 := Lib.hid hL1
                    clear hL1
                    generalize x.ins[n2] = ph at *
                    go_upto_region 17 with (fail)
                    obtain ⟨W3, hW3⟩ : ∃ W3, wk.alloc (.cells #[.int .i64 ph.op, .int .i64 ph.dst, .int .i64 ph.two, .slice pI ph.args.length cI, .int .i32 ph.imm] 36) = W3 := ⟨_, rfl⟩
                    rw [hW3]
                    have hb3 : Below wk.heap.size wk W3 := by rw [← hW3]; exact (Below.refl _ _).alloc (Nat.le_refl _) _
                    have hs3 : Str W3 wk.heap.size 36 [.int .i64 ph.op, .int .i64 ph.dst, .int .i64 ph.two, .slice pI ph.args.length cI, .int .i32 ph.imm] := by rw [← hW3]; exact World.alloc_heap_new wk _
                    have hz3e : W3.heap.size = wk.heap.size + 1 := by rw [← hW3]; simp
                    obtain ⟨pb, hpb⟩ : ∃ pb, wk.heap.size = pb := ⟨_, rfl⟩
                    rw [hpb] at hs3 ⊢
                    have hz3 : pb < W3.heap.size := by omega
                    clear hW3 hz3e x1 y0 y1 y2 y3 y4
                    have HP3 := Lib.hid (HPI.out.keep hzk hb3)
                    have HBI := Lib.hid hb3
                    have HPB := Lib.hid hpb
                    have HB3 := Lib.hid (HBk.out.trans (hb3.mono (by have := HBk.out.size; omega)))
                    have HS3 := Lib.hid hs3
                    obtain ⟨W4, hW4⟩ : ∃ W4, W3.alloc (.cells #[] 3) = W4 := ⟨_, rfl⟩
                    have hb4 : Below W3.heap.size W3 W4 := by rw [← hW4]; exact (Below.refl _ _).alloc (Nat.le_refl _) _
                    have hs4 := hs3.below hb4
                    have hr4 : W4.ownsRow W3.heap.size 3 1 (.slice (some ⟨W3.heap.size, 0, none⟩) 0 0) 0 [] := by rw [← hW4]; exact empty_row W3 3 1
                    have HW4 := Lib.hid hW4
                    have HR4 := Lib.hid hr4
                    have HB4 := Lib.hid (HB3.out.trans (hb4.mono (by have := HB3.out.size; omega)))
                    have hz4 := hb4.size
                    have g1 : (W3.alloc (.cells #[] 3)).cell? ⟨pb, 3, none⟩ = some (.slice pI ph.args.length cI) := by rw [hW4]; exact hs4.cell 3
                    clear hb3 hs3 hb4 hs4 hr4 hW4 hpb
                    obtain ⟨m, hm⟩ : ∃ m : Nat, min ph.args.length 6 = m := ⟨_, rfl⟩
                    have hmin : min (ph.args.length : Int) 6 = (m : Int) := by omega
                    have hm1 : m ≤ ph.args.length := by omega
                    have hm6 : m ≤ 6 := by omega
                    have HTI := Lib.hid (show ph.args.take 6 = ph.args.take m by rw [← hm, List.take_eq_take_min]; congr 1; omega)
                    clear hm
                    have HNC := Lib.hid (numCells_from HROW.out HB4.out hm1)
                    have HNM := Lib.hid (show (ph.args.take m).length = m by rw [List.length_take]; omega)
                    have HNL := Lib.hid (show ((ph.args.take m).map (Value.int .i64)).length = m * 1 by rw [numCells_len, HNM.out])
                    clear u1 u2
                    go_wp2_with (at_builtin; rw [HW4.out]; refine wpList_copy0 rfl _ _ _ rfl rfl W3.heap.size 3 i4 (.int .i64 0) 1 8 Try.underlying28 HI4.out HT0.out HT1.out HT2.out rfl (by decide) (.slice (some ⟨W3.heap.size, 0, none⟩) 0 0) rfl HR4.out pI m cI rfl ((ph.args.take m).map (Value.int .i64)) HNL.out HNC.out (numCells_one _) (by omega) (by omega) hz4 ?_)
                    intro v5 w5 hr5 hg5
                    obtain ⟨vA, vc, rfl⟩ := own_form hr5
                    have hb5 : Below W3.heap.size W3 w5 := Go.Proofs.Ytdfehpcbcgbidaa.Rf.below_own (show Below W3.heap.size W3 W4 by rw [← HW4.out]; exact (Below.refl _ _).alloc (Nat.le_refl _) _) hz4 hg5 (fun g hg => (HR4.out.lt g hg).1)
                    have hs5 := HS3.out.below hb5
                    have g1 : w5.cell? ⟨pb, 3, none⟩ = some (.slice pI ph.args.length cI) := hs5.cell 3
                    have g2 := hs5.frozen 3
                    have HS5 := Lib.hid hs5
                    have HB5 := Lib.hid hb5
                    have HR5 := Lib.hid (show OwnInts W3.heap.size w5 (.slice vA m vc) (ph.args.take m) by unfold OwnInts; rw [HNM.out]; first | exact hr5 | (rw [List.map_take]; exact hr5))
                    clear hs5 hb5 hr5 hg5
                    go_upto_region 18 with (fail)
                    obtain ⟨W6, hW6⟩ : ∃ W6, w5.setCell ⟨pb, 3, none⟩ (.slice vA m vc) = W6 := ⟨_, rfl⟩
                    rw [hW6]
                    have hs6 : Str W6 pb 36 [.int .i64 ph.op, .int .i64 ph.dst, .int .i64 ph.two, .slice vA m vc, .int .i32 ph.imm] := by rw [← hW6]; exact HS5.out.set 3 _
                    have hb6 : Below wk.heap.size wk W6 := by
                      rw [← hW6]
                      exact (HBI.out.trans (HB5.out.mono (by have := HBI.out.size; omega))).setCell (p := ⟨pb, 3, none⟩) (by show wk.heap.size ≤ pb; rw [HPB.out]; exact Nat.le_refl _) _
                    have hr6 : OwnInts W3.heap.size W6 (.slice vA m vc) (ph.args.take m) := by
                      rw [← hW6]
                      exact World.ownsRow.kept HR5.out (setCell_grownBy w5 ⟨pb, 3, none⟩ (.slice vA m vc)) (noRow_str HS5.out (by decide) _ _ _ _ _ HR5.out)
                    have HP6 := Lib.hid (HPI.out.keep hzk hb6)
                    have t0 : W6.cell? ⟨M + 1, 1, none⟩ = some vI := HP6.out.ybox.cell 1
                    have t1 : W6.cell? ⟨pb, 0, none⟩ = some (.int .i64 ph.op) := hs6.cell 0
                    have t2 : W6.cell? ⟨pb, 1, none⟩ = some (.int .i64 ph.dst) := hs6.cell 1
                    have t3 : W6.cell? ⟨pb, 2, none⟩ = some (.int .i64 ph.two) := hs6.cell 2
                    have t4 : W6.cell? ⟨pb, 3, none⟩ = some (.slice vA m vc) := hs6.cell 3
                    have t5 : W6.cell? ⟨pb, 4, none⟩ = some (.int .i32 ph.imm) := hs6.cell 4
                    have hz6 : M ≤ W6.heap.size := by have := hb6.size; omega
                    clear hs6 g1 g2 hW6
                    obtain ⟨W7, hW7⟩ : ∃ W7, W6.alloc (.cells #[.int .i64 ph.op, .int .i64 ph.dst, .int .i64 ph.two, .slice vA m vc, .int .i32 ph.imm] 36) = W7 := ⟨_, rfl⟩
                    have hb7 : Below W6.heap.size W6 W7 := by rw [← hW7]; exact (Below.refl _ _).alloc (Nat.le_refl _) _
                    have hs7 : Str W7 W6.heap.size 36 [.int .i64 ph.op, .int .i64 ph.dst, .int .i64 ph.two, .slice vA m vc, .int .i32 ph.imm] := by rw [← hW7]; exact World.alloc_heap_new W6 _
                    have HW7 := Lib.hid hW7
                    have HS7 := Lib.hid hs7
                    have HP7 := Lib.hid (HP6.out.keep hz6 hb7)
                    have hz7 : M ≤ W7.heap.size := by have := hb7.size; omega
                    have HPC := Lib.hid (show insC M W7 [.int .i64 ph.op, .int .i64 ph.dst, .int .i64 ph.two, .slice vA m vc, .int .i32 ph.imm] (fewIns ph) from ⟨_, rfl, by
                      show OwnInts M W7 (.slice vA m vc) (ph.args.take 6)
                      rw [HTI.out]
                      exact own_base (own_below hr6 hb7) (by have := HBI.out.size; omega)⟩)
                    obtain ⟨cs, q1, q2, q3⟩ := HP7.out.ins
                    have HQ2 := Lib.hid q2
                    rw [HLP.out] at q2
                    have HQ1' := Lib.hid q1
                    have HQ3' := Lib.hid q3
                    have HQN := Lib.hid q2
                    clear hb7 hs7 hW7 hr6 q1 q2 q3 hb6
                    go_wp2_with (at_builtin; rw [HW7.out]; refine wpList_appendM rfl _ _ _ rfl M 36 i2 (.agg #[.int .i64 0, .int .i64 0, .int .i64 0, .slice none 0 0, .int .i32 0]) 5 56 Try.underlying32 HI2.out HX0.out HX1.out HX2.out rfl (by decide) vI n2 cs.flatten rfl HQN.out ⟨W6.heap.size, 0, none⟩ [.int .i64 ph.op, .int .i64 ph.dst, .int .i64 ph.two, .slice vA m vc, .int .i32 ph.imm] rfl rfl ?news ?one (by omega) (by omega) (by omega) ?_)
                    case news =>
                      intro j u hj
                      try rw [Go.Proofs.Ytdfehpcbcgbidaa.Mem.at_add0]
                      rw [HS7.out.cell j]
                      exact hj
                    case one => intro u hu; simp only [List.mem_cons, List.not_mem_nil, or_false] at hu; rcases hu with rfl | rfl | rfl | rfl | rfl <;> rfl
                    intro v8 w8 hr8 hg8 hm8
                    obtain ⟨bA, bc, rfl⟩ := own_form hr8
                    rw [← HLP.out] at hr8
                    have hp8 := PartAt.in_ HP7.out (Nat.le_refl _) hz7 HQ1'.out HQ3'.out HQ2.out hr8 hg8 rfl HPC.out
                    have hy8 := HP7.out.ybox.kept hg8 (HP7.out.ybox.not_row (by decide) HQ2.out)
                    have t0 : w8.cell? ⟨M + 1, 1, none⟩ = some vI := hy8.cell 1
                    have t3 := hy8.frozen 1
                    rw [HLP.out, ← HTP.out] at hp8
                    have HP8 := Lib.hid hp8
                    clear hp8 hy8 hr8 hg8 hm8 t1 t2 t4 t5
                    go_wp2_with fail
                    go_roundw
                    case rel => exact ⟨n2 + 1, _, by omega, by omega, by go_num, by simpa using HP8.out⟩
                    case measure => simp [intOf]; omega
                · have HPZ := Lib.hid (show PartAt M wo M xs vP vI x.term.kind (.slice p3 x.term.args.length c3) (.slice p4 x.term.to.length c4) x.term.imm ((x.phis.take 8).map fewPhi) ((x.ins.take 40).map fewIns) wk by
                    rcases Nat.lt_or_ge n2 40 with h | h
                    · have e : x.ins.take 40 = x.ins.take n2 := by rw [List.take_of_length_le (by omega), List.take_of_length_le (by omega)]
                      rw [e]
                      exact HPI.out
                    · have e : n2 = 40 := by omega
                      subst e
                      exact HPI.out)
                  rcases (show (n2 < x.ins.length ∧ ¬ n2 < 40) ∨ ¬ n2 < x.ins.length by omega) with ⟨hltm, hlt40⟩ | hltm
                  all_goals
                    clear hgo
                    have x3 : wk.cell? ⟨M, 3, none⟩ = some (.slice p3 x.term.args.length c3) := by have := HPZ.out.xbox.cell 3; rw [← HXS.out] at this; exact this
                    have hzk := HPZ.out.below.size
                    rw [hM] at hzk
                    have hyk := HPZ.out.ybox.lt
                    obtain ⟨V4, hV4⟩ : ∃ V4, wk.alloc (.cells #[] 3) = V4 := ⟨_, rfl⟩
                    have hb4 : Below wk.heap.size wk V4 := by rw [← hV4]; exact (Below.refl _ _).alloc (Nat.le_refl _) _
                    have hr4 : V4.ownsRow wk.heap.size 3 1 (.slice (some ⟨wk.heap.size, 0, none⟩) 0 0) 0 [] := by rw [← hV4]; exact empty_row wk 3 1
                    have g1 : (wk.alloc (.cells #[] 3)).cell? ⟨M, 3, none⟩ = some (.slice p3 x.term.args.length c3) := by rw [hV4]; exact cell_keep hb4 (Nat.le_refl _) x3
                    have HV4' := Lib.hid hV4
                    have HR4' := Lib.hid hr4
                    have HQ4' := Lib.hid (HQ3.out)
                    obtain ⟨A', c', e, v1, v2, v4⟩ := HQ3.out
                    injection e with e1 _ e3
                    subst e1 e3
                    unfold maxLen at v2
                    have hz4 := hb4.size
                    obtain ⟨ma, hm⟩ : ∃ ma : Nat, min x.term.args.length 6 = ma := ⟨_, rfl⟩
                    have hmin : min (x.term.args.length : Int) 6 = (ma : Int) := by omega
                    have hm1 : ma ≤ x.term.args.length := by omega
                    have hm6 : ma ≤ 6 := by omega
                    have HTIa := Lib.hid (show x.term.args.take 6 = x.term.args.take ma by rw [← hm, List.take_eq_take_min]; congr 1; omega)
                    clear hm
                    have HNC := Lib.hid (numCells_from HQ4'.out ((HFO.out.below.trans (HPZ.out.below.mono (show w.heap.size ≤ M by omega))).trans (hb4.mono (by omega))) hm1)
                    have HNMa := Lib.hid (show (x.term.args.take ma).length = ma by rw [List.length_take]; omega)
                    have HNL := Lib.hid (show ((x.term.args.take ma).map (Value.int .i64)).length = ma * 1 by rw [numCells_len, HNMa.out])
                    have HB4' := Lib.hid hb4
                    clear hb4 hr4 hV4 x3 v4
                    go_wp2_with (at_builtin; rw [HV4'.out]; refine wpList_copy0 rfl _ _ _ rfl rfl wk.heap.size 3 i4 (.int .i64 0) 1 8 Try.underlying28 HI4.out HT0.out HT1.out HT2.out rfl (by decide) (.slice (some ⟨wk.heap.size, 0, none⟩) 0 0) rfl HR4'.out p3 ma c3 rfl ((x.term.args.take ma).map (Value.int .i64)) HNL.out HNC.out (numCells_one _) (by omega) (by omega) hz4 ?_)
                    intro v5 w5a hr5 hg5
                    obtain ⟨zaA, zac, rfl⟩ := own_form hr5
                    have hb5 : Below wk.heap.size wk w5a := Go.Proofs.Ytdfehpcbcgbidaa.Rf.below_own HB4'.out hz4 hg5 (fun g hg => (HR4'.out.lt g hg).1)
                    have hr5' : OwnInts wk.heap.size w5a (.slice zaA ma zac) (x.term.args.take 6) := by rw [HTIa.out]; unfold OwnInts; rw [HNMa.out]; first | exact hr5 | (rw [List.map_take]; exact hr5)
                    have hq5 := HPZ.out.keep hzk hb5
                    have g1 := hq5.ybox.cell 3
                    have g2 := hq5.ybox.frozen 3
                    simp only [List.getElem?_cons_succ, List.getElem?_cons_zero] at g1
                    have HRa := Lib.hid (World.ownsRow.kept hr5' (setCell_grownBy w5a ⟨M + 1, 3, none⟩ (.slice zaA ma zac)) (noRow_str hq5.ybox (by decide) _ _ _ _ _ hr5'))
                    have HQa := Lib.hid (hq5.arg (Nat.le_refl _) (.slice zaA ma zac))
                    clear hq5 hr5 hr5' hb5 hg5 hmin
                    go_upto_region 20 with (fail)
                    obtain ⟨Y1, hW6⟩ : ∃ W6, w5a.setCell ⟨M + 1, 3, none⟩ (.slice zaA ma zac) = W6 := ⟨_, rfl⟩
                    rw [hW6] at HRa HQa  ⊢
                    clear hW6 g1 g2
                    have x3 : Y1.cell? ⟨M, 4, none⟩ = some (.slice p4 x.term.to.length c4) := by have := HQa.out.xbox.cell 4; rw [← HXS.out] at this; exact this
                    have hzk := HQa.out.below.size
                    rw [hM] at hzk
                    have hyk := HQa.out.ybox.lt
                    obtain ⟨V4, hV4⟩ : ∃ V4, Y1.alloc (.cells #[] 3) = V4 := ⟨_, rfl⟩
                    have hb4 : Below Y1.heap.size Y1 V4 := by rw [← hV4]; exact (Below.refl _ _).alloc (Nat.le_refl _) _
                    have hr4 : V4.ownsRow Y1.heap.size 3 1 (.slice (some ⟨Y1.heap.size, 0, none⟩) 0 0) 0 [] := by rw [← hV4]; exact empty_row Y1 3 1
                    have g1 : (Y1.alloc (.cells #[] 3)).cell? ⟨M, 4, none⟩ = some (.slice p4 x.term.to.length c4) := by rw [hV4]; exact cell_keep hb4 (Nat.le_refl _) x3
                    have HV4' := Lib.hid hV4
                    have HR4' := Lib.hid hr4
                    have HQ4' := Lib.hid (HQ4.out)
                    obtain ⟨A', c', e, v1, v2, v4⟩ := HQ4.out
                    injection e with e1 _ e3
                    subst e1 e3
                    unfold maxLen at v2
                    have hz4 := hb4.size
                    obtain ⟨mt, hm⟩ : ∃ mt : Nat, min x.term.to.length 70 = mt := ⟨_, rfl⟩
                    have hmin : min (x.term.to.length : Int) 70 = (mt : Int) := by omega
                    have hm1 : mt ≤ x.term.to.length := by omega
                    have hm6 : mt ≤ 70 := by omega
                    have HTIt := Lib.hid (show x.term.to.take 70 = x.term.to.take mt by rw [← hm, List.take_eq_take_min]; congr 1; omega)
                    clear hm
                    have HNC := Lib.hid (numCells_from HQ4'.out ((HFO.out.below.trans (HQa.out.below.mono (show w.heap.size ≤ M by omega))).trans (hb4.mono (by omega))) hm1)
                    have HNMt := Lib.hid (show (x.term.to.take mt).length = mt by rw [List.length_take]; omega)
                    have HNL := Lib.hid (show ((x.term.to.take mt).map (Value.int .i64)).length = mt * 1 by rw [numCells_len, HNMt.out])
                    have HB4' := Lib.hid hb4
                    clear hb4 hr4 hV4 x3 v4
                    go_wp2_with (at_builtin; rw [HV4'.out]; refine wpList_copy0 rfl _ _ _ rfl rfl Y1.heap.size 3 i4 (.int .i64 0) 1 8 Try.underlying28 HI4.out HT0.out HT1.out HT2.out rfl (by decide) (.slice (some ⟨Y1.heap.size, 0, none⟩) 0 0) rfl HR4'.out p4 mt c4 rfl ((x.term.to.take mt).map (Value.int .i64)) HNL.out HNC.out (numCells_one _) (by omega) (by omega) hz4 ?_)
                    intro v5 w5t hr5 hg5
                    obtain ⟨ztA, ztc, rfl⟩ := own_form hr5
                    have hb5 : Below Y1.heap.size Y1 w5t := Go.Proofs.Ytdfehpcbcgbidaa.Rf.below_own HB4'.out hz4 hg5 (fun g hg => (HR4'.out.lt g hg).1)
                    have hr5' : OwnInts Y1.heap.size w5t (.slice ztA mt ztc) (x.term.to.take 70) := by rw [HTIt.out]; unfold OwnInts; rw [HNMt.out]; first | exact hr5 | (rw [List.map_take]; exact hr5)
                    have hq5 := HQa.out.keep hzk hb5
                    have g1 := hq5.ybox.cell 4
                    have g2 := hq5.ybox.frozen 4
                    simp only [List.getElem?_cons_succ, List.getElem?_cons_zero] at g1
                    have HRt := Lib.hid (World.ownsRow.kept hr5' (setCell_grownBy w5t ⟨M + 1, 4, none⟩ (.slice ztA mt ztc)) (noRow_str hq5.ybox (by decide) _ _ _ _ _ hr5'))
                    have HQt := Lib.hid (hq5.to_ (Nat.le_refl _) (.slice ztA mt ztc))
                    have HRb := Lib.hid (World.ownsRow.kept (own_below HRa.out hb5) (setCell_grownBy w5t ⟨M + 1, 4, none⟩ (.slice ztA mt ztc)) (noRow_str hq5.ybox (by decide) _ _ _ _ _ (own_below HRa.out hb5)))
                    clear hq5 hr5 hr5' hb5 hg5 hmin
                    go_upto_region 21 with (fail)
                    obtain ⟨Y2, hW6⟩ : ∃ W6, w5t.setCell ⟨M + 1, 4, none⟩ (.slice ztA mt ztc) = W6 := ⟨_, rfl⟩
                    rw [hW6] at HRt HQt HRb ⊢
                    clear hW6 g1 g2
                    have hzY := HQt.out.below.size
                    rw [hM] at hzY
                    have hyY := HQt.out.ybox.lt
                    have hwY := HQt.out.below
                    rw [← hM] at hwY
                    have HFY := Lib.hid (HFO.out.keep hwY)
                    rw [hM] at hwY
                    have t6 : Y2.cell? ⟨w.heap.size + 1 + 1, 1, none⟩ = some vB := HFY.out.obox.cell 1
                    have t0 : Y2.cell? ⟨M + 1, 0, none⟩ = some vP := HQt.out.ybox.cell 0
                    have t1 : Y2.cell? ⟨M + 1, 1, none⟩ = some vI := HQt.out.ybox.cell 1
                    have t2 : Y2.cell? ⟨M + 1, 2, none⟩ = some (.int .i64 x.term.kind) := HQt.out.ybox.cell 2
                    have t3 : Y2.cell? ⟨M + 1, 3, none⟩ = some (.slice zaA ma zac) := HQt.out.ybox.cell 3
                    have t4 : Y2.cell? ⟨M + 1, 4, none⟩ = some (.slice ztA mt ztc) := HQt.out.ybox.cell 4
                    have t5 : Y2.cell? ⟨M + 1, 5, none⟩ = some (.int .i32 x.term.imm) := HQt.out.ybox.cell 5
                    obtain ⟨W7, hW7⟩ : ∃ W7, Y2.alloc (.cells #[vP, vI, .int .i64 x.term.kind, .slice zaA ma zac, .slice ztA mt ztc, .int .i32 x.term.imm] 34) = W7 := ⟨_, rfl⟩
                    have hb7 : Below Y2.heap.size Y2 W7 := by rw [← hW7]; exact (Below.refl _ _).alloc (Nat.le_refl _) _
                    have hs7 : Str W7 Y2.heap.size 34 [vP, vI, .int .i64 x.term.kind, .slice zaA ma zac, .slice ztA mt ztc, .int .i32 x.term.imm] := by rw [← hW7]; exact World.alloc_heap_new Y2 _
                    have HW7 := Lib.hid hW7
                    have HS7 := Lib.hid hs7
                    have HF7 := Lib.hid (HFY.out.keep hb7)
                    have HQ7 := Lib.hid (HQt.out.keep hzY hb7)
                    have hz7 : w.heap.size ≤ W7.heap.size := by have := hb7.size; omega
                    have hM1 : w.heap.size ≤ M := by omega
                    have HPC := Lib.hid (show blockC w.heap.size W7 [vP, vI, .int .i64 x.term.kind, .slice zaA ma zac, .slice ztA mt ztc, .int .i32 x.term.imm] (fewB x) from
                      ⟨_, _, _, _, rfl, HQ7.out.phis.base hM1 (phiC.base hM1), HQ7.out.ins.base hM1 (insC.base hM1), own_base (own_below HRb.out hb7) (by omega), own_base (own_below HRt.out hb7) (by have := HQ7.out.below; omega)⟩)
                    obtain ⟨cs, q1, q2, q3⟩ := HF7.out.rows
                    have HQ2 := Lib.hid q2
                    rw [HLN.out] at q2
                    have HQ1' := Lib.hid q1
                    have HQ3' := Lib.hid q3
                    have HQN := Lib.hid q2
                    obtain ⟨vPA, vPc, hvP⟩ := HQ7.out.phis.form
                    obtain ⟨vIA, vIc, hvI⟩ := HQ7.out.ins.form
                    have HVP := Lib.hid hvP
                    have HVI := Lib.hid hvI
                    clear hb7 hs7 hW7 q1 q2 q3 hwY hvP hvI
                    go_wp2_with (at_builtin; rw [HW7.out]; refine wpList_appendM rfl _ _ _ rfl w.heap.size 34 i3 (.agg #[.slice none 0 0, .slice none 0 0, .int .i64 0, .slice none 0 0, .slice none 0 0, .int .i32 0]) 6 112 Try.underlying22 HI3.out HU0.out HU1.out HU2.out rfl (by decide) vB k cs.flatten rfl HQN.out ⟨Y2.heap.size, 0, none⟩ [vP, vI, .int .i64 x.term.kind, .slice zaA ma zac, .slice ztA mt ztc, .int .i32 x.term.imm] rfl rfl ?news ?one (by omega) (by omega) (by omega) ?_)
                    case news =>
                      intro j u hj
                      try rw [Go.Proofs.Ytdfehpcbcgbidaa.Mem.at_add0]
                      rw [HS7.out.cell j]
                      exact hj
                    case one => intro u hu; simp only [List.mem_cons, List.not_mem_nil, or_false] at hu; rcases hu with rfl | rfl | rfl | rfl | rfl | rfl <;> first | rfl | (rw [HVP.out]; rfl) | (rw [HVI.out]; rfl)
                    intro v8 w8 hr8 hg8 hm8
                    obtain ⟨bA, bc, rfl⟩ := own_form hr8
                    rw [← HLN.out] at hr8
                    have hp8 := FewAt.block HF7.out HQ1'.out HQ3'.out HQ2.out hr8 hg8 rfl HPC.out
                    have ho8 := HF7.out.obox.kept hg8 (HF7.out.obox.not_row (by decide) HQ2.out)
                    have t0 : w8.cell? ⟨w.heap.size + 1 + 1, 1, none⟩ = some vB := ho8.cell 1
                    have t3 : w8.frozen? ⟨w.heap.size + 1 + 1, 1, none⟩ = false := ho8.frozen 1
                    rw [HLN.out, ← HTK.out] at hp8
                    have HP8 := Lib.hid hp8
                    clear hp8 ho8 hr8 hg8 hm8 t1 t2 t4 t5 t6
                    go_wp2_with fail
                    go_roundw
                    case rel => exact ⟨k + 1, _, by omega, by omega, by go_num, HP8.out⟩
                    case measure => simp [intOf]; omega
      · have HFZ := Lib.hid (show FewAt w params (.slice A bs.length cB) vB (fewP bs) wo by
          have e : k = 9 := by omega
          subst e
          exact HFO.out)
        obtain ⟨zA, zc, hzf⟩ := HFZ.out.rows.form
        subst hzf
        generalize hL : fewP bs = L at HFZ ⊢
        have HL := Lib.hid hL
        clear hL
        have g1 : wo.cell? ⟨w.heap.size + 1 + 1, 0, none⟩ = some (.int .i64 params) := HFZ.out.obox.cell 0
        have g2 : wo.cell? ⟨w.heap.size + 1 + 1, 1, none⟩ = some (.slice zA L.length zc) := HFZ.out.obox.cell 1
        have g3 : wo.cell? ⟨w.heap.size + 1, 0, none⟩ = some (.int .i64 0) := HFZ.out.rbox.cell 0
        have g4 : wo.cell? ⟨w.heap.size + 1, 1, none⟩ = some (.slice none 0 0) := HFZ.out.rbox.cell 1
        have g5 := HFZ.out.rbox.frozen 0
        have g6 := HFZ.out.rbox.frozen 1
        clear HBS HFA
        go_wp2_with fail
        refine ⟨rfl, .agg #[.int .i64 params, .slice zA L.length zc], ?_, ?_⟩
        · simp only [results]
          go_simp
        · have hL := HL.out
          subst hL
          exact ⟨zA, zc, rfl, HFZ.out.done _ _⟩
    · have HFZ := Lib.hid (show FewAt w params (.slice A bs.length cB) vB (fewP bs) wo by
        have e : bs.take 9 = bs.take k := by rw [List.take_of_length_le (by omega), List.take_of_length_le (by omega)]
        unfold fewP
        rw [e]
        exact HFO.out)
      obtain ⟨zA, zc, hzf⟩ := HFZ.out.rows.form
      subst hzf
      generalize hL : fewP bs = L at HFZ ⊢
      have HL := Lib.hid hL
      clear hL
      have g1 : wo.cell? ⟨w.heap.size + 1 + 1, 0, none⟩ = some (.int .i64 params) := HFZ.out.obox.cell 0
      have g2 : wo.cell? ⟨w.heap.size + 1 + 1, 1, none⟩ = some (.slice zA L.length zc) := HFZ.out.obox.cell 1
      have g3 : wo.cell? ⟨w.heap.size + 1, 0, none⟩ = some (.int .i64 0) := HFZ.out.rbox.cell 0
      have g4 : wo.cell? ⟨w.heap.size + 1, 1, none⟩ = some (.slice none 0 0) := HFZ.out.rbox.cell 1
      have g5 := HFZ.out.rbox.frozen 0
      have g6 := HFZ.out.rbox.frozen 1
      clear HBS HFA
      go_wp2_with fail
      refine ⟨rfl, .agg #[.int .i64 params, .slice zA L.length zc], ?_, ?_⟩
      · simp only [results]
        go_simp
      · have hL := HL.out
        subst hL
        exact ⟨zA, zc, rfl, HFZ.out.done _ _⟩
end Go.Proofs.Ytdfehpcbcgbidaa.Kc
/- CheckTells: its walk, over what is told of its callees. -/
namespace Go.Proofs.Ytdfehpcbcgbidaa.Kc
open Go.ChangeShapes Go.WideShapes Go.ChangeAt Go.RowKit Go.Maps Go.Proofs.Ytdfehpcbcgbidaa.Mem Go.Proofs.Ytdfehpcbcgbidaa.Br Go.Proofs.Ytdfehpcbcgbidaa.Gr Go.Proofs.Ytdfehpcbcgbidaa.Rf
set_option linter.unusedVariables false
theorem few_len (bs : List PBlock) : (fewP bs).length ≤ 9 := by unfold fewP; rw [List.length_map, List.length_take]; omega
theorem few_mem {bs : List PBlock} {x : PBlock} (h : x ∈ fewP bs) : ∃ y ∈ bs, x = fewB y := by
  obtain ⟨y, hy, rfl⟩ := List.mem_map.1 h
  exact ⟨y, List.mem_of_mem_take hy, rfl⟩
theorem few_size (bs : List PBlock) : ∀ k, k ≤ 9 → uptoP (fewP bs) k ≤ 49 * k := by
  intro k
  induction k with
  | zero => intro _; rw [uptoP_zero]; omega
  | succ k ih =>
    intro hk
    rcases Nat.lt_or_ge k (fewP bs).length with h | h
    · rw [uptoP_succ h]
      have := ih (by omega)
      have hs : sizeP (fewP bs)[k] ≤ 49 := by
        obtain ⟨y, hy, e⟩ := few_mem (List.getElem_mem h)
        rw [e]
        unfold sizeP fewB
        simp only [List.length_map, List.length_take]
        omega
      omega
    · have e : uptoP (fewP bs) (k + 1) = uptoP (fewP bs) k := by
        unfold uptoP
        rw [List.take_of_length_le (by omega), List.take_of_length_le (by omega)]
      rw [e]
      have := ih (by omega)
      omega
theorem few_wf {bs : List PBlock} (h : NumsP bs) : WfP (fewP bs) := by
  refine ⟨fun x hx p hp => ?_, fun x hx i hi => ?_, fun x hx v hv => ?_, fun k hk => ?_⟩
  · obtain ⟨y, hy, rfl⟩ := few_mem hx
    obtain ⟨q, hq, rfl⟩ := List.mem_map.1 hp
    have := h.phi y hy q (List.mem_of_mem_take hq)
    exact ⟨this.1, fun i hi => this.2 i (List.mem_of_mem_take hi)⟩
  · obtain ⟨y, hy, rfl⟩ := few_mem hx
    obtain ⟨q, hq, rfl⟩ := List.mem_map.1 hi
    have := h.ins y hy q (List.mem_of_mem_take hq)
    exact ⟨this.1, this.2.1, fun v hv => this.2.2 v (List.mem_of_mem_take hv)⟩
  · obtain ⟨y, hy, rfl⟩ := few_mem hx
    exact h.term y hy v (List.mem_of_mem_take hv)
  · have h9 := few_len bs
    have := few_size bs k (by omega)
    omega
theorem few_phi (bs : List PBlock) : ∀ x ∈ fewP bs, ∀ p ∈ x.phis, p.ins.length ≤ 100000 := by
  intro x hx p hp
  obtain ⟨y, hy, rfl⟩ := few_mem hx
  obtain ⟨q, hq, rfl⟩ := List.mem_map.1 hp
  show (q.ins.take 6).length ≤ _
  rw [List.length_take]; omega
set_option maxRecDepth 100000 in
set_option maxHeartbeats 2000000 in
theorem law3_of (hsame : ∀ (w : World) (params : Int) (A : Option Addr) (b0 c : Nat) (bs : List PBlock), (0 < bs.length → A = some ⟨b0, 0, none⟩) → BlocksAt w (.slice A bs.length c) bs → WfP bs → (∀ x ∈ bs, ∀ p ∈ x.phis, p.ins.length ≤ 100000) →
      Calls Try.prog 7 #[.agg #[.int .i64 params, .slice A bs.length c]] w (fun e w' => e = .returned (.bool true) ∧ Below w.heap.size w w'))
    (w : World) (params : Int) (fv : Value) (bs : List PBlock) (hbs : BlocksAt w fv bs) (hn : NumsP bs) :
    Calls Try.prog 3 #[.agg #[.int .i64 params, fv]] w (fun e w' => e = .returned (.bool true) ∧ Below w.heap.size w w') := by
  have HS := Lib.hid hsame
  have HN := Lib.hid hn
  have HBS := Lib.hid hbs
  have HV := Lib.hid (show ∃ A n c, fv = .slice A n c from by obtain ⟨A, c, _, _, e, _⟩ := hbs; exact ⟨A, _, c, e⟩)
  clear hsame hn hbs
  go_enter Try.func3, Try.ntmps3
  go_upto_region 1 with (fail)
  obtain ⟨W1, hW1⟩ : ∃ W1, w.alloc (.cells #[.int .i64 params, fv] 24) = W1 := ⟨_, rfl⟩
  rw [hW1]
  have hb1 : Below w.heap.size w W1 := by rw [← hW1]; exact (Below.refl _ _).alloc (Nat.le_refl _) _
  have hs1 : Str W1 w.heap.size 24 [.int .i64 params, fv] := by rw [← hW1]; exact World.alloc_heap_new w _
  have HB1 := Lib.hid hb1
  have HS1 := Lib.hid hs1
  have hz1 := hb1.size
  clear hW1 hb1 hs1
  go_wp2_with fail
  refine (shown_any W1).mono ?_
  rintro e W2 ⟨rfl, hb2⟩
  have HB2 := Lib.hid (HB1.out.trans (hb2.mono hz1))
  have hs2 := HS1.out.below hb2
  have f0 : W2.cell? ⟨w.heap.size, 0, none⟩ = some (.int .i64 params) := hs2.cell 0
  have f1 : W2.cell? ⟨w.heap.size, 1, none⟩ = some fv := hs2.cell 1
  have hz2 := HB2.out.size
  clear hb2 hs2
  go_wp2_with fail
  refine (few_any W2 params fv bs (HBS.out.keep HB2.out)).mono ?_
  rintro e W3 ⟨A, c, rfl, hb, hA, hb3⟩
  have HB3 := Lib.hid (HB2.out.trans (hb3.mono hz2))
  have HBL := Lib.hid hb
  have HA := Lib.hid hA
  have HW := Lib.hid (few_wf HN.out)
  have HP := Lib.hid (few_phi bs)
  generalize fewP bs = L at *
  clear hb hA hb3
  have hz3 := HB3.out.size
  go_wp2_with fail
  obtain ⟨g0, hg0⟩ : ∃ g0, 0 < L.length → A = some ⟨g0, 0, none⟩ := by
    rcases Nat.eq_zero_or_pos L.length with h | h
    · exact ⟨0, fun h' => by omega⟩
    · obtain ⟨g, e⟩ := HA.out h; exact ⟨g, fun _ => e⟩
  refine (HS.out W3 params A g0 c L hg0 HBL.out HW.out HP.out).mono ?_
  rintro e W4 ⟨rfl, hb4⟩
  have HB4 := Lib.hid (HB3.out.trans (hb4.mono hz3))
  clear hg0 hb4
  go_wp2
  go_ret
  exact ⟨rfl, HB4.out⟩
end Go.Proofs.Ytdfehpcbcgbidaa.Kc
