/- The document's answer of layer 3: jacquardref03.shape walked. -/
import Derived.Test.YtdfehpcbcgbidaaRF
import Derived.Deep.Cut
import Derived.Deep.DeepCutAuto
namespace Go.Proofs.Ytdfehpcbcgbidaa.Rf
open Go.ChangeShapes Go.WideShapes Go.ChangeAt Go.RowKit Go.Maps Go.Proofs.Ytdfehpcbcgbidaa.Mem Go.Proofs.Ytdfehpcbcgbidaa.Br Go.Proofs.Ytdfehpcbcgbidaa.Gr Go.Proofs.Ytdfehpcbcgbidaa.Kc
set_option linter.unusedVariables false
theorem row_len {α : Type} {w : World} {size : Nat} {R : World → Nat → Nat → α → Prop} {A : Option Addr} {n c : Nat} {l : List α} (h : RowAt w size R (.slice A n c) l) : n = l.length ∧ n ≤ 9223372036854775807 := by
  obtain ⟨A', c', b, o, e, h1, h2, _⟩ := h
  injection e with _ e2 e3
  subst e2 e3
  unfold maxLen at h2
  exact ⟨rfl, by omega⟩
/-- What lies there while one thing is looked at. -/
structure Sh (w : World) (params : Int) (fv : Value) (tA : Option Addr) (tl tc : Nat) (T : List PThing) (tb xb : Nat) (tv xv : List Value) (mv : Value) (mk : List Int) (m : List Bool) (f : Spots) (wr : World) : Prop where
  bools : Bools w.heap.size (w.heap.size + 2) wr m
  mark : MarkOf m f
  row : RowAt wr 4 ThingAt (.slice tA tl tc) T
  below : Below w.heap.size w wr
  func : Str wr w.heap.size 24 [.int .i64 params, fv]
  got : Str wr (w.heap.size + 1) 50 [.int .i64 0, .int .i64 0, .int .i64 0]
  thing : Str wr tb 87 tv
  block : Str wr xb 34 xv
  ints : Ints wr mv mk
section
variable {w : World} {params : Int} {fv : Value} {tA : Option Addr} {tl tc : Nat} {T : List PThing} {tb xb : Nat} {tv xv : List Value} {mv : Value} {mk : List Int} {m : List Bool} {f : Spots} {wr wr' : World}
theorem Sh.keep (h : Sh w params fv tA tl tc T tb xb tv xv mv mk m f wr) (hb : Below wr.heap.size wr wr') : Sh w params fv tA tl tc T tb xb tv xv mv mk m f wr' :=
  ⟨own_below h.bools hb, h.mark, RowAt.kept h.row (fun b o x hx => ThingAt.keep hb b o x hx), h.below.trans (hb.mono h.below.size), h.func.below hb, h.got.below hb, h.thing.below hb, h.block.below hb, h.ints.keep hb⟩
theorem Sh.store (h : Sh w params fv tA tl tc T tb xb tv xv mv mk m f wr) (ht : w.heap.size + 2 < tb) (hx : w.heap.size + 2 < xb) {n : Nat} (hn : n < 8192) (s : Int × Int) :
    Sh w params fv tA tl tc T tb xb tv xv mv mk (m.set n true) (noted f (n : Int) s) (wr.setCell ⟨w.heap.size + 2, n, none⟩ (.bool true)) := by
  obtain ⟨h1, h2⟩ := h.bools.store n true
  have key : ∀ {g : Nat} {t : TypeId} {vs : List Value}, Str wr g t vs → g ≠ w.heap.size + 2 → Str (wr.setCell ⟨w.heap.size + 2, n, none⟩ (.bool true)) g t vs := fun hs hne => hs.kept h2 (fun e => hne (Option.some.inj e))
  refine ⟨h1, ⟨by rw [List.length_set]; exact h.mark.1, fun k hk => ?_⟩, RowAt.kept h.row (fun b o x hx => h.bools.thing hx _), h.below.setCell (p := ⟨w.heap.size + 2, n, none⟩) (by show w.heap.size ≤ w.heap.size + 2; omega) _, key h.func (by omega), key h.got (by omega), key h.thing (by omega), key h.block (by omega), h.bools.ints h.ints _⟩
  rw [getD_set (by rw [h.mark.1]; exact hn)]
  unfold noted
  by_cases hkn : k = n
  · subst hkn; rw [if_pos rfl, if_pos rfl]; rfl
  · rw [if_neg hkn, if_neg (by omega)]; exact h.mark.2 k hk
end
theorem got_set {wr : World} {g : Nat} {a b c : Value} (h : Str wr g 50 [a, b, c]) (x y z : Int) : Str (((wr.setCell ⟨g, 0, none⟩ (.int .i64 x)).setCell ⟨g, 1, none⟩ (.int .i64 y)).setCell ⟨g, 2, none⟩ (.int .i64 z)) g 50 [.int .i64 x, .int .i64 y, .int .i64 z] := ((h.set 0 _).set 1 _).set 2 _
theorem got_ret {a : Act} {wr w : World} {g : Nat} {x y z : Int} (h : Str wr g 50 [.int .i64 x, .int .i64 y, .int .i64 z]) (hb : Below w.heap.size w wr) (ha : a.tmps[2]? = some (.pointer (some ⟨g, 0, none⟩))) (hd : a.defers = []) :
    bodyPost Try.prog Try.f41 (fun e w' => e = .returned (gotV (x, y, z)) ∧ Below w.heap.size w w') Exit.ret a wr := by
  have c0 : wr.cell? ⟨g, 0, none⟩ = some (.int .i64 x) := h.cell 0
  have c1 : wr.cell? ⟨g, 1, none⟩ = some (.int .i64 y) := h.cell 1
  have c2 : wr.cell? ⟨g, 2, none⟩ = some (.int .i64 z) := h.cell 2
  obtain ⟨tm, df⟩ := a
  have hd' : df = [] := hd
  subst hd'
  have ha' : tm[2]? = some (.pointer (some ⟨g, 0, none⟩)) := ha
  refine ⟨rfl, gotV (x, y, z), ?_, rfl, hb⟩
  simp only [results]
  go_simp
  rfl
theorem kinds (bs : List PBlock) (it : Item) (h : Fits bs it) (hb : it.blk < bs.length) :
    (it.plc < 0 ∧ bad10 it = false ∧ bad14 bs.length it = false) ∨
    (∃ n : Nat, ∃ hn : n < bs[it.blk].ins.length, it.plc = (n : Int) ∧ bad10 it = (!mayB bs[it.blk].ins[n].op bs[it.blk].ins[n].args.length) ∧ bad14 bs.length it = false) ∨
    (it.plc = (bs[it.blk].ins.length : Int) ∧ bad10 it = (!endB bs[it.blk].term.kind bs[it.blk].term.args.length bs[it.blk].term.to.length) ∧ bad14 bs.length it = bs[it.blk].term.to.any (toB bs.length)) := by
  cases it with
  | phi b n p => exact Or.inl ⟨by show -1 - (n : Int) < 0; omega, rfl, rfl⟩
  | ins b n i =>
    obtain ⟨_, hn, e⟩ := h
    refine Or.inr (Or.inl ⟨n, hn, rfl, ?_, rfl⟩)
    show (!mayB i.op i.args.length) = _
    rw [← e]; rfl
  | term b x =>
    obtain ⟨_, e⟩ := h
    refine Or.inr (Or.inr ⟨?_, ?_, ?_⟩)
    · show (x.ins.length : Int) = _; rw [← e]; rfl
    · show (!endB x.term.kind x.term.args.length x.term.to.length) = _; rw [← e]; rfl
    · show x.term.to.any (toB bs.length) = _; rw [← e]; rfl
set_option maxRecDepth 100000 in
set_option maxHeartbeats 16000000 in
theorem shape_any (w : World) (params : Int) (gB oB c : Nat) (bs : List PBlock) (hbs : BlocksAt w (.slice (some ⟨gB, oB, none⟩) bs.length c) bs) (hl : uptoP bs bs.length ≤ 100000) (hpi : ∀ x ∈ bs, ∀ p ∈ x.phis, p.ins.length ≤ 100000) (hwf : WfP bs) (hp : 0 ≤ params ∧ params ≤ 100) (hbl : bs.length ≤ 100000) :
    Calls Try.prog 41 #[.agg #[.int .i64 params, .slice (some ⟨gB, oB, none⟩) bs.length c]] w (fun e w' => e = .returned (gotV (toldS (overE (look1 params bs.length) bs fun _ => none))) ∧ Below w.heap.size w w') := by
  have HBS := Lib.hid hbs
  have HOV := Lib.hid (over_items (look1 params bs.length) bs (fun _ => none))
  have HPI := Lib.hid hpi
  have HWF := Lib.hid hwf
  generalize overE (look1 params bs.length) bs (fun _ => none) = R at HOV ⊢
  obtain ⟨i0, hi, hz0, hz1, hz2⟩ := info_parts info_bool
  have HI0 := Lib.hid hi
  have HZ0 := Lib.hid hz0
  have HZ1 := Lib.hid hz1
  have HZ2 := Lib.hid hz2
  obtain ⟨hp0, hp1⟩ := hp
  clear hi hz0 hz1 hz2 hbs hpi hwf
  go_enter Try.func41, Try.ntmps41
  go_upto_region 1 with (fail)
  obtain ⟨W1, hW1⟩ : ∃ W1, w.alloc (.cells #[.int .i64 params, .slice (some ⟨gB, oB, none⟩) bs.length c] 24) = W1 := ⟨_, rfl⟩
  rw [hW1]
  have hb1 : Below w.heap.size w W1 := by rw [← hW1]; exact (Below.refl _ _).alloc (Nat.le_refl _) _
  have hs1 : Str W1 w.heap.size 24 [.int .i64 params, .slice (some ⟨gB, oB, none⟩) bs.length c] := by rw [← hW1]; exact World.alloc_heap_new w _
  have hzW1 : W1.heap.size = w.heap.size + 1 := by rw [← hW1]; simp
  clear hW1
  obtain ⟨W2, hW2⟩ : ∃ W2, W1.alloc (.cells #[.int .i64 0, .int .i64 0, .int .i64 0] 50) = W2 := ⟨_, rfl⟩
  rw [hW2]
  have hb2 : Below W1.heap.size W1 W2 := by rw [← hW2]; exact (Below.refl _ _).alloc (Nat.le_refl _) _
  have hs2 : Str W2 W1.heap.size 50 [.int .i64 0, .int .i64 0, .int .i64 0] := by rw [← hW2]; exact World.alloc_heap_new W1 _
  have hzW2 : W2.heap.size = W1.heap.size + 1 := by rw [← hW2]; simp
  clear hW2
  have HB2 := Lib.hid (hb1.trans (hb2.mono hb1.size))
  have HS2 := Lib.hid (hs1.below hb2)
  rw [hzW1] at hs2
  have HG2 := Lib.hid hs2
  have hz2 : W2.heap.size = w.heap.size + 2 := by omega
  clear hb1 hb2 hs1 hs2 hzW1 hzW2
  go_wp2_with (at_make; refine wpList_make_full _ rfl _ _ 80 rfl W2.heap.size 4 i0 (.bool false) 1 Try.underlying80 HI0.out HZ0.out HZ1.out .i64 .i64 _ _ 8192 rfl rfl rfl rfl (by rw [HZ2.out]; omega) (by unfold maxLen; omega) (Nat.le_refl _) ?_)
  intro W3 hown hgr
  rw [toList_madeCells_one] at hown
  have hb3 : Below W2.heap.size W2 W3 := (Below.refl _ _).grown hgr (Nat.le_refl _) (fun j hj => by cases hj)
  have ho3 : Bools w.heap.size (w.heap.size + 2) W3 (List.replicate 8192 false) := by
    unfold Bools
    rw [List.length_replicate, List.map_replicate]
    exact own_base (B := w.heap.size + 2) (by simpa [hz2] using hown) (Nat.le_add_right _ _)
  have HS3 := Lib.hid (HS2.out.below hb3)
  have HG3 := Lib.hid (HG2.out.below hb3)
  have HB3 := Lib.hid (HB2.out.trans (hb3.mono HB2.out.size))
  have HO3 := Lib.hid ho3
  have f0 : W3.cell? ⟨w.heap.size, 0, none⟩ = some (.int .i64 params) := HS3.out.cell 0
  have f1 : W3.cell? ⟨w.heap.size, 1, none⟩ = some (.slice (some ⟨gB, oB, none⟩) bs.length c) := HS3.out.cell 1
  have hz3 := HB3.out.size
  clear hown hgr hb3 ho3 hz2
  go_wp2_with fail
  refine (things_any W3 params gB oB c bs (RowAt.kept HBS.out (fun b o x h => BlockAt.keep HB3.out b o x h)) hl HPI.out).mono ?_
  rintro e W4 ⟨v, rfl, hto, hb4⟩
  have hrow := hto.read hb4
  rw [← items_things] at hrow
  obtain ⟨tA, tc, hvf⟩ := hto.form
  rw [← items_things, List.length_map] at hvf
  subst hvf
  have HR4 := Lib.hid hrow
  have HS4 := Lib.hid (HS3.out.below hb4)
  have HG4 := Lib.hid (HG3.out.below hb4)
  have HB4 := Lib.hid (HB3.out.trans (hb4.mono HB3.out.size))
  have HO4 := Lib.hid (show Bools w.heap.size (w.heap.size + 2) W4 (List.replicate 8192 false) from own_below HO3.out hb4)
  have HTL := Lib.hid (row_len hrow).2
  have HFIT := Lib.hid (items_fit bs)
  have HM4 := Lib.hid (show MarkOf (List.replicate 8192 false) (fun _ => none) from ⟨List.length_replicate, fun n hn => by rw [List.getD_eq_getElem?_getD, List.getElem?_replicate, if_pos hn]; rfl⟩)
  clear hto hb4 hrow f0 f1
  have HOV0 := Lib.hid (show runI (lookI (look1 params bs.length)) ((itemsL bs).drop 0) (fun _ => none) = R from HOV.out.symm)
  clear HOV
  go_wp2_with fail
  go_loopw [5, 6, 7, 8, 9, 10, 11, 12] (fun i _ _ _ _ _ _ _ wr => ∃ (k : Nat) (f : Spots) (m : List Bool), k ≤ (itemsL bs).length ∧ i = .int .i64 k ∧ MarkOf m f ∧ Bools w.heap.size (w.heap.size + 2) wr m ∧ runI (lookI (look1 params bs.length)) ((itemsL bs).drop k) f = R ∧ RowAt wr 4 ThingAt (.slice tA (itemsL bs).length tc) ((itemsL bs).map Item.thing) ∧ Below w.heap.size w wr ∧ Str wr w.heap.size 24 [.int .i64 params, .slice (some ⟨gB, oB, none⟩) bs.length c] ∧ Str wr (w.heap.size + 1) 50 [.int .i64 0, .int .i64 0, .int .i64 0]) (fun i _ _ _ _ _ _ _ _ => (itemsL bs).length - (intOf i).toNat)
  case atStart => exact ⟨0, _, _, by omega, rfl, HM4.out, HO4.out, HOV0.out, HR4.out, HB4.out, HS4.out, HG4.out⟩
  case round =>
    obtain ⟨k, f, m, hk, rfl, hm, ho, hov, hrow, hb, hs, hg⟩ := hrel
    obtain ⟨wo, rfl⟩ : ∃ wo : World, wo = wr := ⟨_, rfl⟩
    have HM := Lib.hid hm
    have HO := Lib.hid ho
    have HV := Lib.hid hov
    have HR := Lib.hid hrow
    have HB := Lib.hid hb
    have HS := Lib.hid hs
    have HG := Lib.hid hg
    have htl := HTL.out
    have f0 : wo.cell? ⟨w.heap.size, 0, none⟩ = some (.int .i64 params) := hs.cell 0
    have f1 : wo.cell? ⟨w.heap.size, 1, none⟩ = some (.slice (some ⟨gB, oB, none⟩) bs.length c) := hs.cell 1
    have hzo := hb.size
    have hgl := hg.lt
    clear hm ho hov hrow hb hs hg
    by_cases hlt : k < (itemsL bs).length
    · have HVS := Lib.hid ((runI_drop (h := lookI (look1 params bs.length)) hlt f).symm.trans HV.out)
      have hfit := HFIT.out _ (List.getElem_mem hlt)
      obtain ⟨A', c', gT, oT, e, u1, u2, u3, u4⟩ := HR.out
      rw [List.length_map] at e u1
      injection e with e1 _ e3
      subst e1 e3
      have e1 := u3 (by rw [List.length_map]; omega)
      subst e1
      have hth := u4 k (by rw [List.length_map]; exact hlt)
      rw [List.getElem_map] at hth
      have HTH := Lib.hid hth
      clear u3 u4
      generalize hit : (itemsL bs)[k] = it at *
      clear hit
      rw [step_eq] at HVS
      obtain ⟨t0, t1, ⟨vm, t2, hm2⟩, ⟨vt, t3, ht3⟩⟩ := hth
      obtain ⟨mA, mc, rfl, hm3⟩ := hm2
      have ht4 : ∃ A c, vt = .slice A it.thing.takes.length c := by obtain ⟨A, c, h, _⟩ := ht3; exact ⟨A, c, h⟩
      obtain ⟨tA', tc', rfl⟩ := ht4
      clear ht3
      have eb : it.thing.block = (it.blk : Int) := by cases it <;> rfl
      have ep : it.thing.place = it.plc := by cases it <;> rfl
      have em : it.thing.makes = it.mks := by cases it <;> rfl
      rw [eb] at t0
      rw [ep] at t1
      rw [em] at t2
      generalize it.thing.takes.length = tkl at *
      have hbk : it.blk < bs.length := by cases it <;> exact hfit.1
      obtain ⟨hbl2, hbk2⟩ := open_block HBS.out hbk
      obtain ⟨p0, c0, p1, c1, p3, c3, p4, c4, r0, r1, r2, r3, r4, r5, q0, q1, q3, q4⟩ := block_rows hbk2
      have r0 := cell_keep HB.out (Nat.le_refl _) r0
      have r1 := cell_keep HB.out (Nat.le_refl _) r1
      have r2 := cell_keep HB.out (Nat.le_refl _) r2
      have r3 := cell_keep HB.out (Nat.le_refl _) r3
      have r4 := cell_keep HB.out (Nat.le_refl _) r4
      have r5 := cell_keep HB.out (Nat.le_refl _) r5
      have HQ1 := Lib.hid q1
      have HQ4 := Lib.hid q4
      have HFT := Lib.hid hfit
      clear q0 q1 q3 q4 hbk2 hfit
      go_upto_region 7 with (fail)
      obtain ⟨WT, hWT⟩ : ∃ WT, wo.alloc (.cells #[.int .i64 (it.blk : Int), .int .i64 it.plc, .slice mA it.mks.length mc, .slice tA' tkl tc'] 87) = WT := ⟨_, rfl⟩
      rw [hWT]
      have hbt : Below wo.heap.size wo WT := by rw [← hWT]; exact (Below.refl _ _).alloc (Nat.le_refl _) _
      have hst : Str WT wo.heap.size 87 [.int .i64 (it.blk : Int), .int .i64 it.plc, .slice mA it.mks.length mc, .slice tA' tkl tc'] := by rw [← hWT]; exact World.alloc_heap_new wo _
      have hzWT : WT.heap.size = wo.heap.size + 1 := by rw [← hWT]; simp
      clear hWT
      have f1 := cell_keep hbt (Nat.le_refl _) f1
      have r0 := cell_keep hbt (Nat.le_refl _) r0
      have r1 := cell_keep hbt (Nat.le_refl _) r1
      have r2 := cell_keep hbt (Nat.le_refl _) r2
      have r3 := cell_keep hbt (Nat.le_refl _) r3
      have r4 := cell_keep hbt (Nat.le_refl _) r4
      have r5 := cell_keep hbt (Nat.le_refl _) r5
      have t0 : WT.cell? ⟨wo.heap.size, 0, none⟩ = some (.int .i64 (it.blk : Int)) := hst.cell 0
      go_upto_region 8 with (fail)
      obtain ⟨WX, hWX⟩ : ∃ WX, WT.alloc (.cells #[.slice p0 bs[it.blk].phis.length c0, .slice p1 bs[it.blk].ins.length c1, .int .i64 bs[it.blk].term.kind, .slice p3 bs[it.blk].term.args.length c3, .slice p4 bs[it.blk].term.to.length c4, .int .i32 bs[it.blk].term.imm] 34) = WX := ⟨_, rfl⟩
      rw [hWX]
      have hbx : Below WT.heap.size WT WX := by rw [← hWX]; exact (Below.refl _ _).alloc (Nat.le_refl _) _
      have hsx : Str WX WT.heap.size 34 [.slice p0 bs[it.blk].phis.length c0, .slice p1 bs[it.blk].ins.length c1, .int .i64 bs[it.blk].term.kind, .slice p3 bs[it.blk].term.args.length c3, .slice p4 bs[it.blk].term.to.length c4, .int .i32 bs[it.blk].term.imm] := by rw [← hWX]; exact World.alloc_heap_new WT _
      have hzWX : WX.heap.size = WT.heap.size + 1 := by rw [← hWX]; simp
      clear hWX
      have hst := hst.below hbx
      rw [hzWT] at hsx
      obtain ⟨tb, htb⟩ : ∃ tb, wo.heap.size = tb := ⟨_, rfl⟩
      obtain ⟨xb, hxb⟩ : ∃ xb, wo.heap.size + 1 = xb := ⟨_, rfl⟩
      have HBX := Lib.hid (show Below wo.heap.size wo WX from hbt.trans (hbx.mono hbt.size))
      rw [htb] at hst
      rw [hxb] at hsx
      have HST := Lib.hid hst
      have HSX := Lib.hid hsx
      have hzX : WX.heap.size = wo.heap.size + 2 := by omega
      have htw : w.heap.size + 1 < tb := by omega
      have hxtb : tb < xb := by omega
      have htbo : wo.heap.size ≤ tb := by omega
      rw [hxb, htb]
      clear hbt hbx hst hsx hzWT hzWX htb hxb t0 t1 t2 t3 r0 r1 r2 r3 r4 r5
      have HSH := Lib.hid (show Sh w params (.slice (some ⟨gB, oB, none⟩) bs.length c) (some ⟨gT, oT, none⟩) (itemsL bs).length tc ((itemsL bs).map Item.thing) tb xb [.int .i64 (it.blk : Int), .int .i64 it.plc, .slice mA it.mks.length mc, .slice tA' tkl tc'] [.slice p0 bs[it.blk].phis.length c0, .slice p1 bs[it.blk].ins.length c1, .int .i64 bs[it.blk].term.kind, .slice p3 bs[it.blk].term.args.length c3, .slice p4 bs[it.blk].term.to.length c4, .int .i32 bs[it.blk].term.imm] (.slice mA it.mks.length mc) it.mks m f WX from
        ⟨own_below HO.out HBX.out, HM.out, RowAt.kept HR.out (fun b o x hx => ThingAt.keep HBX.out b o x hx), HB.out.trans (HBX.out.mono hzo), HS.out.below HBX.out, HG.out.below HBX.out, HST.out, HSX.out, by have h9 := Ints.keep (show Ints wo (.slice mA it.mks.length mc) it.mks by rw [← em]; exact ⟨mA, mc, rfl, hm3⟩) HBX.out; exact h9⟩)
      have htb2 : w.heap.size + 2 < tb := by have h9 : w.heap.size + 2 < wo.heap.size := (HO.out.lt _ rfl).2; omega
      have hxb2 : w.heap.size + 2 < xb := by omega
      clear HM HO HR HS HG HST HSX hm3 em eb ep HTH
      have HKI := Lib.hid (kinds bs it HFT.out hbk)
      generalize hpl9 : it.plc = pl at *
      have HPL := Lib.hid hpl9
      clear hpl9
      rcases HKI.out with ⟨k1, k2, k3⟩ | ⟨n, hn, k1, k2, k3⟩ | ⟨k1, k2, k3⟩
      · have K2 := Lib.hid k2
        have K3 := Lib.hid k3
        have e1 : (pl == (bs[it.blk].ins.length : Int)) = false := beq_eq_false_iff_ne.2 (by omega)
        clear k2 k3
        have y0 : WX.cell? ⟨tb, 0, none⟩ = some (.int .i64 (it.blk : Int)) := HSH.out.thing.cell 0
        have y1 : WX.cell? ⟨tb, 1, none⟩ = some (.int .i64 pl) := HSH.out.thing.cell 1
        have y2 : WX.cell? ⟨tb, 2, none⟩ = some (.slice mA it.mks.length mc) := HSH.out.thing.cell 2
        have z1 : WX.cell? ⟨xb, 1, none⟩ = some (.slice p1 bs[it.blk].ins.length c1) := HSH.out.block.cell 1
        have z2 : WX.cell? ⟨xb, 2, none⟩ = some (.int .i64 bs[it.blk].term.kind) := HSH.out.block.cell 2
        have z3 : WX.cell? ⟨xb, 3, none⟩ = some (.slice p3 bs[it.blk].term.args.length c3) := HSH.out.block.cell 3
        have z4 : WX.cell? ⟨xb, 4, none⟩ = some (.slice p4 bs[it.blk].term.to.length c4) := HSH.out.block.cell 4
        have z5 : WX.cell? ⟨xb, 5, none⟩ = some (.int .i32 bs[it.blk].term.imm) := HSH.out.block.cell 5
        have g0 : WX.cell? ⟨w.heap.size + 1, 0, none⟩ = some (.int .i64 0) := HSH.out.got.cell 0
        have g1 : WX.cell? ⟨w.heap.size + 1, 1, none⟩ = some (.int .i64 0) := HSH.out.got.cell 1
        have g2 : WX.cell? ⟨w.heap.size + 1, 2, none⟩ = some (.int .i64 0) := HSH.out.got.cell 2
        have g3 := HSH.out.got.frozen 0
        have g4 := HSH.out.got.frozen 1
        have g5 := HSH.out.got.frozen 2
        have f0 : WX.cell? ⟨w.heap.size, 0, none⟩ = some (.int .i64 params) := HSH.out.func.cell 0
        have f1 : WX.cell? ⟨w.heap.size, 1, none⟩ = some (.slice (some ⟨gB, oB, none⟩) bs.length c) := HSH.out.func.cell 1
        go_wp2_with fail
        go_loopw [10] (fun j wr => ∃ q : Nat, q ≤ it.mks.length ∧ j = .int .i64 q ∧ Below WX.heap.size WX wr ∧ (it.mks.take q).any (outB params) = false) (fun j _ => it.mks.length - (intOf j).toNat)
        case atStart => exact ⟨0, by omega, rfl, Below.refl _ _, by simp⟩
        case round =>
          obtain ⟨q, hq, rfl, hbw, hany⟩ := hrel
          obtain ⟨wi, rfl⟩ : ∃ wi : World, wi = wr := ⟨_, rfl⟩
          have HSi := Lib.hid (HSH.out.keep hbw)
          have HBi := Lib.hid hbw
          have HANY := Lib.hid hany
          clear hbw hany y0 y1 y2 z1 z2 z3 z4 z5 g0 g1 g2 g3 g4 g5 f0 f1
          have y0 : wi.cell? ⟨tb, 0, none⟩ = some (.int .i64 (it.blk : Int)) := HSi.out.thing.cell 0
          have y1 : wi.cell? ⟨tb, 1, none⟩ = some (.int .i64 pl) := HSi.out.thing.cell 1
          have y2 : wi.cell? ⟨tb, 2, none⟩ = some (.slice mA it.mks.length mc) := HSi.out.thing.cell 2
          have z1 : wi.cell? ⟨xb, 1, none⟩ = some (.slice p1 bs[it.blk].ins.length c1) := HSi.out.block.cell 1
          have z2 : wi.cell? ⟨xb, 2, none⟩ = some (.int .i64 bs[it.blk].term.kind) := HSi.out.block.cell 2
          have z3 : wi.cell? ⟨xb, 3, none⟩ = some (.slice p3 bs[it.blk].term.args.length c3) := HSi.out.block.cell 3
          have z4 : wi.cell? ⟨xb, 4, none⟩ = some (.slice p4 bs[it.blk].term.to.length c4) := HSi.out.block.cell 4
          have z5 : wi.cell? ⟨xb, 5, none⟩ = some (.int .i32 bs[it.blk].term.imm) := HSi.out.block.cell 5
          have g0 : wi.cell? ⟨w.heap.size + 1, 0, none⟩ = some (.int .i64 0) := HSi.out.got.cell 0
          have g1 : wi.cell? ⟨w.heap.size + 1, 1, none⟩ = some (.int .i64 0) := HSi.out.got.cell 1
          have g2 : wi.cell? ⟨w.heap.size + 1, 2, none⟩ = some (.int .i64 0) := HSi.out.got.cell 2
          have g3 := HSi.out.got.frozen 0
          have g4 := HSi.out.got.frozen 1
          have g5 := HSi.out.got.frozen 2
          have f0 : wi.cell? ⟨w.heap.size, 0, none⟩ = some (.int .i64 params) := HSi.out.func.cell 0
          have f1 : wi.cell? ⟨w.heap.size, 1, none⟩ = some (.slice (some ⟨gB, oB, none⟩) bs.length c) := HSi.out.func.cell 1
          by_cases hltq : q < it.mks.length
          · obtain ⟨A', c', e, v1, v2, v3⟩ := HSi.out.ints
            injection e with e1 _ e3
            subst e1 e3
            unfold maxLen at v2
            obtain ⟨ad, rfl, hx⟩ := v3 q hltq
            have HTS := Lib.hid (any_take_succ (q := outB params) hltq HANY.out)
            have HAT := Lib.hid (fun h => @any_of_take it.mks (outB params) (q + 1) h)
            clear v3
            generalize it.mks[q] = x at *
            by_cases ho1 : x < params
            · have HO := Lib.hid (show outB params x = true by unfold outB; rw [decide_eq_true ho1]; rfl)
              have HE := Lib.hid (show R = .error (11, (it.blk : Int), pl) by
                rw [← HVS.out]; unfold stepG
                rw [if_neg (by rw [K2.out]; simp), if_pos (HAT.out (by rw [HTS.out]; exact HO.out)), HPL.out]; rfl)
              go_wp2_with fail
              go_quiet (fail)
              obtain ⟨wd, hwd⟩ : ∃ wd, wi.drewN nq = wd := ⟨_, rfl⟩
              rw [hwd]
              have HBd := Lib.hid (show Below wi.heap.size wi wd by rw [← hwd]; exact below_drewK (Below.refl _ _) _)
              have HSd := Lib.hid (HSi.out.keep HBd.out)
              clear hwd y0 y1 y2 z1 z2 z3 z4 z5 g0 g1 g2 g3 g4 g5 f0 f1
              have y0 : wd.cell? ⟨tb, 0, none⟩ = some (.int .i64 (it.blk : Int)) := HSd.out.thing.cell 0
              have y1 : wd.cell? ⟨tb, 1, none⟩ = some (.int .i64 pl) := HSd.out.thing.cell 1
              have y2 : wd.cell? ⟨tb, 2, none⟩ = some (.slice (some ad) it.mks.length mc) := HSd.out.thing.cell 2
              have z1 : wd.cell? ⟨xb, 1, none⟩ = some (.slice p1 bs[it.blk].ins.length c1) := HSd.out.block.cell 1
              have z2 : wd.cell? ⟨xb, 2, none⟩ = some (.int .i64 bs[it.blk].term.kind) := HSd.out.block.cell 2
              have z3 : wd.cell? ⟨xb, 3, none⟩ = some (.slice p3 bs[it.blk].term.args.length c3) := HSd.out.block.cell 3
              have z4 : wd.cell? ⟨xb, 4, none⟩ = some (.slice p4 bs[it.blk].term.to.length c4) := HSd.out.block.cell 4
              have z5 : wd.cell? ⟨xb, 5, none⟩ = some (.int .i32 bs[it.blk].term.imm) := HSd.out.block.cell 5
              have g0 : wd.cell? ⟨w.heap.size + 1, 0, none⟩ = some (.int .i64 0) := HSd.out.got.cell 0
              have g1 : wd.cell? ⟨w.heap.size + 1, 1, none⟩ = some (.int .i64 0) := HSd.out.got.cell 1
              have g2 : wd.cell? ⟨w.heap.size + 1, 2, none⟩ = some (.int .i64 0) := HSd.out.got.cell 2
              have g3 := HSd.out.got.frozen 0
              have g4 := HSd.out.got.frozen 1
              have g5 := HSd.out.got.frozen 2
              have f0 : wd.cell? ⟨w.heap.size, 0, none⟩ = some (.int .i64 params) := HSd.out.func.cell 0
              have f1 : wd.cell? ⟨w.heap.size, 1, none⟩ = some (.slice (some ⟨gB, oB, none⟩) bs.length c) := HSd.out.func.cell 1
              have HGE := Lib.hid (got_set HSd.out.got 11 (it.blk : Int) pl)
              have HBE := Lib.hid ((HSd.out.below.setCell (p := ⟨w.heap.size + 1, 0, none⟩) (Nat.le_succ _) (.int .i64 11)).setCell (p := ⟨w.heap.size + 1, 1, none⟩) (Nat.le_succ _) (.int .i64 (it.blk : Int)) |>.setCell (p := ⟨w.heap.size + 1, 2, none⟩) (Nat.le_succ _) (.int .i64 pl))
              go_wp2
              rw [HE.out]
              refine got_ret HGE.out HBE.out ?_ ?_ <;> rfl
            · by_cases ho2 : 8191 < x
              · have HO := Lib.hid (show outB params x = true by unfold outB; rw [decide_eq_true (show (8192 : Int) ≤ x by omega)]; simp)
                have HE := Lib.hid (show R = .error (11, (it.blk : Int), pl) by
                  rw [← HVS.out]; unfold stepG
                  rw [if_neg (by rw [K2.out]; simp), if_pos (HAT.out (by rw [HTS.out]; exact HO.out)), HPL.out]; rfl)
                go_wp2_with fail
                go_quiet (fail)
                obtain ⟨wd, hwd⟩ : ∃ wd, wi.drewN nq = wd := ⟨_, rfl⟩
                rw [hwd]
                have HBd := Lib.hid (show Below wi.heap.size wi wd by rw [← hwd]; exact below_drewK (Below.refl _ _) _)
                have HSd := Lib.hid (HSi.out.keep HBd.out)
                clear hwd y0 y1 y2 z1 z2 z3 z4 z5 g0 g1 g2 g3 g4 g5 f0 f1
                have y0 : wd.cell? ⟨tb, 0, none⟩ = some (.int .i64 (it.blk : Int)) := HSd.out.thing.cell 0
                have y1 : wd.cell? ⟨tb, 1, none⟩ = some (.int .i64 pl) := HSd.out.thing.cell 1
                have y2 : wd.cell? ⟨tb, 2, none⟩ = some (.slice (some ad) it.mks.length mc) := HSd.out.thing.cell 2
                have z1 : wd.cell? ⟨xb, 1, none⟩ = some (.slice p1 bs[it.blk].ins.length c1) := HSd.out.block.cell 1
                have z2 : wd.cell? ⟨xb, 2, none⟩ = some (.int .i64 bs[it.blk].term.kind) := HSd.out.block.cell 2
                have z3 : wd.cell? ⟨xb, 3, none⟩ = some (.slice p3 bs[it.blk].term.args.length c3) := HSd.out.block.cell 3
                have z4 : wd.cell? ⟨xb, 4, none⟩ = some (.slice p4 bs[it.blk].term.to.length c4) := HSd.out.block.cell 4
                have z5 : wd.cell? ⟨xb, 5, none⟩ = some (.int .i32 bs[it.blk].term.imm) := HSd.out.block.cell 5
                have g0 : wd.cell? ⟨w.heap.size + 1, 0, none⟩ = some (.int .i64 0) := HSd.out.got.cell 0
                have g1 : wd.cell? ⟨w.heap.size + 1, 1, none⟩ = some (.int .i64 0) := HSd.out.got.cell 1
                have g2 : wd.cell? ⟨w.heap.size + 1, 2, none⟩ = some (.int .i64 0) := HSd.out.got.cell 2
                have g3 := HSd.out.got.frozen 0
                have g4 := HSd.out.got.frozen 1
                have g5 := HSd.out.got.frozen 2
                have f0 : wd.cell? ⟨w.heap.size, 0, none⟩ = some (.int .i64 params) := HSd.out.func.cell 0
                have f1 : wd.cell? ⟨w.heap.size, 1, none⟩ = some (.slice (some ⟨gB, oB, none⟩) bs.length c) := HSd.out.func.cell 1
                have HGE := Lib.hid (got_set HSd.out.got 11 (it.blk : Int) pl)
                have HBE := Lib.hid ((HSd.out.below.setCell (p := ⟨w.heap.size + 1, 0, none⟩) (Nat.le_succ _) (.int .i64 11)).setCell (p := ⟨w.heap.size + 1, 1, none⟩) (Nat.le_succ _) (.int .i64 (it.blk : Int)) |>.setCell (p := ⟨w.heap.size + 1, 2, none⟩) (Nat.le_succ _) (.int .i64 pl))
                go_wp2
                rw [HE.out]
                refine got_ret HGE.out HBE.out ?_ ?_ <;> rfl
              · have HO := Lib.hid (show outB params x = false by unfold outB; rw [decide_eq_false ho1, decide_eq_false (show ¬ (8192 : Int) ≤ x by omega)]; rfl)
                go_wp2_with fail
                go_quiet (fail)
                obtain ⟨wd, hwd⟩ : ∃ wd, wi.drewN nq = wd := ⟨_, rfl⟩
                rw [hwd]
                have HBd := Lib.hid (show Below wi.heap.size wi wd by rw [← hwd]; exact below_drewK (Below.refl _ _) _)
                have HSd := Lib.hid (HSi.out.keep HBd.out)
                clear hwd y0 y1 y2 z1 z2 z3 z4 z5 g0 g1 g2 g3 g4 g5 f0 f1
                have y0 : wd.cell? ⟨tb, 0, none⟩ = some (.int .i64 (it.blk : Int)) := HSd.out.thing.cell 0
                have y1 : wd.cell? ⟨tb, 1, none⟩ = some (.int .i64 pl) := HSd.out.thing.cell 1
                have y2 : wd.cell? ⟨tb, 2, none⟩ = some (.slice (some ad) it.mks.length mc) := HSd.out.thing.cell 2
                have z1 : wd.cell? ⟨xb, 1, none⟩ = some (.slice p1 bs[it.blk].ins.length c1) := HSd.out.block.cell 1
                have z2 : wd.cell? ⟨xb, 2, none⟩ = some (.int .i64 bs[it.blk].term.kind) := HSd.out.block.cell 2
                have z3 : wd.cell? ⟨xb, 3, none⟩ = some (.slice p3 bs[it.blk].term.args.length c3) := HSd.out.block.cell 3
                have z4 : wd.cell? ⟨xb, 4, none⟩ = some (.slice p4 bs[it.blk].term.to.length c4) := HSd.out.block.cell 4
                have z5 : wd.cell? ⟨xb, 5, none⟩ = some (.int .i32 bs[it.blk].term.imm) := HSd.out.block.cell 5
                have g0 : wd.cell? ⟨w.heap.size + 1, 0, none⟩ = some (.int .i64 0) := HSd.out.got.cell 0
                have g1 : wd.cell? ⟨w.heap.size + 1, 1, none⟩ = some (.int .i64 0) := HSd.out.got.cell 1
                have g2 : wd.cell? ⟨w.heap.size + 1, 2, none⟩ = some (.int .i64 0) := HSd.out.got.cell 2
                have g3 := HSd.out.got.frozen 0
                have g4 := HSd.out.got.frozen 1
                have g5 := HSd.out.got.frozen 2
                have f0 : wd.cell? ⟨w.heap.size, 0, none⟩ = some (.int .i64 params) := HSd.out.func.cell 0
                have f1 : wd.cell? ⟨w.heap.size, 1, none⟩ = some (.slice (some ⟨gB, oB, none⟩) bs.length c) := HSd.out.func.cell 1
                go_wp2_with fail
                go_roundw
                case rel => exact ⟨q + 1, by omega, by go_num, HBi.out.trans (HBd.out.mono HBi.out.size), by rw [HTS.out]; exact HO.out⟩
                case measure => simp [intOf]; omega
          · obtain rfl : q = it.mks.length := by omega
            have HNO := Lib.hid (show it.mks.any (outB params) = false by have h := HANY.out; rwa [List.take_length] at h)
            have HVP := Lib.hid (show (bindE (runI (lookI (look1 params bs.length)) ((itemsL bs).drop (k + 1))) (match putE it.blk pl it.mks f with | Except.error e => Except.error e | Except.ok f' => if bad14 bs.length it = true then Except.error (14, (it.blk : Int), pl) else Except.ok f')) = R by
              rw [← HVS.out]; unfold stepG
              rw [if_neg (by rw [K2.out]; simp), if_neg (by rw [HNO.out]; simp), HPL.out]
              rfl)
            generalize hPP : putE it.blk pl it.mks f = P at HVP
            have HPP := Lib.hid hPP
            clear hPP HVS
            go_wp2_with fail
            go_loopw [11] (fun j wr => ∃ (q : Nat) (f' : Spots) (m' : List Bool), q ≤ it.mks.length ∧ j = .int .i64 q ∧ Sh w params (.slice (some ⟨gB, oB, none⟩) bs.length c) (some ⟨gT, oT, none⟩) (itemsL bs).length tc ((itemsL bs).map Item.thing) tb xb [.int .i64 (it.blk : Int), .int .i64 pl, .slice mA it.mks.length mc, .slice tA' tkl tc'] [.slice p0 bs[it.blk].phis.length c0, .slice p1 bs[it.blk].ins.length c1, .int .i64 bs[it.blk].term.kind, .slice p3 bs[it.blk].term.args.length c3, .slice p4 bs[it.blk].term.to.length c4, .int .i32 bs[it.blk].term.imm] (.slice mA it.mks.length mc) it.mks m' f' wr ∧ putE it.blk pl (it.mks.drop q) f' = P) (fun j _ => it.mks.length - (intOf j).toNat)
            case atStart => exact ⟨0, f, m, by omega, rfl, HSi.out, by rw [List.drop_zero]; exact HPP.out⟩
            case round =>
              obtain ⟨q, f', m', hq, rfl, hsh, hpe⟩ := hrel
              obtain ⟨wj, rfl⟩ : ∃ wj : World, wj = wr := ⟨_, rfl⟩
              have HSj := Lib.hid hsh
              have HPE := Lib.hid hpe
              clear hsh hpe y0 y1 y2 z1 z2 z3 z4 z5 g0 g1 g2 g3 g4 g5 f0 f1
              have y0 : wj.cell? ⟨tb, 0, none⟩ = some (.int .i64 (it.blk : Int)) := HSj.out.thing.cell 0
              have y1 : wj.cell? ⟨tb, 1, none⟩ = some (.int .i64 pl) := HSj.out.thing.cell 1
              have y2 : wj.cell? ⟨tb, 2, none⟩ = some (.slice mA it.mks.length mc) := HSj.out.thing.cell 2
              have z1 : wj.cell? ⟨xb, 1, none⟩ = some (.slice p1 bs[it.blk].ins.length c1) := HSj.out.block.cell 1
              have z2 : wj.cell? ⟨xb, 2, none⟩ = some (.int .i64 bs[it.blk].term.kind) := HSj.out.block.cell 2
              have z3 : wj.cell? ⟨xb, 3, none⟩ = some (.slice p3 bs[it.blk].term.args.length c3) := HSj.out.block.cell 3
              have z4 : wj.cell? ⟨xb, 4, none⟩ = some (.slice p4 bs[it.blk].term.to.length c4) := HSj.out.block.cell 4
              have z5 : wj.cell? ⟨xb, 5, none⟩ = some (.int .i32 bs[it.blk].term.imm) := HSj.out.block.cell 5
              have g0 : wj.cell? ⟨w.heap.size + 1, 0, none⟩ = some (.int .i64 0) := HSj.out.got.cell 0
              have g1 : wj.cell? ⟨w.heap.size + 1, 1, none⟩ = some (.int .i64 0) := HSj.out.got.cell 1
              have g2 : wj.cell? ⟨w.heap.size + 1, 2, none⟩ = some (.int .i64 0) := HSj.out.got.cell 2
              have g3 := HSj.out.got.frozen 0
              have g4 := HSj.out.got.frozen 1
              have g5 := HSj.out.got.frozen 2
              have f0 : wj.cell? ⟨w.heap.size, 0, none⟩ = some (.int .i64 params) := HSj.out.func.cell 0
              have f1 : wj.cell? ⟨w.heap.size, 1, none⟩ = some (.slice (some ⟨gB, oB, none⟩) bs.length c) := HSj.out.func.cell 1
              by_cases hltq : q < it.mks.length
              · obtain ⟨A', c', e, v1, v2, v3⟩ := HSj.out.ints
                injection e with e1 _ e3
                subst e1 e3
                unfold maxLen at v2
                obtain ⟨ad, rfl, hx⟩ := v3 q hltq
                have HPD := Lib.hid ((putE_drop (b := (it.blk : Int)) (p := pl) hltq f').symm.trans HPE.out)
                have hin := List.any_eq_false.1 HNO.out _ (List.getElem_mem hltq)
                clear v3
                generalize it.mks[q] = x at *
                have hx2 : params ≤ x ∧ x < 8192 := by unfold outB at hin; simp at hin; omega
                obtain ⟨hx3, hx4⟩ := hx2
                clear hin
                obtain ⟨xn, rfl⟩ : ∃ xn : Nat, x = xn := ⟨x.toNat, by omega⟩
                have hxn : xn < 8192 := by omega
                have hml : xn < m'.length := by rw [HSj.out.mark.1]; exact hxn
                have HMK := Lib.hid ((show m'.getD xn false = m'[xn] by rw [List.getD_eq_getElem?_getD, List.getElem?_eq_getElem hml]; rfl).symm.trans (HSj.out.mark.2 xn hxn))
                have b0 := HSj.out.bools.cell hml
                have b1 := World.ownsRow.frozenAt HSj.out.bools xn
                generalize m'[xn] = vb at *
                have hmx : (m'.length : Int) = 8192 := by rw [HSj.out.mark.1]; rfl
                clear hml
                cases vb with
                | true =>
                  have HE := Lib.hid (show R = .error (12, (it.blk : Int), pl) by
                    have h1 : P = .error (12, (it.blk : Int), pl) := by rw [← HPD.out, if_pos HMK.out.symm]
                    rw [← HVP.out, h1]; rfl)
                  have HGE := Lib.hid (got_set HSj.out.got 12 (it.blk : Int) pl)
                  have HBE := Lib.hid ((HSj.out.below.setCell (p := ⟨w.heap.size + 1, 0, none⟩) (Nat.le_succ _) (.int .i64 12)).setCell (p := ⟨w.heap.size + 1, 1, none⟩) (Nat.le_succ _) (.int .i64 (it.blk : Int)) |>.setCell (p := ⟨w.heap.size + 1, 2, none⟩) (Nat.le_succ _) (.int .i64 pl))
                  go_wp2
                  rw [HE.out]
                  refine got_ret HGE.out HBE.out ?_ ?_ <;> rfl
                | false =>
                  have HPN := Lib.hid (show putE it.blk pl (it.mks.drop (q + 1)) (noted f' xn ((it.blk : Int), pl)) = P by
                    rw [← HPD.out, if_neg (by rw [← HMK.out]; simp)])
                  have HSN := Lib.hid (HSj.out.store htb2 hxb2 hxn ((it.blk : Int), pl))
                  go_wp2_with fail
                  go_roundw
                  case rel => exact ⟨q + 1, _, _, by omega, by go_num, HSN.out, HPN.out⟩
                  case measure => simp [intOf]; omega
              · obtain rfl : q = it.mks.length := by omega
                have HPF := Lib.hid (show P = .ok f' by rw [← HPE.out, List.drop_length]; rfl)
                have HVQ := Lib.hid (show bindE (runI (lookI (look1 params bs.length)) ((itemsL bs).drop (k + 1))) (if bad14 bs.length it = true then Except.error (14, (it.blk : Int), pl) else Except.ok f') = R by
                  rw [← HVP.out, HPF.out])
                clear HVP
                have HVN := Lib.hid (show runI (lookI (look1 params bs.length)) ((itemsL bs).drop (k + 1)) f' = R by
                  rw [← HVQ.out, if_neg (by rw [K3.out]; simp)]; rfl)
                go_wp2_with fail
                go_loopw [12] (fun j wr => j = .int .i64 0 ∧ wr = wj) (fun _ _ => 0)
                case atStart => exact ⟨rfl, rfl⟩
                case round =>
                  obtain ⟨rfl, hw⟩ := hrel
                  obtain rfl : wj = wr := hw.symm
                  go_wp2_with fail
                  go_roundw
                  case rel => exact ⟨k + 1, f', m', by omega, by go_num, HSj.out.mark, HSj.out.bools, HVN.out, HSj.out.row, HSj.out.below, HSj.out.func, HSj.out.got⟩
                  case measure => simp [intOf]; omega
      · obtain rfl : pl = (n : Int) := k1
        have K3 := Lib.hid k3
        have e1 : ((n : Int) == (bs[it.blk].ins.length : Int)) = false := beq_eq_false_iff_ne.2 (by omega)
        have y0 : WX.cell? ⟨tb, 0, none⟩ = some (.int .i64 (it.blk : Int)) := HSH.out.thing.cell 0
        have y1 : WX.cell? ⟨tb, 1, none⟩ = some (.int .i64 (n : Int)) := HSH.out.thing.cell 1
        have y2 : WX.cell? ⟨tb, 2, none⟩ = some (.slice mA it.mks.length mc) := HSH.out.thing.cell 2
        have z1 : WX.cell? ⟨xb, 1, none⟩ = some (.slice p1 bs[it.blk].ins.length c1) := HSH.out.block.cell 1
        have z2 : WX.cell? ⟨xb, 2, none⟩ = some (.int .i64 bs[it.blk].term.kind) := HSH.out.block.cell 2
        have z3 : WX.cell? ⟨xb, 3, none⟩ = some (.slice p3 bs[it.blk].term.args.length c3) := HSH.out.block.cell 3
        have z4 : WX.cell? ⟨xb, 4, none⟩ = some (.slice p4 bs[it.blk].term.to.length c4) := HSH.out.block.cell 4
        have z5 : WX.cell? ⟨xb, 5, none⟩ = some (.int .i32 bs[it.blk].term.imm) := HSH.out.block.cell 5
        have g0 : WX.cell? ⟨w.heap.size + 1, 0, none⟩ = some (.int .i64 0) := HSH.out.got.cell 0
        have g1 : WX.cell? ⟨w.heap.size + 1, 1, none⟩ = some (.int .i64 0) := HSH.out.got.cell 1
        have g2 : WX.cell? ⟨w.heap.size + 1, 2, none⟩ = some (.int .i64 0) := HSH.out.got.cell 2
        have g3 := HSH.out.got.frozen 0
        have g4 := HSH.out.got.frozen 1
        have g5 := HSH.out.got.frozen 2
        have f0 : WX.cell? ⟨w.heap.size, 0, none⟩ = some (.int .i64 params) := HSH.out.func.cell 0
        have f1 : WX.cell? ⟨w.heap.size, 1, none⟩ = some (.slice (some ⟨gB, oB, none⟩) bs.length c) := HSH.out.func.cell 1
        obtain ⟨A', c', bI, oI, e, u1, u2, u3, u4⟩ := HQ1.out
        injection e with e2 _ e3
        subst e2 e3
        have e2 := u3 (by omega)
        subst e2
        unfold maxLen at u2
        obtain ⟨i0', i1', i2', ⟨vA, i3', hrw⟩, i4'⟩ := u4 n hn
        obtain ⟨pA, cA, rfl, _⟩ := hrw
        have i0' := cell_keep HSH.out.below (Nat.le_refl _) i0'
        have i1' := cell_keep HSH.out.below (Nat.le_refl _) i1'
        have i2' := cell_keep HSH.out.below (Nat.le_refl _) i2'
        have i3' := cell_keep HSH.out.below (Nat.le_refl _) i3'
        have i4' := cell_keep HSH.out.below (Nat.le_refl _) i4'
        clear u3 u4 k3
        generalize bs[it.blk].ins[n] = ii at *
        have HB10 := Lib.hid k2
        clear k2
        go_upto_region 10 with (fail)
        obtain ⟨WS, hWS⟩ : ∃ WS, WX.alloc (.cells #[.int .i64 ii.op, .int .i64 ii.dst, .int .i64 ii.two, .slice pA ii.args.length cA, .int .i32 ii.imm] 36) = WS := ⟨_, rfl⟩
        rw [hWS]
        have hbs : Below WX.heap.size WX WS := by rw [← hWS]; exact (Below.refl _ _).alloc (Nat.le_refl _) _
        have hss : Str WS WX.heap.size 36 [.int .i64 ii.op, .int .i64 ii.dst, .int .i64 ii.two, .slice pA ii.args.length cA, .int .i32 ii.imm] := by rw [← hWS]; exact World.alloc_heap_new WX _
        have hzWS : WS.heap.size = WX.heap.size + 1 := by rw [← hWS]; simp
        clear hWS
        have HSS := Lib.hid (HSH.out.keep hbs)
        have s0 : WS.cell? ⟨WX.heap.size, 0, none⟩ = some (.int .i64 ii.op) := hss.cell 0
        have s3 : WS.cell? ⟨WX.heap.size, 3, none⟩ = some (.slice pA ii.args.length cA) := hss.cell 3
        rw [hzX] at s0 s3
        clear hbs hss y0 y1 y2 z1 z2 z3 z4 z5 g0 g1 g2 g3 g4 g5 f0 f1 i0' i1' i2' i3' i4'
        have y0 : WS.cell? ⟨tb, 0, none⟩ = some (.int .i64 (it.blk : Int)) := HSS.out.thing.cell 0
        have y1 : WS.cell? ⟨tb, 1, none⟩ = some (.int .i64 (n : Int)) := HSS.out.thing.cell 1
        have y2 : WS.cell? ⟨tb, 2, none⟩ = some (.slice mA it.mks.length mc) := HSS.out.thing.cell 2
        have z1 : WS.cell? ⟨xb, 1, none⟩ = some (.slice (some ⟨bI, oI, none⟩) bs[it.blk].ins.length c1) := HSS.out.block.cell 1
        have z2 : WS.cell? ⟨xb, 2, none⟩ = some (.int .i64 bs[it.blk].term.kind) := HSS.out.block.cell 2
        have z3 : WS.cell? ⟨xb, 3, none⟩ = some (.slice p3 bs[it.blk].term.args.length c3) := HSS.out.block.cell 3
        have z4 : WS.cell? ⟨xb, 4, none⟩ = some (.slice p4 bs[it.blk].term.to.length c4) := HSS.out.block.cell 4
        have z5 : WS.cell? ⟨xb, 5, none⟩ = some (.int .i32 bs[it.blk].term.imm) := HSS.out.block.cell 5
        have g0 : WS.cell? ⟨w.heap.size + 1, 0, none⟩ = some (.int .i64 0) := HSS.out.got.cell 0
        have g1 : WS.cell? ⟨w.heap.size + 1, 1, none⟩ = some (.int .i64 0) := HSS.out.got.cell 1
        have g2 : WS.cell? ⟨w.heap.size + 1, 2, none⟩ = some (.int .i64 0) := HSS.out.got.cell 2
        have g3 := HSS.out.got.frozen 0
        have g4 := HSS.out.got.frozen 1
        have g5 := HSS.out.got.frozen 2
        have f0 : WS.cell? ⟨w.heap.size, 0, none⟩ = some (.int .i64 params) := HSS.out.func.cell 0
        have f1 : WS.cell? ⟨w.heap.size, 1, none⟩ = some (.slice (some ⟨gB, oB, none⟩) bs.length c) := HSS.out.func.cell 1
        have HEE := Lib.hid (show mayB ii.op ii.args.length = false → R = .error (10, (it.blk : Int), (n : Int)) from fun h => by
          rw [← HVS.out]; unfold stepG
          rw [if_pos (by rw [HB10.out, h]; rfl), HPL.out]; rfl)
        by_cases o1 : ii.op < 1
        · have HE := Lib.hid (HEE.out (by rw [count_may, decide_eq_false (show ¬ (1 ≤ ii.op ∧ ii.op ≤ 18) by omega), Bool.false_and]))
          have HGE := Lib.hid (got_set HSS.out.got 10 (it.blk : Int) (n : Int))
          have HBE := Lib.hid ((HSS.out.below.setCell (p := ⟨w.heap.size + 1, 0, none⟩) (Nat.le_succ _) (.int .i64 10)).setCell (p := ⟨w.heap.size + 1, 1, none⟩) (Nat.le_succ _) (.int .i64 (it.blk : Int)) |>.setCell (p := ⟨w.heap.size + 1, 2, none⟩) (Nat.le_succ _) (.int .i64 (n : Int)))
          go_wp2
          rw [HE.out]
          refine got_ret HGE.out HBE.out ?_ ?_ <;> rfl
        · by_cases o2 : 18 < ii.op
          · have HE := Lib.hid (HEE.out (by rw [count_may, decide_eq_false (show ¬ (1 ≤ ii.op ∧ ii.op ≤ 18) by omega), Bool.false_and]))
            have HGE := Lib.hid (got_set HSS.out.got 10 (it.blk : Int) (n : Int))
            have HBE := Lib.hid ((HSS.out.below.setCell (p := ⟨w.heap.size + 1, 0, none⟩) (Nat.le_succ _) (.int .i64 10)).setCell (p := ⟨w.heap.size + 1, 1, none⟩) (Nat.le_succ _) (.int .i64 (it.blk : Int)) |>.setCell (p := ⟨w.heap.size + 1, 2, none⟩) (Nat.le_succ _) (.int .i64 (n : Int)))
            go_wp2
            rw [HE.out]
            refine got_ret HGE.out HBE.out ?_ ?_ <;> rfl
          · cases hcb : countB ii.op ii.args.length with
            | false =>
              have HE := Lib.hid (HEE.out (by rw [count_may, hcb, Bool.and_false]))
              have HCB := Lib.hid hcb
              clear hcb
              go_wp2_with fail
              refine (counts_any WS ii.op ii.args.length).mono ?_
              rintro e w9 ⟨rfl, hw9⟩
              obtain rfl : WS = w9 := hw9.symm
              rw [HCB.out]
              have HGE := Lib.hid (got_set HSS.out.got 10 (it.blk : Int) (n : Int))
              have HBE := Lib.hid ((HSS.out.below.setCell (p := ⟨w.heap.size + 1, 0, none⟩) (Nat.le_succ _) (.int .i64 10)).setCell (p := ⟨w.heap.size + 1, 1, none⟩) (Nat.le_succ _) (.int .i64 (it.blk : Int)) |>.setCell (p := ⟨w.heap.size + 1, 2, none⟩) (Nat.le_succ _) (.int .i64 (n : Int)))
              go_wp2
              rw [HE.out]
              refine got_ret HGE.out HBE.out ?_ ?_ <;> rfl
            | true =>
              have K2 := Lib.hid (show bad10 it = false by rw [HB10.out, count_may, hcb, decide_eq_true (show 1 ≤ ii.op ∧ ii.op ≤ 18 by omega)]; rfl)
              have HCB := Lib.hid hcb
              clear hcb
              go_wp2_with fail
              refine (counts_any WS ii.op ii.args.length).mono ?_
              rintro e w9 ⟨rfl, hw9⟩
              obtain rfl : WS = w9 := hw9.symm
              rw [HCB.out]
              clear s0 s3
              go_wp2_with fail
              go_loopw [10] (fun j wr => ∃ q : Nat, q ≤ it.mks.length ∧ j = .int .i64 q ∧ Below WS.heap.size WS wr ∧ (it.mks.take q).any (outB params) = false) (fun j _ => it.mks.length - (intOf j).toNat)
              case atStart => exact ⟨0, by omega, rfl, Below.refl _ _, by simp⟩
              case round =>
                obtain ⟨q, hq, rfl, hbw, hany⟩ := hrel
                obtain ⟨wi, rfl⟩ : ∃ wi : World, wi = wr := ⟨_, rfl⟩
                have HSi := Lib.hid (HSS.out.keep hbw)
                have HBi := Lib.hid hbw
                have HANY := Lib.hid hany
                clear hbw hany y0 y1 y2 z1 z2 z3 z4 z5 g0 g1 g2 g3 g4 g5 f0 f1
                have y0 : wi.cell? ⟨tb, 0, none⟩ = some (.int .i64 (it.blk : Int)) := HSi.out.thing.cell 0
                have y1 : wi.cell? ⟨tb, 1, none⟩ = some (.int .i64 (n : Int)) := HSi.out.thing.cell 1
                have y2 : wi.cell? ⟨tb, 2, none⟩ = some (.slice mA it.mks.length mc) := HSi.out.thing.cell 2
                have z1 : wi.cell? ⟨xb, 1, none⟩ = some (.slice (some ⟨bI, oI, none⟩) bs[it.blk].ins.length c1) := HSi.out.block.cell 1
                have z2 : wi.cell? ⟨xb, 2, none⟩ = some (.int .i64 bs[it.blk].term.kind) := HSi.out.block.cell 2
                have z3 : wi.cell? ⟨xb, 3, none⟩ = some (.slice p3 bs[it.blk].term.args.length c3) := HSi.out.block.cell 3
                have z4 : wi.cell? ⟨xb, 4, none⟩ = some (.slice p4 bs[it.blk].term.to.length c4) := HSi.out.block.cell 4
                have z5 : wi.cell? ⟨xb, 5, none⟩ = some (.int .i32 bs[it.blk].term.imm) := HSi.out.block.cell 5
                have g0 : wi.cell? ⟨w.heap.size + 1, 0, none⟩ = some (.int .i64 0) := HSi.out.got.cell 0
                have g1 : wi.cell? ⟨w.heap.size + 1, 1, none⟩ = some (.int .i64 0) := HSi.out.got.cell 1
                have g2 : wi.cell? ⟨w.heap.size + 1, 2, none⟩ = some (.int .i64 0) := HSi.out.got.cell 2
                have g3 := HSi.out.got.frozen 0
                have g4 := HSi.out.got.frozen 1
                have g5 := HSi.out.got.frozen 2
                have f0 : wi.cell? ⟨w.heap.size, 0, none⟩ = some (.int .i64 params) := HSi.out.func.cell 0
                have f1 : wi.cell? ⟨w.heap.size, 1, none⟩ = some (.slice (some ⟨gB, oB, none⟩) bs.length c) := HSi.out.func.cell 1
                by_cases hltq : q < it.mks.length
                · obtain ⟨A', c', e, v1, v2, v3⟩ := HSi.out.ints
                  injection e with e1 _ e3
                  subst e1 e3
                  unfold maxLen at v2
                  obtain ⟨ad, rfl, hx⟩ := v3 q hltq
                  have HTS := Lib.hid (any_take_succ (q := outB params) hltq HANY.out)
                  have HAT := Lib.hid (fun h => @any_of_take it.mks (outB params) (q + 1) h)
                  clear v3
                  generalize it.mks[q] = x at *
                  by_cases ho1 : x < params
                  · have HO := Lib.hid (show outB params x = true by unfold outB; rw [decide_eq_true ho1]; rfl)
                    have HE := Lib.hid (show R = .error (11, (it.blk : Int), (n : Int)) by
                      rw [← HVS.out]; unfold stepG
                      rw [if_neg (by rw [K2.out]; simp), if_pos (HAT.out (by rw [HTS.out]; exact HO.out)), HPL.out]; rfl)
                    go_wp2_with fail
                    go_quiet (fail)
                    obtain ⟨wd, hwd⟩ : ∃ wd, wi.drewN nq = wd := ⟨_, rfl⟩
                    rw [hwd]
                    have HBd := Lib.hid (show Below wi.heap.size wi wd by rw [← hwd]; exact below_drewK (Below.refl _ _) _)
                    have HSd := Lib.hid (HSi.out.keep HBd.out)
                    clear hwd y0 y1 y2 z1 z2 z3 z4 z5 g0 g1 g2 g3 g4 g5 f0 f1
                    have y0 : wd.cell? ⟨tb, 0, none⟩ = some (.int .i64 (it.blk : Int)) := HSd.out.thing.cell 0
                    have y1 : wd.cell? ⟨tb, 1, none⟩ = some (.int .i64 (n : Int)) := HSd.out.thing.cell 1
                    have y2 : wd.cell? ⟨tb, 2, none⟩ = some (.slice (some ad) it.mks.length mc) := HSd.out.thing.cell 2
                    have z1 : wd.cell? ⟨xb, 1, none⟩ = some (.slice (some ⟨bI, oI, none⟩) bs[it.blk].ins.length c1) := HSd.out.block.cell 1
                    have z2 : wd.cell? ⟨xb, 2, none⟩ = some (.int .i64 bs[it.blk].term.kind) := HSd.out.block.cell 2
                    have z3 : wd.cell? ⟨xb, 3, none⟩ = some (.slice p3 bs[it.blk].term.args.length c3) := HSd.out.block.cell 3
                    have z4 : wd.cell? ⟨xb, 4, none⟩ = some (.slice p4 bs[it.blk].term.to.length c4) := HSd.out.block.cell 4
                    have z5 : wd.cell? ⟨xb, 5, none⟩ = some (.int .i32 bs[it.blk].term.imm) := HSd.out.block.cell 5
                    have g0 : wd.cell? ⟨w.heap.size + 1, 0, none⟩ = some (.int .i64 0) := HSd.out.got.cell 0
                    have g1 : wd.cell? ⟨w.heap.size + 1, 1, none⟩ = some (.int .i64 0) := HSd.out.got.cell 1
                    have g2 : wd.cell? ⟨w.heap.size + 1, 2, none⟩ = some (.int .i64 0) := HSd.out.got.cell 2
                    have g3 := HSd.out.got.frozen 0
                    have g4 := HSd.out.got.frozen 1
                    have g5 := HSd.out.got.frozen 2
                    have f0 : wd.cell? ⟨w.heap.size, 0, none⟩ = some (.int .i64 params) := HSd.out.func.cell 0
                    have f1 : wd.cell? ⟨w.heap.size, 1, none⟩ = some (.slice (some ⟨gB, oB, none⟩) bs.length c) := HSd.out.func.cell 1
                    have HGE := Lib.hid (got_set HSd.out.got 11 (it.blk : Int) (n : Int))
                    have HBE := Lib.hid ((HSd.out.below.setCell (p := ⟨w.heap.size + 1, 0, none⟩) (Nat.le_succ _) (.int .i64 11)).setCell (p := ⟨w.heap.size + 1, 1, none⟩) (Nat.le_succ _) (.int .i64 (it.blk : Int)) |>.setCell (p := ⟨w.heap.size + 1, 2, none⟩) (Nat.le_succ _) (.int .i64 (n : Int)))
                    go_wp2
                    rw [HE.out]
                    refine got_ret HGE.out HBE.out ?_ ?_ <;> rfl
                  · by_cases ho2 : 8191 < x
                    · have HO := Lib.hid (show outB params x = true by unfold outB; rw [decide_eq_true (show (8192 : Int) ≤ x by omega)]; simp)
                      have HE := Lib.hid (show R = .error (11, (it.blk : Int), (n : Int)) by
                        rw [← HVS.out]; unfold stepG
                        rw [if_neg (by rw [K2.out]; simp), if_pos (HAT.out (by rw [HTS.out]; exact HO.out)), HPL.out]; rfl)
                      go_wp2_with fail
                      go_quiet (fail)
                      obtain ⟨wd, hwd⟩ : ∃ wd, wi.drewN nq = wd := ⟨_, rfl⟩
                      rw [hwd]
                      have HBd := Lib.hid (show Below wi.heap.size wi wd by rw [← hwd]; exact below_drewK (Below.refl _ _) _)
                      have HSd := Lib.hid (HSi.out.keep HBd.out)
                      clear hwd y0 y1 y2 z1 z2 z3 z4 z5 g0 g1 g2 g3 g4 g5 f0 f1
                      have y0 : wd.cell? ⟨tb, 0, none⟩ = some (.int .i64 (it.blk : Int)) := HSd.out.thing.cell 0
                      have y1 : wd.cell? ⟨tb, 1, none⟩ = some (.int .i64 (n : Int)) := HSd.out.thing.cell 1
                      have y2 : wd.cell? ⟨tb, 2, none⟩ = some (.slice (some ad) it.mks.length mc) := HSd.out.thing.cell 2
                      have z1 : wd.cell? ⟨xb, 1, none⟩ = some (.slice (some ⟨bI, oI, none⟩) bs[it.blk].ins.length c1) := HSd.out.block.cell 1
                      have z2 : wd.cell? ⟨xb, 2, none⟩ = some (.int .i64 bs[it.blk].term.kind) := HSd.out.block.cell 2
                      have z3 : wd.cell? ⟨xb, 3, none⟩ = some (.slice p3 bs[it.blk].term.args.length c3) := HSd.out.block.cell 3
                      have z4 : wd.cell? ⟨xb, 4, none⟩ = some (.slice p4 bs[it.blk].term.to.length c4) := HSd.out.block.cell 4
                      have z5 : wd.cell? ⟨xb, 5, none⟩ = some (.int .i32 bs[it.blk].term.imm) := HSd.out.block.cell 5
                      have g0 : wd.cell? ⟨w.heap.size + 1, 0, none⟩ = some (.int .i64 0) := HSd.out.got.cell 0
                      have g1 : wd.cell? ⟨w.heap.size + 1, 1, none⟩ = some (.int .i64 0) := HSd.out.got.cell 1
                      have g2 : wd.cell? ⟨w.heap.size + 1, 2, none⟩ = some (.int .i64 0) := HSd.out.got.cell 2
                      have g3 := HSd.out.got.frozen 0
                      have g4 := HSd.out.got.frozen 1
                      have g5 := HSd.out.got.frozen 2
                      have f0 : wd.cell? ⟨w.heap.size, 0, none⟩ = some (.int .i64 params) := HSd.out.func.cell 0
                      have f1 : wd.cell? ⟨w.heap.size, 1, none⟩ = some (.slice (some ⟨gB, oB, none⟩) bs.length c) := HSd.out.func.cell 1
                      have HGE := Lib.hid (got_set HSd.out.got 11 (it.blk : Int) (n : Int))
                      have HBE := Lib.hid ((HSd.out.below.setCell (p := ⟨w.heap.size + 1, 0, none⟩) (Nat.le_succ _) (.int .i64 11)).setCell (p := ⟨w.heap.size + 1, 1, none⟩) (Nat.le_succ _) (.int .i64 (it.blk : Int)) |>.setCell (p := ⟨w.heap.size + 1, 2, none⟩) (Nat.le_succ _) (.int .i64 (n : Int)))
                      go_wp2
                      rw [HE.out]
                      refine got_ret HGE.out HBE.out ?_ ?_ <;> rfl
                    · have HO := Lib.hid (show outB params x = false by unfold outB; rw [decide_eq_false ho1, decide_eq_false (show ¬ (8192 : Int) ≤ x by omega)]; rfl)
                      go_wp2_with fail
                      go_quiet (fail)
                      obtain ⟨wd, hwd⟩ : ∃ wd, wi.drewN nq = wd := ⟨_, rfl⟩
                      rw [hwd]
                      have HBd := Lib.hid (show Below wi.heap.size wi wd by rw [← hwd]; exact below_drewK (Below.refl _ _) _)
                      have HSd := Lib.hid (HSi.out.keep HBd.out)
                      clear hwd y0 y1 y2 z1 z2 z3 z4 z5 g0 g1 g2 g3 g4 g5 f0 f1
                      have y0 : wd.cell? ⟨tb, 0, none⟩ = some (.int .i64 (it.blk : Int)) := HSd.out.thing.cell 0
                      have y1 : wd.cell? ⟨tb, 1, none⟩ = some (.int .i64 (n : Int)) := HSd.out.thing.cell 1
                      have y2 : wd.cell? ⟨tb, 2, none⟩ = some (.slice (some ad) it.mks.length mc) := HSd.out.thing.cell 2
                      have z1 : wd.cell? ⟨xb, 1, none⟩ = some (.slice (some ⟨bI, oI, none⟩) bs[it.blk].ins.length c1) := HSd.out.block.cell 1
                      have z2 : wd.cell? ⟨xb, 2, none⟩ = some (.int .i64 bs[it.blk].term.kind) := HSd.out.block.cell 2
                      have z3 : wd.cell? ⟨xb, 3, none⟩ = some (.slice p3 bs[it.blk].term.args.length c3) := HSd.out.block.cell 3
                      have z4 : wd.cell? ⟨xb, 4, none⟩ = some (.slice p4 bs[it.blk].term.to.length c4) := HSd.out.block.cell 4
                      have z5 : wd.cell? ⟨xb, 5, none⟩ = some (.int .i32 bs[it.blk].term.imm) := HSd.out.block.cell 5
                      have g0 : wd.cell? ⟨w.heap.size + 1, 0, none⟩ = some (.int .i64 0) := HSd.out.got.cell 0
                      have g1 : wd.cell? ⟨w.heap.size + 1, 1, none⟩ = some (.int .i64 0) := HSd.out.got.cell 1
                      have g2 : wd.cell? ⟨w.heap.size + 1, 2, none⟩ = some (.int .i64 0) := HSd.out.got.cell 2
                      have g3 := HSd.out.got.frozen 0
                      have g4 := HSd.out.got.frozen 1
                      have g5 := HSd.out.got.frozen 2
                      have f0 : wd.cell? ⟨w.heap.size, 0, none⟩ = some (.int .i64 params) := HSd.out.func.cell 0
                      have f1 : wd.cell? ⟨w.heap.size, 1, none⟩ = some (.slice (some ⟨gB, oB, none⟩) bs.length c) := HSd.out.func.cell 1
                      go_wp2_with fail
                      go_roundw
                      case rel => exact ⟨q + 1, by omega, by go_num, HBi.out.trans (HBd.out.mono HBi.out.size), by rw [HTS.out]; exact HO.out⟩
                      case measure => simp [intOf]; omega
                · obtain rfl : q = it.mks.length := by omega
                  have HNO := Lib.hid (show it.mks.any (outB params) = false by have h := HANY.out; rwa [List.take_length] at h)
                  have HVP := Lib.hid (show (bindE (runI (lookI (look1 params bs.length)) ((itemsL bs).drop (k + 1))) (match putE it.blk (n : Int) it.mks f with | Except.error e => Except.error e | Except.ok f' => if bad14 bs.length it = true then Except.error (14, (it.blk : Int), (n : Int)) else Except.ok f')) = R by
                    rw [← HVS.out]; unfold stepG
                    rw [if_neg (by rw [K2.out]; simp), if_neg (by rw [HNO.out]; simp), HPL.out]
                    rfl)
                  generalize hPP : putE it.blk (n : Int) it.mks f = P at HVP
                  have HPP := Lib.hid hPP
                  clear hPP HVS
                  go_wp2_with fail
                  go_loopw [11] (fun j wr => ∃ (q : Nat) (f' : Spots) (m' : List Bool), q ≤ it.mks.length ∧ j = .int .i64 q ∧ Sh w params (.slice (some ⟨gB, oB, none⟩) bs.length c) (some ⟨gT, oT, none⟩) (itemsL bs).length tc ((itemsL bs).map Item.thing) tb xb [.int .i64 (it.blk : Int), .int .i64 (n : Int), .slice mA it.mks.length mc, .slice tA' tkl tc'] [.slice p0 bs[it.blk].phis.length c0, .slice (some ⟨bI, oI, none⟩) bs[it.blk].ins.length c1, .int .i64 bs[it.blk].term.kind, .slice p3 bs[it.blk].term.args.length c3, .slice p4 bs[it.blk].term.to.length c4, .int .i32 bs[it.blk].term.imm] (.slice mA it.mks.length mc) it.mks m' f' wr ∧ putE it.blk (n : Int) (it.mks.drop q) f' = P) (fun j _ => it.mks.length - (intOf j).toNat)
                  case atStart => exact ⟨0, f, m, by omega, rfl, HSi.out, by rw [List.drop_zero]; exact HPP.out⟩
                  case round =>
                    obtain ⟨q, f', m', hq, rfl, hsh, hpe⟩ := hrel
                    obtain ⟨wj, rfl⟩ : ∃ wj : World, wj = wr := ⟨_, rfl⟩
                    have HSj := Lib.hid hsh
                    have HPE := Lib.hid hpe
                    clear hsh hpe y0 y1 y2 z1 z2 z3 z4 z5 g0 g1 g2 g3 g4 g5 f0 f1
                    have y0 : wj.cell? ⟨tb, 0, none⟩ = some (.int .i64 (it.blk : Int)) := HSj.out.thing.cell 0
                    have y1 : wj.cell? ⟨tb, 1, none⟩ = some (.int .i64 (n : Int)) := HSj.out.thing.cell 1
                    have y2 : wj.cell? ⟨tb, 2, none⟩ = some (.slice mA it.mks.length mc) := HSj.out.thing.cell 2
                    have z1 : wj.cell? ⟨xb, 1, none⟩ = some (.slice (some ⟨bI, oI, none⟩) bs[it.blk].ins.length c1) := HSj.out.block.cell 1
                    have z2 : wj.cell? ⟨xb, 2, none⟩ = some (.int .i64 bs[it.blk].term.kind) := HSj.out.block.cell 2
                    have z3 : wj.cell? ⟨xb, 3, none⟩ = some (.slice p3 bs[it.blk].term.args.length c3) := HSj.out.block.cell 3
                    have z4 : wj.cell? ⟨xb, 4, none⟩ = some (.slice p4 bs[it.blk].term.to.length c4) := HSj.out.block.cell 4
                    have z5 : wj.cell? ⟨xb, 5, none⟩ = some (.int .i32 bs[it.blk].term.imm) := HSj.out.block.cell 5
                    have g0 : wj.cell? ⟨w.heap.size + 1, 0, none⟩ = some (.int .i64 0) := HSj.out.got.cell 0
                    have g1 : wj.cell? ⟨w.heap.size + 1, 1, none⟩ = some (.int .i64 0) := HSj.out.got.cell 1
                    have g2 : wj.cell? ⟨w.heap.size + 1, 2, none⟩ = some (.int .i64 0) := HSj.out.got.cell 2
                    have g3 := HSj.out.got.frozen 0
                    have g4 := HSj.out.got.frozen 1
                    have g5 := HSj.out.got.frozen 2
                    have f0 : wj.cell? ⟨w.heap.size, 0, none⟩ = some (.int .i64 params) := HSj.out.func.cell 0
                    have f1 : wj.cell? ⟨w.heap.size, 1, none⟩ = some (.slice (some ⟨gB, oB, none⟩) bs.length c) := HSj.out.func.cell 1
                    by_cases hltq : q < it.mks.length
                    · obtain ⟨A', c', e, v1, v2, v3⟩ := HSj.out.ints
                      injection e with e1 _ e3
                      subst e1 e3
                      unfold maxLen at v2
                      obtain ⟨ad, rfl, hx⟩ := v3 q hltq
                      have HPD := Lib.hid ((putE_drop (b := (it.blk : Int)) (p := (n : Int)) hltq f').symm.trans HPE.out)
                      have hin := List.any_eq_false.1 HNO.out _ (List.getElem_mem hltq)
                      clear v3
                      generalize it.mks[q] = x at *
                      have hx2 : params ≤ x ∧ x < 8192 := by unfold outB at hin; simp at hin; omega
                      obtain ⟨hx3, hx4⟩ := hx2
                      clear hin
                      obtain ⟨xn, rfl⟩ : ∃ xn : Nat, x = xn := ⟨x.toNat, by omega⟩
                      have hxn : xn < 8192 := by omega
                      have hml : xn < m'.length := by rw [HSj.out.mark.1]; exact hxn
                      have HMK := Lib.hid ((show m'.getD xn false = m'[xn] by rw [List.getD_eq_getElem?_getD, List.getElem?_eq_getElem hml]; rfl).symm.trans (HSj.out.mark.2 xn hxn))
                      have b0 := HSj.out.bools.cell hml
                      have b1 := World.ownsRow.frozenAt HSj.out.bools xn
                      generalize m'[xn] = vb at *
                      have hmx : (m'.length : Int) = 8192 := by rw [HSj.out.mark.1]; rfl
                      clear hml
                      cases vb with
                      | true =>
                        have HE := Lib.hid (show R = .error (12, (it.blk : Int), (n : Int)) by
                          have h1 : P = .error (12, (it.blk : Int), (n : Int)) := by rw [← HPD.out, if_pos HMK.out.symm]
                          rw [← HVP.out, h1]; rfl)
                        have HGE := Lib.hid (got_set HSj.out.got 12 (it.blk : Int) (n : Int))
                        have HBE := Lib.hid ((HSj.out.below.setCell (p := ⟨w.heap.size + 1, 0, none⟩) (Nat.le_succ _) (.int .i64 12)).setCell (p := ⟨w.heap.size + 1, 1, none⟩) (Nat.le_succ _) (.int .i64 (it.blk : Int)) |>.setCell (p := ⟨w.heap.size + 1, 2, none⟩) (Nat.le_succ _) (.int .i64 (n : Int)))
                        go_wp2
                        rw [HE.out]
                        refine got_ret HGE.out HBE.out ?_ ?_ <;> rfl
                      | false =>
                        have HPN := Lib.hid (show putE it.blk (n : Int) (it.mks.drop (q + 1)) (noted f' xn ((it.blk : Int), (n : Int))) = P by
                          rw [← HPD.out, if_neg (by rw [← HMK.out]; simp)])
                        have HSN := Lib.hid (HSj.out.store htb2 hxb2 hxn ((it.blk : Int), (n : Int)))
                        go_wp2_with fail
                        go_roundw
                        case rel => exact ⟨q + 1, _, _, by omega, by go_num, HSN.out, HPN.out⟩
                        case measure => simp [intOf]; omega
                    · obtain rfl : q = it.mks.length := by omega
                      have HPF := Lib.hid (show P = .ok f' by rw [← HPE.out, List.drop_length]; rfl)
                      have HVQ := Lib.hid (show bindE (runI (lookI (look1 params bs.length)) ((itemsL bs).drop (k + 1))) (if bad14 bs.length it = true then Except.error (14, (it.blk : Int), (n : Int)) else Except.ok f') = R by
                        rw [← HVP.out, HPF.out])
                      clear HVP
                      have HVN := Lib.hid (show runI (lookI (look1 params bs.length)) ((itemsL bs).drop (k + 1)) f' = R by
                        rw [← HVQ.out, if_neg (by rw [K3.out]; simp)]; rfl)
                      go_wp2_with fail
                      go_loopw [12] (fun j wr => j = .int .i64 0 ∧ wr = wj) (fun _ _ => 0)
                      case atStart => exact ⟨rfl, rfl⟩
                      case round =>
                        obtain ⟨rfl, hw⟩ := hrel
                        obtain rfl : wj = wr := hw.symm
                        go_wp2_with fail
                        go_roundw
                        case rel => exact ⟨k + 1, f', m', by omega, by go_num, HSj.out.mark, HSj.out.bools, HVN.out, HSj.out.row, HSj.out.below, HSj.out.func, HSj.out.got⟩
                        case measure => simp [intOf]; omega
      · obtain rfl : pl = (bs[it.blk].ins.length : Int) := k1
        have K3 := Lib.hid k3
        have HB10 := Lib.hid k2
        clear k2 k3
        have y0 : WX.cell? ⟨tb, 0, none⟩ = some (.int .i64 (it.blk : Int)) := HSH.out.thing.cell 0
        have y1 : WX.cell? ⟨tb, 1, none⟩ = some (.int .i64 (bs[it.blk].ins.length : Int)) := HSH.out.thing.cell 1
        have y2 : WX.cell? ⟨tb, 2, none⟩ = some (.slice mA it.mks.length mc) := HSH.out.thing.cell 2
        have z1 : WX.cell? ⟨xb, 1, none⟩ = some (.slice p1 bs[it.blk].ins.length c1) := HSH.out.block.cell 1
        have z2 : WX.cell? ⟨xb, 2, none⟩ = some (.int .i64 bs[it.blk].term.kind) := HSH.out.block.cell 2
        have z3 : WX.cell? ⟨xb, 3, none⟩ = some (.slice p3 bs[it.blk].term.args.length c3) := HSH.out.block.cell 3
        have z4 : WX.cell? ⟨xb, 4, none⟩ = some (.slice p4 bs[it.blk].term.to.length c4) := HSH.out.block.cell 4
        have z5 : WX.cell? ⟨xb, 5, none⟩ = some (.int .i32 bs[it.blk].term.imm) := HSH.out.block.cell 5
        have g0 : WX.cell? ⟨w.heap.size + 1, 0, none⟩ = some (.int .i64 0) := HSH.out.got.cell 0
        have g1 : WX.cell? ⟨w.heap.size + 1, 1, none⟩ = some (.int .i64 0) := HSH.out.got.cell 1
        have g2 : WX.cell? ⟨w.heap.size + 1, 2, none⟩ = some (.int .i64 0) := HSH.out.got.cell 2
        have g3 := HSH.out.got.frozen 0
        have g4 := HSH.out.got.frozen 1
        have g5 := HSH.out.got.frozen 2
        have f0 : WX.cell? ⟨w.heap.size, 0, none⟩ = some (.int .i64 params) := HSH.out.func.cell 0
        have f1 : WX.cell? ⟨w.heap.size, 1, none⟩ = some (.slice (some ⟨gB, oB, none⟩) bs.length c) := HSH.out.func.cell 1
        go_wp2_with fail
        refine (term3_any WX bs[it.blk].term.kind p3 bs[it.blk].term.args.length c3 p4 bs[it.blk].term.to.length c4 bs[it.blk].term.imm).mono ?_
        rintro e WS ⟨rfl, hbs⟩
        have HSS := Lib.hid (HSH.out.keep hbs)
        clear hbs y0 y1 y2 z1 z2 z3 z4 z5 g0 g1 g2 g3 g4 g5 f0 f1
        have y0 : WS.cell? ⟨tb, 0, none⟩ = some (.int .i64 (it.blk : Int)) := HSS.out.thing.cell 0
        have y1 : WS.cell? ⟨tb, 1, none⟩ = some (.int .i64 (bs[it.blk].ins.length : Int)) := HSS.out.thing.cell 1
        have y2 : WS.cell? ⟨tb, 2, none⟩ = some (.slice mA it.mks.length mc) := HSS.out.thing.cell 2
        have z1 : WS.cell? ⟨xb, 1, none⟩ = some (.slice p1 bs[it.blk].ins.length c1) := HSS.out.block.cell 1
        have z2 : WS.cell? ⟨xb, 2, none⟩ = some (.int .i64 bs[it.blk].term.kind) := HSS.out.block.cell 2
        have z3 : WS.cell? ⟨xb, 3, none⟩ = some (.slice p3 bs[it.blk].term.args.length c3) := HSS.out.block.cell 3
        have z4 : WS.cell? ⟨xb, 4, none⟩ = some (.slice p4 bs[it.blk].term.to.length c4) := HSS.out.block.cell 4
        have z5 : WS.cell? ⟨xb, 5, none⟩ = some (.int .i32 bs[it.blk].term.imm) := HSS.out.block.cell 5
        have g0 : WS.cell? ⟨w.heap.size + 1, 0, none⟩ = some (.int .i64 0) := HSS.out.got.cell 0
        have g1 : WS.cell? ⟨w.heap.size + 1, 1, none⟩ = some (.int .i64 0) := HSS.out.got.cell 1
        have g2 : WS.cell? ⟨w.heap.size + 1, 2, none⟩ = some (.int .i64 0) := HSS.out.got.cell 2
        have g3 := HSS.out.got.frozen 0
        have g4 := HSS.out.got.frozen 1
        have g5 := HSS.out.got.frozen 2
        have f0 : WS.cell? ⟨w.heap.size, 0, none⟩ = some (.int .i64 params) := HSS.out.func.cell 0
        have f1 : WS.cell? ⟨w.heap.size, 1, none⟩ = some (.slice (some ⟨gB, oB, none⟩) bs.length c) := HSS.out.func.cell 1
        cases hE : endB bs[it.blk].term.kind bs[it.blk].term.args.length bs[it.blk].term.to.length with
        | false =>
          have HE := Lib.hid (show R = .error (10, (it.blk : Int), (bs[it.blk].ins.length : Int)) by
            rw [← HVS.out]; unfold stepG
            rw [if_pos (by rw [HB10.out, hE]; rfl), HPL.out]; rfl)
          clear hE
          have HGE := Lib.hid (got_set HSS.out.got 10 (it.blk : Int) (bs[it.blk].ins.length : Int))
          have HBE := Lib.hid ((HSS.out.below.setCell (p := ⟨w.heap.size + 1, 0, none⟩) (Nat.le_succ _) (.int .i64 10)).setCell (p := ⟨w.heap.size + 1, 1, none⟩) (Nat.le_succ _) (.int .i64 (it.blk : Int)) |>.setCell (p := ⟨w.heap.size + 1, 2, none⟩) (Nat.le_succ _) (.int .i64 (bs[it.blk].ins.length : Int)))
          go_wp2
          rw [HE.out]
          refine got_ret HGE.out HBE.out ?_ ?_ <;> rfl
        | true =>
          have K2 := Lib.hid (show bad10 it = false by rw [HB10.out, hE]; rfl)
          clear hE
          go_wp2_with fail
          go_loopw [10] (fun j wr => ∃ q : Nat, q ≤ it.mks.length ∧ j = .int .i64 q ∧ Below WS.heap.size WS wr ∧ (it.mks.take q).any (outB params) = false) (fun j _ => it.mks.length - (intOf j).toNat)
          case atStart => exact ⟨0, by omega, rfl, Below.refl _ _, by simp⟩
          case round =>
            obtain ⟨q, hq, rfl, hbw, hany⟩ := hrel
            obtain ⟨wi, rfl⟩ : ∃ wi : World, wi = wr := ⟨_, rfl⟩
            have HSi := Lib.hid (HSS.out.keep hbw)
            have HBi := Lib.hid hbw
            have HANY := Lib.hid hany
            clear hbw hany y0 y1 y2 z1 z2 z3 z4 z5 g0 g1 g2 g3 g4 g5 f0 f1
            have y0 : wi.cell? ⟨tb, 0, none⟩ = some (.int .i64 (it.blk : Int)) := HSi.out.thing.cell 0
            have y1 : wi.cell? ⟨tb, 1, none⟩ = some (.int .i64 (bs[it.blk].ins.length : Int)) := HSi.out.thing.cell 1
            have y2 : wi.cell? ⟨tb, 2, none⟩ = some (.slice mA it.mks.length mc) := HSi.out.thing.cell 2
            have z1 : wi.cell? ⟨xb, 1, none⟩ = some (.slice p1 bs[it.blk].ins.length c1) := HSi.out.block.cell 1
            have z2 : wi.cell? ⟨xb, 2, none⟩ = some (.int .i64 bs[it.blk].term.kind) := HSi.out.block.cell 2
            have z3 : wi.cell? ⟨xb, 3, none⟩ = some (.slice p3 bs[it.blk].term.args.length c3) := HSi.out.block.cell 3
            have z4 : wi.cell? ⟨xb, 4, none⟩ = some (.slice p4 bs[it.blk].term.to.length c4) := HSi.out.block.cell 4
            have z5 : wi.cell? ⟨xb, 5, none⟩ = some (.int .i32 bs[it.blk].term.imm) := HSi.out.block.cell 5
            have g0 : wi.cell? ⟨w.heap.size + 1, 0, none⟩ = some (.int .i64 0) := HSi.out.got.cell 0
            have g1 : wi.cell? ⟨w.heap.size + 1, 1, none⟩ = some (.int .i64 0) := HSi.out.got.cell 1
            have g2 : wi.cell? ⟨w.heap.size + 1, 2, none⟩ = some (.int .i64 0) := HSi.out.got.cell 2
            have g3 := HSi.out.got.frozen 0
            have g4 := HSi.out.got.frozen 1
            have g5 := HSi.out.got.frozen 2
            have f0 : wi.cell? ⟨w.heap.size, 0, none⟩ = some (.int .i64 params) := HSi.out.func.cell 0
            have f1 : wi.cell? ⟨w.heap.size, 1, none⟩ = some (.slice (some ⟨gB, oB, none⟩) bs.length c) := HSi.out.func.cell 1
            by_cases hltq : q < it.mks.length
            · obtain ⟨A', c', e, v1, v2, v3⟩ := HSi.out.ints
              injection e with e1 _ e3
              subst e1 e3
              unfold maxLen at v2
              obtain ⟨ad, rfl, hx⟩ := v3 q hltq
              have HTS := Lib.hid (any_take_succ (q := outB params) hltq HANY.out)
              have HAT := Lib.hid (fun h => @any_of_take it.mks (outB params) (q + 1) h)
              clear v3
              generalize it.mks[q] = x at *
              by_cases ho1 : x < params
              · have HO := Lib.hid (show outB params x = true by unfold outB; rw [decide_eq_true ho1]; rfl)
                have HE := Lib.hid (show R = .error (11, (it.blk : Int), (bs[it.blk].ins.length : Int)) by
                  rw [← HVS.out]; unfold stepG
                  rw [if_neg (by rw [K2.out]; simp), if_pos (HAT.out (by rw [HTS.out]; exact HO.out)), HPL.out]; rfl)
                go_wp2_with fail
                go_quiet (fail)
                obtain ⟨wd, hwd⟩ : ∃ wd, wi.drewN nq = wd := ⟨_, rfl⟩
                rw [hwd]
                have HBd := Lib.hid (show Below wi.heap.size wi wd by rw [← hwd]; exact below_drewK (Below.refl _ _) _)
                have HSd := Lib.hid (HSi.out.keep HBd.out)
                clear hwd y0 y1 y2 z1 z2 z3 z4 z5 g0 g1 g2 g3 g4 g5 f0 f1
                have y0 : wd.cell? ⟨tb, 0, none⟩ = some (.int .i64 (it.blk : Int)) := HSd.out.thing.cell 0
                have y1 : wd.cell? ⟨tb, 1, none⟩ = some (.int .i64 (bs[it.blk].ins.length : Int)) := HSd.out.thing.cell 1
                have y2 : wd.cell? ⟨tb, 2, none⟩ = some (.slice (some ad) it.mks.length mc) := HSd.out.thing.cell 2
                have z1 : wd.cell? ⟨xb, 1, none⟩ = some (.slice p1 bs[it.blk].ins.length c1) := HSd.out.block.cell 1
                have z2 : wd.cell? ⟨xb, 2, none⟩ = some (.int .i64 bs[it.blk].term.kind) := HSd.out.block.cell 2
                have z3 : wd.cell? ⟨xb, 3, none⟩ = some (.slice p3 bs[it.blk].term.args.length c3) := HSd.out.block.cell 3
                have z4 : wd.cell? ⟨xb, 4, none⟩ = some (.slice p4 bs[it.blk].term.to.length c4) := HSd.out.block.cell 4
                have z5 : wd.cell? ⟨xb, 5, none⟩ = some (.int .i32 bs[it.blk].term.imm) := HSd.out.block.cell 5
                have g0 : wd.cell? ⟨w.heap.size + 1, 0, none⟩ = some (.int .i64 0) := HSd.out.got.cell 0
                have g1 : wd.cell? ⟨w.heap.size + 1, 1, none⟩ = some (.int .i64 0) := HSd.out.got.cell 1
                have g2 : wd.cell? ⟨w.heap.size + 1, 2, none⟩ = some (.int .i64 0) := HSd.out.got.cell 2
                have g3 := HSd.out.got.frozen 0
                have g4 := HSd.out.got.frozen 1
                have g5 := HSd.out.got.frozen 2
                have f0 : wd.cell? ⟨w.heap.size, 0, none⟩ = some (.int .i64 params) := HSd.out.func.cell 0
                have f1 : wd.cell? ⟨w.heap.size, 1, none⟩ = some (.slice (some ⟨gB, oB, none⟩) bs.length c) := HSd.out.func.cell 1
                have HGE := Lib.hid (got_set HSd.out.got 11 (it.blk : Int) (bs[it.blk].ins.length : Int))
                have HBE := Lib.hid ((HSd.out.below.setCell (p := ⟨w.heap.size + 1, 0, none⟩) (Nat.le_succ _) (.int .i64 11)).setCell (p := ⟨w.heap.size + 1, 1, none⟩) (Nat.le_succ _) (.int .i64 (it.blk : Int)) |>.setCell (p := ⟨w.heap.size + 1, 2, none⟩) (Nat.le_succ _) (.int .i64 (bs[it.blk].ins.length : Int)))
                go_wp2
                rw [HE.out]
                refine got_ret HGE.out HBE.out ?_ ?_ <;> rfl
              · by_cases ho2 : 8191 < x
                · have HO := Lib.hid (show outB params x = true by unfold outB; rw [decide_eq_true (show (8192 : Int) ≤ x by omega)]; simp)
                  have HE := Lib.hid (show R = .error (11, (it.blk : Int), (bs[it.blk].ins.length : Int)) by
                    rw [← HVS.out]; unfold stepG
                    rw [if_neg (by rw [K2.out]; simp), if_pos (HAT.out (by rw [HTS.out]; exact HO.out)), HPL.out]; rfl)
                  go_wp2_with fail
                  go_quiet (fail)
                  obtain ⟨wd, hwd⟩ : ∃ wd, wi.drewN nq = wd := ⟨_, rfl⟩
                  rw [hwd]
                  have HBd := Lib.hid (show Below wi.heap.size wi wd by rw [← hwd]; exact below_drewK (Below.refl _ _) _)
                  have HSd := Lib.hid (HSi.out.keep HBd.out)
                  clear hwd y0 y1 y2 z1 z2 z3 z4 z5 g0 g1 g2 g3 g4 g5 f0 f1
                  have y0 : wd.cell? ⟨tb, 0, none⟩ = some (.int .i64 (it.blk : Int)) := HSd.out.thing.cell 0
                  have y1 : wd.cell? ⟨tb, 1, none⟩ = some (.int .i64 (bs[it.blk].ins.length : Int)) := HSd.out.thing.cell 1
                  have y2 : wd.cell? ⟨tb, 2, none⟩ = some (.slice (some ad) it.mks.length mc) := HSd.out.thing.cell 2
                  have z1 : wd.cell? ⟨xb, 1, none⟩ = some (.slice p1 bs[it.blk].ins.length c1) := HSd.out.block.cell 1
                  have z2 : wd.cell? ⟨xb, 2, none⟩ = some (.int .i64 bs[it.blk].term.kind) := HSd.out.block.cell 2
                  have z3 : wd.cell? ⟨xb, 3, none⟩ = some (.slice p3 bs[it.blk].term.args.length c3) := HSd.out.block.cell 3
                  have z4 : wd.cell? ⟨xb, 4, none⟩ = some (.slice p4 bs[it.blk].term.to.length c4) := HSd.out.block.cell 4
                  have z5 : wd.cell? ⟨xb, 5, none⟩ = some (.int .i32 bs[it.blk].term.imm) := HSd.out.block.cell 5
                  have g0 : wd.cell? ⟨w.heap.size + 1, 0, none⟩ = some (.int .i64 0) := HSd.out.got.cell 0
                  have g1 : wd.cell? ⟨w.heap.size + 1, 1, none⟩ = some (.int .i64 0) := HSd.out.got.cell 1
                  have g2 : wd.cell? ⟨w.heap.size + 1, 2, none⟩ = some (.int .i64 0) := HSd.out.got.cell 2
                  have g3 := HSd.out.got.frozen 0
                  have g4 := HSd.out.got.frozen 1
                  have g5 := HSd.out.got.frozen 2
                  have f0 : wd.cell? ⟨w.heap.size, 0, none⟩ = some (.int .i64 params) := HSd.out.func.cell 0
                  have f1 : wd.cell? ⟨w.heap.size, 1, none⟩ = some (.slice (some ⟨gB, oB, none⟩) bs.length c) := HSd.out.func.cell 1
                  have HGE := Lib.hid (got_set HSd.out.got 11 (it.blk : Int) (bs[it.blk].ins.length : Int))
                  have HBE := Lib.hid ((HSd.out.below.setCell (p := ⟨w.heap.size + 1, 0, none⟩) (Nat.le_succ _) (.int .i64 11)).setCell (p := ⟨w.heap.size + 1, 1, none⟩) (Nat.le_succ _) (.int .i64 (it.blk : Int)) |>.setCell (p := ⟨w.heap.size + 1, 2, none⟩) (Nat.le_succ _) (.int .i64 (bs[it.blk].ins.length : Int)))
                  go_wp2
                  rw [HE.out]
                  refine got_ret HGE.out HBE.out ?_ ?_ <;> rfl
                · have HO := Lib.hid (show outB params x = false by unfold outB; rw [decide_eq_false ho1, decide_eq_false (show ¬ (8192 : Int) ≤ x by omega)]; rfl)
                  go_wp2_with fail
                  go_quiet (fail)
                  obtain ⟨wd, hwd⟩ : ∃ wd, wi.drewN nq = wd := ⟨_, rfl⟩
                  rw [hwd]
                  have HBd := Lib.hid (show Below wi.heap.size wi wd by rw [← hwd]; exact below_drewK (Below.refl _ _) _)
                  have HSd := Lib.hid (HSi.out.keep HBd.out)
                  clear hwd y0 y1 y2 z1 z2 z3 z4 z5 g0 g1 g2 g3 g4 g5 f0 f1
                  have y0 : wd.cell? ⟨tb, 0, none⟩ = some (.int .i64 (it.blk : Int)) := HSd.out.thing.cell 0
                  have y1 : wd.cell? ⟨tb, 1, none⟩ = some (.int .i64 (bs[it.blk].ins.length : Int)) := HSd.out.thing.cell 1
                  have y2 : wd.cell? ⟨tb, 2, none⟩ = some (.slice (some ad) it.mks.length mc) := HSd.out.thing.cell 2
                  have z1 : wd.cell? ⟨xb, 1, none⟩ = some (.slice p1 bs[it.blk].ins.length c1) := HSd.out.block.cell 1
                  have z2 : wd.cell? ⟨xb, 2, none⟩ = some (.int .i64 bs[it.blk].term.kind) := HSd.out.block.cell 2
                  have z3 : wd.cell? ⟨xb, 3, none⟩ = some (.slice p3 bs[it.blk].term.args.length c3) := HSd.out.block.cell 3
                  have z4 : wd.cell? ⟨xb, 4, none⟩ = some (.slice p4 bs[it.blk].term.to.length c4) := HSd.out.block.cell 4
                  have z5 : wd.cell? ⟨xb, 5, none⟩ = some (.int .i32 bs[it.blk].term.imm) := HSd.out.block.cell 5
                  have g0 : wd.cell? ⟨w.heap.size + 1, 0, none⟩ = some (.int .i64 0) := HSd.out.got.cell 0
                  have g1 : wd.cell? ⟨w.heap.size + 1, 1, none⟩ = some (.int .i64 0) := HSd.out.got.cell 1
                  have g2 : wd.cell? ⟨w.heap.size + 1, 2, none⟩ = some (.int .i64 0) := HSd.out.got.cell 2
                  have g3 := HSd.out.got.frozen 0
                  have g4 := HSd.out.got.frozen 1
                  have g5 := HSd.out.got.frozen 2
                  have f0 : wd.cell? ⟨w.heap.size, 0, none⟩ = some (.int .i64 params) := HSd.out.func.cell 0
                  have f1 : wd.cell? ⟨w.heap.size, 1, none⟩ = some (.slice (some ⟨gB, oB, none⟩) bs.length c) := HSd.out.func.cell 1
                  go_wp2_with fail
                  go_roundw
                  case rel => exact ⟨q + 1, by omega, by go_num, HBi.out.trans (HBd.out.mono HBi.out.size), by rw [HTS.out]; exact HO.out⟩
                  case measure => simp [intOf]; omega
            · obtain rfl : q = it.mks.length := by omega
              have HNO := Lib.hid (show it.mks.any (outB params) = false by have h := HANY.out; rwa [List.take_length] at h)
              have HVP := Lib.hid (show (bindE (runI (lookI (look1 params bs.length)) ((itemsL bs).drop (k + 1))) (match putE it.blk (bs[it.blk].ins.length : Int) it.mks f with | Except.error e => Except.error e | Except.ok f' => if bad14 bs.length it = true then Except.error (14, (it.blk : Int), (bs[it.blk].ins.length : Int)) else Except.ok f')) = R by
                rw [← HVS.out]; unfold stepG
                rw [if_neg (by rw [K2.out]; simp), if_neg (by rw [HNO.out]; simp), HPL.out]
                rfl)
              generalize hPP : putE it.blk (bs[it.blk].ins.length : Int) it.mks f = P at HVP
              have HPP := Lib.hid hPP
              clear hPP HVS
              go_wp2_with fail
              go_loopw [11] (fun j wr => ∃ (q : Nat) (f' : Spots) (m' : List Bool), q ≤ it.mks.length ∧ j = .int .i64 q ∧ Sh w params (.slice (some ⟨gB, oB, none⟩) bs.length c) (some ⟨gT, oT, none⟩) (itemsL bs).length tc ((itemsL bs).map Item.thing) tb xb [.int .i64 (it.blk : Int), .int .i64 (bs[it.blk].ins.length : Int), .slice mA it.mks.length mc, .slice tA' tkl tc'] [.slice p0 bs[it.blk].phis.length c0, .slice p1 bs[it.blk].ins.length c1, .int .i64 bs[it.blk].term.kind, .slice p3 bs[it.blk].term.args.length c3, .slice p4 bs[it.blk].term.to.length c4, .int .i32 bs[it.blk].term.imm] (.slice mA it.mks.length mc) it.mks m' f' wr ∧ putE it.blk (bs[it.blk].ins.length : Int) (it.mks.drop q) f' = P) (fun j _ => it.mks.length - (intOf j).toNat)
              case atStart => exact ⟨0, f, m, by omega, rfl, HSi.out, by rw [List.drop_zero]; exact HPP.out⟩
              case round =>
                obtain ⟨q, f', m', hq, rfl, hsh, hpe⟩ := hrel
                obtain ⟨wj, rfl⟩ : ∃ wj : World, wj = wr := ⟨_, rfl⟩
                have HSj := Lib.hid hsh
                have HPE := Lib.hid hpe
                clear hsh hpe y0 y1 y2 z1 z2 z3 z4 z5 g0 g1 g2 g3 g4 g5 f0 f1
                have y0 : wj.cell? ⟨tb, 0, none⟩ = some (.int .i64 (it.blk : Int)) := HSj.out.thing.cell 0
                have y1 : wj.cell? ⟨tb, 1, none⟩ = some (.int .i64 (bs[it.blk].ins.length : Int)) := HSj.out.thing.cell 1
                have y2 : wj.cell? ⟨tb, 2, none⟩ = some (.slice mA it.mks.length mc) := HSj.out.thing.cell 2
                have z1 : wj.cell? ⟨xb, 1, none⟩ = some (.slice p1 bs[it.blk].ins.length c1) := HSj.out.block.cell 1
                have z2 : wj.cell? ⟨xb, 2, none⟩ = some (.int .i64 bs[it.blk].term.kind) := HSj.out.block.cell 2
                have z3 : wj.cell? ⟨xb, 3, none⟩ = some (.slice p3 bs[it.blk].term.args.length c3) := HSj.out.block.cell 3
                have z4 : wj.cell? ⟨xb, 4, none⟩ = some (.slice p4 bs[it.blk].term.to.length c4) := HSj.out.block.cell 4
                have z5 : wj.cell? ⟨xb, 5, none⟩ = some (.int .i32 bs[it.blk].term.imm) := HSj.out.block.cell 5
                have g0 : wj.cell? ⟨w.heap.size + 1, 0, none⟩ = some (.int .i64 0) := HSj.out.got.cell 0
                have g1 : wj.cell? ⟨w.heap.size + 1, 1, none⟩ = some (.int .i64 0) := HSj.out.got.cell 1
                have g2 : wj.cell? ⟨w.heap.size + 1, 2, none⟩ = some (.int .i64 0) := HSj.out.got.cell 2
                have g3 := HSj.out.got.frozen 0
                have g4 := HSj.out.got.frozen 1
                have g5 := HSj.out.got.frozen 2
                have f0 : wj.cell? ⟨w.heap.size, 0, none⟩ = some (.int .i64 params) := HSj.out.func.cell 0
                have f1 : wj.cell? ⟨w.heap.size, 1, none⟩ = some (.slice (some ⟨gB, oB, none⟩) bs.length c) := HSj.out.func.cell 1
                by_cases hltq : q < it.mks.length
                · obtain ⟨A', c', e, v1, v2, v3⟩ := HSj.out.ints
                  injection e with e1 _ e3
                  subst e1 e3
                  unfold maxLen at v2
                  obtain ⟨ad, rfl, hx⟩ := v3 q hltq
                  have HPD := Lib.hid ((putE_drop (b := (it.blk : Int)) (p := (bs[it.blk].ins.length : Int)) hltq f').symm.trans HPE.out)
                  have hin := List.any_eq_false.1 HNO.out _ (List.getElem_mem hltq)
                  clear v3
                  generalize it.mks[q] = x at *
                  have hx2 : params ≤ x ∧ x < 8192 := by unfold outB at hin; simp at hin; omega
                  obtain ⟨hx3, hx4⟩ := hx2
                  clear hin
                  obtain ⟨xn, rfl⟩ : ∃ xn : Nat, x = xn := ⟨x.toNat, by omega⟩
                  have hxn : xn < 8192 := by omega
                  have hml : xn < m'.length := by rw [HSj.out.mark.1]; exact hxn
                  have HMK := Lib.hid ((show m'.getD xn false = m'[xn] by rw [List.getD_eq_getElem?_getD, List.getElem?_eq_getElem hml]; rfl).symm.trans (HSj.out.mark.2 xn hxn))
                  have b0 := HSj.out.bools.cell hml
                  have b1 := World.ownsRow.frozenAt HSj.out.bools xn
                  generalize m'[xn] = vb at *
                  have hmx : (m'.length : Int) = 8192 := by rw [HSj.out.mark.1]; rfl
                  clear hml
                  cases vb with
                  | true =>
                    have HE := Lib.hid (show R = .error (12, (it.blk : Int), (bs[it.blk].ins.length : Int)) by
                      have h1 : P = .error (12, (it.blk : Int), (bs[it.blk].ins.length : Int)) := by rw [← HPD.out, if_pos HMK.out.symm]
                      rw [← HVP.out, h1]; rfl)
                    have HGE := Lib.hid (got_set HSj.out.got 12 (it.blk : Int) (bs[it.blk].ins.length : Int))
                    have HBE := Lib.hid ((HSj.out.below.setCell (p := ⟨w.heap.size + 1, 0, none⟩) (Nat.le_succ _) (.int .i64 12)).setCell (p := ⟨w.heap.size + 1, 1, none⟩) (Nat.le_succ _) (.int .i64 (it.blk : Int)) |>.setCell (p := ⟨w.heap.size + 1, 2, none⟩) (Nat.le_succ _) (.int .i64 (bs[it.blk].ins.length : Int)))
                    go_wp2
                    rw [HE.out]
                    refine got_ret HGE.out HBE.out ?_ ?_ <;> rfl
                  | false =>
                    have HPN := Lib.hid (show putE it.blk (bs[it.blk].ins.length : Int) (it.mks.drop (q + 1)) (noted f' xn ((it.blk : Int), (bs[it.blk].ins.length : Int))) = P by
                      rw [← HPD.out, if_neg (by rw [← HMK.out]; simp)])
                    have HSN := Lib.hid (HSj.out.store htb2 hxb2 hxn ((it.blk : Int), (bs[it.blk].ins.length : Int)))
                    go_wp2_with fail
                    go_roundw
                    case rel => exact ⟨q + 1, _, _, by omega, by go_num, HSN.out, HPN.out⟩
                    case measure => simp [intOf]; omega
                · obtain rfl : q = it.mks.length := by omega
                  have HPF := Lib.hid (show P = .ok f' by rw [← HPE.out, List.drop_length]; rfl)
                  have HVQ := Lib.hid (show bindE (runI (lookI (look1 params bs.length)) ((itemsL bs).drop (k + 1))) (if bad14 bs.length it = true then Except.error (14, (it.blk : Int), (bs[it.blk].ins.length : Int)) else Except.ok f') = R by
                    rw [← HVP.out, HPF.out])
                  clear HVP
                  go_wp2_with fail
                  go_loopw [12] (fun j wr => ∃ q : Nat, q ≤ bs[it.blk].term.to.length ∧ j = .int .i64 q ∧ Below wj.heap.size wj wr ∧ (bs[it.blk].term.to.take q).any (toB bs.length) = false) (fun j _ => bs[it.blk].term.to.length - (intOf j).toNat)
                  case atStart => exact ⟨0, by omega, rfl, Below.refl _ _, by simp⟩
                  case round =>
                    obtain ⟨q, hq, rfl, hbw, hany⟩ := hrel
                    obtain ⟨wl, rfl⟩ : ∃ wl : World, wl = wr := ⟨_, rfl⟩
                    have HSl := Lib.hid (HSj.out.keep hbw)
                    have HANY := Lib.hid hany
                    have HBl := Lib.hid hbw
                    clear hbw hany y0 y1 y2 z1 z2 z3 z4 z5 g0 g1 g2 g3 g4 g5 f0 f1
                    have y0 : wl.cell? ⟨tb, 0, none⟩ = some (.int .i64 (it.blk : Int)) := HSl.out.thing.cell 0
                    have y1 : wl.cell? ⟨tb, 1, none⟩ = some (.int .i64 (bs[it.blk].ins.length : Int)) := HSl.out.thing.cell 1
                    have y2 : wl.cell? ⟨tb, 2, none⟩ = some (.slice mA it.mks.length mc) := HSl.out.thing.cell 2
                    have z1 : wl.cell? ⟨xb, 1, none⟩ = some (.slice p1 bs[it.blk].ins.length c1) := HSl.out.block.cell 1
                    have z2 : wl.cell? ⟨xb, 2, none⟩ = some (.int .i64 bs[it.blk].term.kind) := HSl.out.block.cell 2
                    have z3 : wl.cell? ⟨xb, 3, none⟩ = some (.slice p3 bs[it.blk].term.args.length c3) := HSl.out.block.cell 3
                    have z4 : wl.cell? ⟨xb, 4, none⟩ = some (.slice p4 bs[it.blk].term.to.length c4) := HSl.out.block.cell 4
                    have z5 : wl.cell? ⟨xb, 5, none⟩ = some (.int .i32 bs[it.blk].term.imm) := HSl.out.block.cell 5
                    have g0 : wl.cell? ⟨w.heap.size + 1, 0, none⟩ = some (.int .i64 0) := HSl.out.got.cell 0
                    have g1 : wl.cell? ⟨w.heap.size + 1, 1, none⟩ = some (.int .i64 0) := HSl.out.got.cell 1
                    have g2 : wl.cell? ⟨w.heap.size + 1, 2, none⟩ = some (.int .i64 0) := HSl.out.got.cell 2
                    have g3 := HSl.out.got.frozen 0
                    have g4 := HSl.out.got.frozen 1
                    have g5 := HSl.out.got.frozen 2
                    have f0 : wl.cell? ⟨w.heap.size, 0, none⟩ = some (.int .i64 params) := HSl.out.func.cell 0
                    have f1 : wl.cell? ⟨w.heap.size, 1, none⟩ = some (.slice (some ⟨gB, oB, none⟩) bs.length c) := HSl.out.func.cell 1
                    by_cases hltq : q < bs[it.blk].term.to.length
                    · obtain ⟨_, hq1, hq2⟩ := ints_open (HQ4.out.keep HSl.out.below)
                      obtain ⟨ad, hp4, hx⟩ := hq2 q hltq
                      subst hp4
                      have HTS := Lib.hid (any_take_succ (q := toB bs.length) hltq HANY.out)
                      have HAT := Lib.hid (fun (h : (bs[it.blk].term.to.take (q + 1)).any (toB bs.length) = true) => any_of_take h)
                      have HEE := Lib.hid (show toB bs.length (bs[it.blk].term.to[q]) = true → R = .error (14, (it.blk : Int), (bs[it.blk].ins.length : Int)) from fun h => by
                        rw [← HVQ.out, if_pos (by rw [K3.out]; exact HAT.out (by rw [HTS.out]; exact h))]; rfl)
                      clear hq2
                      generalize bs[it.blk].term.to[q] = x at *
                      by_cases ho1 : x < 1
                      · have HE := Lib.hid (HEE.out (by unfold toB; rw [decide_eq_true ho1]; rfl))
                        go_wp2_with fail
                        go_quiet (fail)
                        obtain ⟨wd, hwd⟩ : ∃ wd, wl.drewN nq = wd := ⟨_, rfl⟩
                        rw [hwd]
                        have HBd := Lib.hid (show Below wl.heap.size wl wd by rw [← hwd]; exact below_drewK (Below.refl _ _) _)
                        have HSd := Lib.hid (HSl.out.keep HBd.out)
                        clear hwd y0 y1 y2 z1 z2 z3 z4 z5 g0 g1 g2 g3 g4 g5 f0 f1
                        have y0 : wd.cell? ⟨tb, 0, none⟩ = some (.int .i64 (it.blk : Int)) := HSd.out.thing.cell 0
                        have y1 : wd.cell? ⟨tb, 1, none⟩ = some (.int .i64 (bs[it.blk].ins.length : Int)) := HSd.out.thing.cell 1
                        have y2 : wd.cell? ⟨tb, 2, none⟩ = some (.slice mA it.mks.length mc) := HSd.out.thing.cell 2
                        have z1 : wd.cell? ⟨xb, 1, none⟩ = some (.slice p1 bs[it.blk].ins.length c1) := HSd.out.block.cell 1
                        have z2 : wd.cell? ⟨xb, 2, none⟩ = some (.int .i64 bs[it.blk].term.kind) := HSd.out.block.cell 2
                        have z3 : wd.cell? ⟨xb, 3, none⟩ = some (.slice p3 bs[it.blk].term.args.length c3) := HSd.out.block.cell 3
                        have z4 : wd.cell? ⟨xb, 4, none⟩ = some (.slice (some ad) bs[it.blk].term.to.length c4) := HSd.out.block.cell 4
                        have z5 : wd.cell? ⟨xb, 5, none⟩ = some (.int .i32 bs[it.blk].term.imm) := HSd.out.block.cell 5
                        have g0 : wd.cell? ⟨w.heap.size + 1, 0, none⟩ = some (.int .i64 0) := HSd.out.got.cell 0
                        have g1 : wd.cell? ⟨w.heap.size + 1, 1, none⟩ = some (.int .i64 0) := HSd.out.got.cell 1
                        have g2 : wd.cell? ⟨w.heap.size + 1, 2, none⟩ = some (.int .i64 0) := HSd.out.got.cell 2
                        have g3 := HSd.out.got.frozen 0
                        have g4 := HSd.out.got.frozen 1
                        have g5 := HSd.out.got.frozen 2
                        have f0 : wd.cell? ⟨w.heap.size, 0, none⟩ = some (.int .i64 params) := HSd.out.func.cell 0
                        have f1 : wd.cell? ⟨w.heap.size, 1, none⟩ = some (.slice (some ⟨gB, oB, none⟩) bs.length c) := HSd.out.func.cell 1
                        have HGE := Lib.hid (got_set HSd.out.got 14 (it.blk : Int) (bs[it.blk].ins.length : Int))
                        have HBE := Lib.hid ((HSd.out.below.setCell (p := ⟨w.heap.size + 1, 0, none⟩) (Nat.le_succ _) (.int .i64 14)).setCell (p := ⟨w.heap.size + 1, 1, none⟩) (Nat.le_succ _) (.int .i64 (it.blk : Int)) |>.setCell (p := ⟨w.heap.size + 1, 2, none⟩) (Nat.le_succ _) (.int .i64 (bs[it.blk].ins.length : Int)))
                        go_wp2
                        rw [HE.out]
                        refine got_ret HGE.out HBE.out ?_ ?_ <;> rfl
                      · by_cases ho2 : (bs.length : Int) ≤ x
                        · have HE := Lib.hid (HEE.out (by unfold toB; rw [decide_eq_true ho2]; simp))
                          go_wp2_with fail
                          go_quiet (fail)
                          obtain ⟨wd, hwd⟩ : ∃ wd, wl.drewN nq = wd := ⟨_, rfl⟩
                          rw [hwd]
                          have HBd := Lib.hid (show Below wl.heap.size wl wd by rw [← hwd]; exact below_drewK (Below.refl _ _) _)
                          have HSd := Lib.hid (HSl.out.keep HBd.out)
                          clear hwd y0 y1 y2 z1 z2 z3 z4 z5 g0 g1 g2 g3 g4 g5 f0 f1
                          have y0 : wd.cell? ⟨tb, 0, none⟩ = some (.int .i64 (it.blk : Int)) := HSd.out.thing.cell 0
                          have y1 : wd.cell? ⟨tb, 1, none⟩ = some (.int .i64 (bs[it.blk].ins.length : Int)) := HSd.out.thing.cell 1
                          have y2 : wd.cell? ⟨tb, 2, none⟩ = some (.slice mA it.mks.length mc) := HSd.out.thing.cell 2
                          have z1 : wd.cell? ⟨xb, 1, none⟩ = some (.slice p1 bs[it.blk].ins.length c1) := HSd.out.block.cell 1
                          have z2 : wd.cell? ⟨xb, 2, none⟩ = some (.int .i64 bs[it.blk].term.kind) := HSd.out.block.cell 2
                          have z3 : wd.cell? ⟨xb, 3, none⟩ = some (.slice p3 bs[it.blk].term.args.length c3) := HSd.out.block.cell 3
                          have z4 : wd.cell? ⟨xb, 4, none⟩ = some (.slice (some ad) bs[it.blk].term.to.length c4) := HSd.out.block.cell 4
                          have z5 : wd.cell? ⟨xb, 5, none⟩ = some (.int .i32 bs[it.blk].term.imm) := HSd.out.block.cell 5
                          have g0 : wd.cell? ⟨w.heap.size + 1, 0, none⟩ = some (.int .i64 0) := HSd.out.got.cell 0
                          have g1 : wd.cell? ⟨w.heap.size + 1, 1, none⟩ = some (.int .i64 0) := HSd.out.got.cell 1
                          have g2 : wd.cell? ⟨w.heap.size + 1, 2, none⟩ = some (.int .i64 0) := HSd.out.got.cell 2
                          have g3 := HSd.out.got.frozen 0
                          have g4 := HSd.out.got.frozen 1
                          have g5 := HSd.out.got.frozen 2
                          have f0 : wd.cell? ⟨w.heap.size, 0, none⟩ = some (.int .i64 params) := HSd.out.func.cell 0
                          have f1 : wd.cell? ⟨w.heap.size, 1, none⟩ = some (.slice (some ⟨gB, oB, none⟩) bs.length c) := HSd.out.func.cell 1
                          have HGE := Lib.hid (got_set HSd.out.got 14 (it.blk : Int) (bs[it.blk].ins.length : Int))
                          have HBE := Lib.hid ((HSd.out.below.setCell (p := ⟨w.heap.size + 1, 0, none⟩) (Nat.le_succ _) (.int .i64 14)).setCell (p := ⟨w.heap.size + 1, 1, none⟩) (Nat.le_succ _) (.int .i64 (it.blk : Int)) |>.setCell (p := ⟨w.heap.size + 1, 2, none⟩) (Nat.le_succ _) (.int .i64 (bs[it.blk].ins.length : Int)))
                          go_wp2
                          rw [HE.out]
                          refine got_ret HGE.out HBE.out ?_ ?_ <;> rfl
                        · have HO := Lib.hid (show toB bs.length x = false by unfold toB; rw [decide_eq_false ho1, decide_eq_false ho2]; rfl)
                          go_wp2_with fail
                          go_quiet (fail)
                          obtain ⟨wd, hwd⟩ : ∃ wd, wl.drewN nq = wd := ⟨_, rfl⟩
                          rw [hwd]
                          have HBd := Lib.hid (show Below wl.heap.size wl wd by rw [← hwd]; exact below_drewK (Below.refl _ _) _)
                          have HSd := Lib.hid (HSl.out.keep HBd.out)
                          clear hwd y0 y1 y2 z1 z2 z3 z4 z5 g0 g1 g2 g3 g4 g5 f0 f1
                          have y0 : wd.cell? ⟨tb, 0, none⟩ = some (.int .i64 (it.blk : Int)) := HSd.out.thing.cell 0
                          have y1 : wd.cell? ⟨tb, 1, none⟩ = some (.int .i64 (bs[it.blk].ins.length : Int)) := HSd.out.thing.cell 1
                          have y2 : wd.cell? ⟨tb, 2, none⟩ = some (.slice mA it.mks.length mc) := HSd.out.thing.cell 2
                          have z1 : wd.cell? ⟨xb, 1, none⟩ = some (.slice p1 bs[it.blk].ins.length c1) := HSd.out.block.cell 1
                          have z2 : wd.cell? ⟨xb, 2, none⟩ = some (.int .i64 bs[it.blk].term.kind) := HSd.out.block.cell 2
                          have z3 : wd.cell? ⟨xb, 3, none⟩ = some (.slice p3 bs[it.blk].term.args.length c3) := HSd.out.block.cell 3
                          have z4 : wd.cell? ⟨xb, 4, none⟩ = some (.slice (some ad) bs[it.blk].term.to.length c4) := HSd.out.block.cell 4
                          have z5 : wd.cell? ⟨xb, 5, none⟩ = some (.int .i32 bs[it.blk].term.imm) := HSd.out.block.cell 5
                          have g0 : wd.cell? ⟨w.heap.size + 1, 0, none⟩ = some (.int .i64 0) := HSd.out.got.cell 0
                          have g1 : wd.cell? ⟨w.heap.size + 1, 1, none⟩ = some (.int .i64 0) := HSd.out.got.cell 1
                          have g2 : wd.cell? ⟨w.heap.size + 1, 2, none⟩ = some (.int .i64 0) := HSd.out.got.cell 2
                          have g3 := HSd.out.got.frozen 0
                          have g4 := HSd.out.got.frozen 1
                          have g5 := HSd.out.got.frozen 2
                          have f0 : wd.cell? ⟨w.heap.size, 0, none⟩ = some (.int .i64 params) := HSd.out.func.cell 0
                          have f1 : wd.cell? ⟨w.heap.size, 1, none⟩ = some (.slice (some ⟨gB, oB, none⟩) bs.length c) := HSd.out.func.cell 1
                          go_wp2_with fail
                          go_roundw
                          case rel => exact ⟨q + 1, by omega, by go_num, HBl.out.trans (HBd.out.mono HBl.out.size), by rw [HTS.out]; exact HO.out⟩
                          case measure => simp [intOf]; omega
                    · obtain rfl : q = bs[it.blk].term.to.length := by omega
                      have HVN := Lib.hid (show runI (lookI (look1 params bs.length)) ((itemsL bs).drop (k + 1)) f' = R by
                        rw [← HVQ.out, if_neg (by rw [K3.out]; have h := HANY.out; rw [List.take_length] at h; rw [h]; simp)]; rfl)
                      go_wp2_with fail
                      go_roundw
                      case rel => exact ⟨k + 1, f', m', by omega, by go_num, HSl.out.mark, HSl.out.bools, HVN.out, HSl.out.row, HSl.out.below, HSl.out.func, HSl.out.got⟩
                      case measure => simp [intOf]; omega
    · obtain rfl : k = (itemsL bs).length := by omega
      have HE := Lib.hid (show R = .ok f by rw [← HV.out, List.drop_length]; rfl)
      have g0 : wo.cell? ⟨w.heap.size + 1, 0, none⟩ = some (.int .i64 0) := HG.out.cell 0
      have g1 : wo.cell? ⟨w.heap.size + 1, 1, none⟩ = some (.int .i64 0) := HG.out.cell 1
      have g2 : wo.cell? ⟨w.heap.size + 1, 2, none⟩ = some (.int .i64 0) := HG.out.cell 2
      have g3 := HG.out.frozen 0
      have g4 := HG.out.frozen 1
      have g5 := HG.out.frozen 2
      have HGE := Lib.hid (got_set HG.out 0 0 0)
      have HBE := Lib.hid ((HB.out.setCell (p := ⟨w.heap.size + 1, 0, none⟩) (Nat.le_succ _) (.int .i64 0)).setCell (p := ⟨w.heap.size + 1, 1, none⟩) (Nat.le_succ _) (.int .i64 0) |>.setCell (p := ⟨w.heap.size + 1, 2, none⟩) (Nat.le_succ _) (.int .i64 0))
      go_wp2
      rw [HE.out]
      refine got_ret HGE.out HBE.out ?_ ?_ <;> rfl
end Go.Proofs.Ytdfehpcbcgbidaa.Rf
