/- The document's answer of layer 3: all phis, instructions and terms of a function, as they lie in memory. -/
import Derived.Test.YtdfehpcbcgbidaaRC
import Derived.Test.YtdfehpcbcgbidaaHeld
import Derived.Deep.QuietTactic
namespace Go.Proofs.Ytdfehpcbcgbidaa.Rf
open Go.ChangeShapes Go.WideShapes Go.ChangeAt Go.RowKit Go.Maps Go.Proofs.Ytdfehpcbcgbidaa.Mem Go.Proofs.Ytdfehpcbcgbidaa.Br Go.Proofs.Ytdfehpcbcgbidaa.Gr Go.Proofs.Ytdfehpcbcgbidaa.Kc
set_option linter.unusedVariables false
structure PThing where
  block : Int
  place : Int
  makes : List Int
  takes : List Int
def phiT (b : Nat) (n : Nat) (p : PPhi) : PThing := ⟨b, -1 - (n : Int), [p.dst], p.ins.map Prod.snd⟩
def insT (b : Nat) (n : Nat) (i : PIns) : PThing := ⟨b, n, prodL i.op i.dst i.two, i.args⟩
def phisT (b : Nat) (l : List PPhi) : List PThing := l.zipIdx.map fun x => phiT b x.2 x.1
def inssT (b : Nat) (l : List PIns) : List PThing := l.zipIdx.map fun x => insT b x.2 x.1
def termT (b : Nat) (x : PBlock) : PThing := ⟨b, x.ins.length, [], x.term.args⟩
def thingsB (b : Nat) (x : PBlock) : List PThing := phisT b x.phis ++ inssT b x.ins ++ [termT b x]
def thingsL (bs : List PBlock) : List PThing := bs.zipIdx.flatMap fun x => thingsB x.2 x.1
theorem phisT_succ {b : Nat} {l : List PPhi} {k : Nat} (hk : k < l.length) : phisT b (l.take (k + 1)) = phisT b (l.take k) ++ [phiT b k l[k]] := by
  unfold phisT
  rw [List.take_succ_eq_append_getElem hk, List.zipIdx_append, List.map_append, List.length_take, Nat.min_eq_left (by omega)]
  simp
theorem inssT_succ {b : Nat} {l : List PIns} {k : Nat} (hk : k < l.length) : inssT b (l.take (k + 1)) = inssT b (l.take k) ++ [insT b k l[k]] := by
  unfold inssT
  rw [List.take_succ_eq_append_getElem hk, List.zipIdx_append, List.map_append, List.length_take, Nat.min_eq_left (by omega)]
  simp
theorem thingsL_succ {bs : List PBlock} {k : Nat} (hk : k < bs.length) : thingsL (bs.take (k + 1)) = thingsL (bs.take k) ++ thingsB k bs[k] := by
  unfold thingsL
  rw [List.take_succ_eq_append_getElem hk, List.zipIdx_append, List.flatMap_append, List.length_take, Nat.min_eq_left (by omega)]
  simp
theorem thingsB_len (b : Nat) (x : PBlock) : (thingsB b x).length = sizeP x := by
  unfold thingsB phisT inssT sizeP
  simp
  omega
theorem thingsL_len (bs : List PBlock) : ∀ k, k ≤ bs.length → (thingsL (bs.take k)).length = uptoP bs k
  | 0, _ => by simp [thingsL, uptoP]
  | k + 1, hk => by rw [thingsL_succ (by omega), List.length_append, thingsL_len bs k (by omega), thingsB_len, uptoP_succ (by omega)]
/-- Numbers that lay there before, or that the call made itself. -/
def FixI (w0 w : World) (v : Value) (l : List Int) : Prop := Ints w0 v l ∨ OwnInts w0.heap.size w v l
theorem FixI.ints {w0 w : World} {v : Value} {l : List Int} (h : FixI w0 w v l) (hb : Below w0.heap.size w0 w) : Ints w v l := by
  rcases h with h | h
  · exact h.keep hb
  · exact h.ints
theorem FixI.below {w0 w w' : World} {v : Value} {l : List Int} (h : FixI w0 w v l) (hb : Below w.heap.size w w') : FixI w0 w' v l := by
  rcases h with h | h
  · exact Or.inl h
  · exact Or.inr (own_below h hb)
def ThingV (w0 w : World) (es : List Value) (k : Nat) (t : PThing) : Prop :=
  es[4 * k]? = some (.int .i64 t.block) ∧ es[4 * k + 1]? = some (.int .i64 t.place) ∧ (∃ v, es[4 * k + 2]? = some v ∧ FixI w0 w v t.makes) ∧ ∃ v, es[4 * k + 3]? = some v ∧ FixI w0 w v t.takes
/-- Things that the call made itself. -/
def ThingsOwn (w0 w : World) (v : Value) (l : List PThing) : Prop := ∃ es, w.ownsRow w0.heap.size 87 4 v l.length es ∧ ∀ k (h : k < l.length), ThingV w0 w es k l[k]
theorem ThingsOwn.below {w0 w w' : World} {v : Value} {l : List PThing} (h : ThingsOwn w0 w v l) (hb : Below w.heap.size w w') : ThingsOwn w0 w' v l := by
  obtain ⟨es, h1, h2⟩ := h
  refine ⟨es, own_below h1 hb, fun k hk => ?_⟩
  obtain ⟨a, b, ⟨v1, c1, c2⟩, v2, d1, d2⟩ := h2 k hk
  exact ⟨a, b, ⟨v1, c1, c2.below hb⟩, v2, d1, d2.below hb⟩
theorem ThingsOwn.push {w0 w w' : World} {v v' vm vt : Value} {l : List PThing} {t : PThing} {es : List Value} (h : ∀ k (h : k < l.length), ThingV w0 w es k l[k]) (h1 : w.ownsRow w0.heap.size 87 4 v l.length es) (hm : FixI w0 w vm t.makes) (ht : FixI w0 w vt t.takes)
    (hr : w'.ownsRow w0.heap.size 87 4 v' (l.length + 1) (es ++ [.int .i64 t.block, .int .i64 t.place, vm, vt])) (hg : w.grownBy w' v.ownBlock) : ThingsOwn w0 w' v' (l ++ [t]) := by
  have hlen : es.length = 4 * l.length := by have := h1.1; omega
  have key : ∀ {u : Value} {z : List Int}, FixI w0 w u z → FixI w0 w' u z := by
    intro u z hf
    rcases hf with hf | hf
    · exact Or.inl hf
    · exact Or.inr (World.ownsRow.kept hf hg (own_apart hf h1 (by decide)))
  refine ⟨_, by rw [List.length_append]; exact hr, fun k hk => ?_⟩
  by_cases hk2 : k < l.length
  · obtain ⟨a, b, ⟨v1, c1, c2⟩, v2, d1, d2⟩ := h k hk2
    rw [List.getElem_append_left hk2]
    exact ⟨by rw [List.getElem?_append_left (by omega)]; exact a, by rw [List.getElem?_append_left (by omega)]; exact b, ⟨v1, by rw [List.getElem?_append_left (by omega)]; exact c1, key c2⟩, v2, by rw [List.getElem?_append_left (by omega)]; exact d1, key d2⟩
  · obtain rfl : k = l.length := by rw [List.length_append, List.length_singleton] at hk; omega
    have hz : ∀ i, (es ++ [.int .i64 t.block, .int .i64 t.place, vm, vt])[4 * l.length + i]? = [.int .i64 t.block, .int .i64 t.place, vm, vt][i]? := fun i => by
      rw [List.getElem?_append_right (by omega), hlen, show 4 * l.length + i - 4 * l.length = i by omega]
    rw [List.getElem_append_right (Nat.le_refl _)]
    simp only [Nat.sub_self, List.getElem_cons_zero]
    exact ⟨hz 0, hz 1, ⟨vm, hz 2, key hm⟩, vt, hz 3, key ht⟩
/-- A thing, as it is read. -/
def ThingAt (w : World) (b o : Nat) (t : PThing) : Prop :=
  w.cell? ⟨b, o, none⟩ = some (.int .i64 t.block) ∧ w.cell? ⟨b, o + 1, none⟩ = some (.int .i64 t.place) ∧ (CellAt w b (o + 2) fun s => Ints w s t.makes) ∧ CellAt w b (o + 3) fun s => Ints w s t.takes
theorem ThingAt.keep {w w' : World} (hb : Below w.heap.size w w') (b o : Nat) (t : PThing) (h : ThingAt w b o t) : ThingAt w' b o t :=
  ⟨cell_keep hb (Nat.le_refl _) h.1, cell_keep hb (Nat.le_refl _) h.2.1, h.2.2.1.kept hb fun v hv => hv.keep hb, h.2.2.2.kept hb fun v hv => hv.keep hb⟩
theorem ThingsOwn.read {w0 w : World} {v : Value} {l : List PThing} (h : ThingsOwn w0 w v l) (hb : Below w0.heap.size w0 w) : RowAt w 4 ThingAt v l := by
  obtain ⟨es, h1, h2⟩ := h
  have h1' := h1
  rcases h1.2 with ⟨rfl, h0⟩ | ⟨g, c, cur, rfl, _, _, hn, hm, _⟩
  · have : l = [] := List.length_eq_zero_iff.1 h0
    subst this
    exact rowAt_nil
  · refine ⟨some ⟨g, 0, none⟩, c, g, 0, rfl, hn, hm, fun _ => rfl, fun k hk => ?_⟩
    obtain ⟨a, b, ⟨v1, c1, c2⟩, v2, d1, d2⟩ := h2 k hk
    have hz : ∀ i, i < 4 → w.cell? ⟨g, 0 + k * 4 + i, none⟩ = es[4 * k + i]? := fun i hi => by
      rw [World.ownsRow.cellAt h1' _ (by omega), show 0 + k * 4 + i = 4 * k + i by omega]
    exact ⟨(hz 0 (by omega)).trans a, (hz 1 (by omega)).trans b, ⟨v1, (hz 2 (by omega)).trans c1, c2.ints hb⟩, ⟨v2, (hz 3 (by omega)).trans d1, d2.ints hb⟩⟩
theorem butz_grow {Z : Nat → Prop} {a b c : World} {row : Option Nat} (h : ButZ Z a b) (hg : b.grownBy c row) (hr : ∀ g, row = some g → a.heap.size ≤ g) : ButZ Z a c :=
  ⟨hg.os.trans h.os, hg.tape.trans h.tape, hg.output.trans h.output, Nat.le_trans h.size hg.size, fun k hk hn => (hg.block k (Nat.lt_of_lt_of_le hk h.size) (fun e => by have := hr k e.symm; omega)).trans (h.block k hk hn)⟩
theorem info_thing : (Try.prog.info? 87).map (fun i => (i.zero, i.size, i.bytes)) = some (some (.agg #[.int .i64 0, .int .i64 0, .slice none 0 0, .slice none 0 0]), 4, 64) := by kernel_rfl
theorem empty_things (w0 w : World) (hb : w0.heap.size ≤ w.heap.size) : ThingsOwn w0 (w.alloc (.cells #[] 87)) (.slice (some ⟨w.heap.size, 0, none⟩) 0 0) [] :=
  ⟨[], own_base (World.ownsRow_made w #[] 0 (Nat.le_refl _) (Nat.zero_le _) (by simp)) hb, fun k hk => absurd hk (by simp)⟩
theorem ThingsOwn.form {w0 w : World} {v : Value} {l : List PThing} (h : ThingsOwn w0 w v l) : ∃ A c, v = .slice A l.length c := own_form h.choose_spec.1
/-- One phi's numbers. -/
def TakeAt (w : World) (B tb : Nat) (b p : Int) (mk : Value) (vT : Value) (l : List Int) : Prop := Str w tb 87 [.int .i64 b, .int .i64 p, mk, vT] ∧ OwnInts B w vT l
set_option maxRecDepth 100000 in
set_option maxHeartbeats 16000000 in
theorem things_any (w : World) (params : Int) (gB oB c : Nat) (bs : List PBlock) (hbs : BlocksAt w (.slice (some ⟨gB, oB, none⟩) bs.length c) bs) (hl : uptoP bs bs.length ≤ 100000) (hpi : ∀ x ∈ bs, ∀ p ∈ x.phis, p.ins.length ≤ 100000) :
    Calls Try.prog 43 #[.agg #[.int .i64 params, .slice (some ⟨gB, oB, none⟩) bs.length c]] w (fun e w' => ∃ v, e = .returned v ∧ ThingsOwn w w' v (thingsL bs) ∧ Below w.heap.size w w') := by
  have HBS := Lib.hid hbs
  obtain ⟨i0, hi, hz0, hz1, hz2⟩ := info_parts info_thing
  have HI0 := Lib.hid hi
  have HZ0 := Lib.hid hz0
  have HZ1 := Lib.hid hz1
  have HZ2 := Lib.hid hz2
  obtain ⟨i1, hi, hz0, hz1, hz2⟩ := info_parts info_num
  have HI1 := Lib.hid hi
  have HY0 := Lib.hid hz0
  have HY1 := Lib.hid hz1
  have HY2 := Lib.hid hz2
  have HPI := Lib.hid hpi
  clear hi hz0 hz1 hz2 hbs hpi
  go_enter Try.func43, Try.ntmps43
  go_upto_region 1 with (fail)
  obtain ⟨W1, hW1⟩ : ∃ W1, w.alloc (.cells #[.int .i64 params, .slice (some ⟨gB, oB, none⟩) bs.length c] 24) = W1 := ⟨_, rfl⟩
  rw [hW1]
  have hb1 : Below w.heap.size w W1 := by rw [← hW1]; exact (Below.refl _ _).alloc (Nat.le_refl _) _
  have hs1 : Str W1 w.heap.size 24 [.int .i64 params, .slice (some ⟨gB, oB, none⟩) bs.length c] := by rw [← hW1]; exact World.alloc_heap_new w _
  have hzW1 : W1.heap.size = w.heap.size + 1 := by rw [← hW1]; simp
  clear hW1
  go_upto_region 2 with (fail)
  obtain ⟨W2, hW2⟩ : ∃ W2, W1.alloc (.cells #[] 87) = W2 := ⟨_, rfl⟩
  rw [hW2]
  have ho := empty_things w W1 hb1.size
  rw [hW2, hzW1] at ho
  have hb2 : Below W1.heap.size W1 W2 := by rw [← hW2]; exact (Below.refl _ _).alloc (Nat.le_refl _) _
  have HS2 := Lib.hid (hs1.below hb2)
  have HB2 := Lib.hid (hb1.trans (hb2.mono hb1.size))
  have HO2 := Lib.hid ho
  clear hW2 ho hb2 hb1 hs1 hzW1
  go_wp2_with fail
  go_loopw [3, 4, 5, 6, 7, 8, 9] (fun o i _ _ _ _ _ wr => ∃ k : Nat, k ≤ bs.length ∧ i = .int .i64 k ∧ ThingsOwn w wr o (thingsL (bs.take k)) ∧ Below w.heap.size w wr ∧ Str wr w.heap.size 24 [.int .i64 params, .slice (some ⟨gB, oB, none⟩) bs.length c]) (fun _ i _ _ _ _ _ _ => bs.length - (intOf i).toNat)
  case atStart => exact ⟨0, by omega, rfl, HO2.out, HB2.out, HS2.out⟩
  case round =>
    obtain ⟨k, hk, rfl, ho, hb, hs⟩ := hrel
    obtain ⟨wo, rfl⟩ : ∃ wo : World, wo = wr := ⟨_, rfl⟩
    have f1 : wo.cell? ⟨w.heap.size, 1, none⟩ = some (.slice (some ⟨gB, oB, none⟩) bs.length c) := hs.cell 1
    obtain ⟨oA, oc, hof⟩ := ho.form
    subst hof
    have hll := thingsL_len bs k hk
    have hlu := uptoP_le bs bs.length k hk (Nat.le_refl _)
    have HO := Lib.hid ho
    have HB := Lib.hid hb
    have HS := Lib.hid hs
    have hzo := hb.size
    clear ho hb hs
    by_cases hlt : k < bs.length
    · have HTS := Lib.hid (thingsL_succ hlt)
      have HPK := Lib.hid (HPI.out _ (List.getElem_mem hlt))
      have hLb : (thingsL (bs.take k)).length + (bs[k].phis.length + bs[k].ins.length + 1) ≤ 100000 := by
        have h1 := uptoP_succ hlt
        have h2 := uptoP_le bs bs.length (k + 1) hlt (Nat.le_refl _)
        unfold sizeP at h1
        omega
      clear hll hlu
      obtain ⟨hbl, hbk⟩ := open_block HBS.out hlt
      obtain ⟨p0, c0, p1, c1, p3, c3, p4, c4, r0, r1, r2, r3, r4, r5, q0, q1, q3, q4⟩ := block_rows hbk
      have r0 := cell_keep HB.out (Nat.le_refl _) r0
      have r1 := cell_keep HB.out (Nat.le_refl _) r1
      have r2 := cell_keep HB.out (Nat.le_refl _) r2
      have r3 := cell_keep HB.out (Nat.le_refl _) r3
      have r4 := cell_keep HB.out (Nat.le_refl _) r4
      have r5 := cell_keep HB.out (Nat.le_refl _) r5
      have HQ0 := Lib.hid q0
      have HQ1 := Lib.hid q1
      have HQ3 := Lib.hid q3
      unfold thingsB termT at HTS
      clear q0 q1 q3 q4 hbk
      generalize bs[k].phis = phis at *
      generalize bs[k].ins = inss at *
      generalize bs[k].term = tm at *
      generalize thingsL (bs.take k) = L0 at *
      go_upto_region 6 with (fail)
      obtain ⟨WX, hWX⟩ : ∃ WX, wo.alloc (.cells #[.slice p0 phis.length c0, .slice p1 inss.length c1, .int .i64 tm.kind, .slice p3 tm.args.length c3, .slice p4 tm.to.length c4, .int .i32 tm.imm] 34) = WX := ⟨_, rfl⟩
      rw [hWX]
      have hbx : Below wo.heap.size wo WX := by rw [← hWX]; exact (Below.refl _ _).alloc (Nat.le_refl _) _
      have hsx : Str WX wo.heap.size 34 [.slice p0 phis.length c0, .slice p1 inss.length c1, .int .i64 tm.kind, .slice p3 tm.args.length c3, .slice p4 tm.to.length c4, .int .i32 tm.imm] := by rw [← hWX]; exact World.alloc_heap_new wo _
      have hzWX : WX.heap.size = wo.heap.size + 1 := by rw [← hWX]; simp
      clear hWX
      obtain ⟨xb, hxb⟩ : ∃ xb, wo.heap.size = xb := ⟨_, rfl⟩
      rw [hxb] at hsx ⊢
      have hxw : w.heap.size < xb := by have := HS.out.lt; omega
      have HBX := Lib.hid (HB.out.trans (hbx.mono hzo))
      have HSX := Lib.hid (HS.out.below hbx)
      have HOX := Lib.hid (HO.out.below hbx)
      have HXX := Lib.hid hsx
      clear hbx hsx hzWX hxb r0 r1 r2 r3 r4 r5 f1
      go_wp2_with fail
      go_loopw [3, 6, 7, 8] (fun o i _ _ wr => ∃ n : Nat, n ≤ phis.length ∧ i = .int .i64 n ∧ ThingsOwn w wr o (L0 ++ phisT k (phis.take n)) ∧ Below w.heap.size w wr ∧ Str wr w.heap.size 24 [.int .i64 params, .slice (some ⟨gB, oB, none⟩) bs.length c] ∧ Str wr xb 34 [.slice p0 phis.length c0, .slice p1 inss.length c1, .int .i64 tm.kind, .slice p3 tm.args.length c3, .slice p4 tm.to.length c4, .int .i32 tm.imm]) (fun _ i _ _ _ => phis.length - (intOf i).toNat)
      case atStart => exact ⟨0, by omega, rfl, by simpa [phisT] using HOX.out, HBX.out, HSX.out, HXX.out⟩
      case round =>
        obtain ⟨n, hn, rfl, ho, hb, hs, hxs⟩ := hrel
        obtain ⟨wi, rfl⟩ : ∃ wi : World, wi = wr := ⟨_, rfl⟩
        have x0 : wi.cell? ⟨xb, 0, none⟩ = some (.slice p0 phis.length c0) := hxs.cell 0
        obtain ⟨oA2, oc2, hof⟩ := ho.form
        subst hof
        have hL2 : (L0 ++ phisT k (phis.take n)).length ≤ L0.length + n := by
          rw [List.length_append]; unfold phisT; rw [List.length_map, List.length_zipIdx, List.length_take, Nat.min_eq_left hn]; exact Nat.le_refl _
        have HOi := Lib.hid ho
        have HBi := Lib.hid hb
        have HSi := Lib.hid hs
        have HXi := Lib.hid hxs
        have hzi := hb.size
        have hxi := hxs.lt
        clear ho hb hs hxs
        by_cases hltn : n < phis.length
        · have HPS := Lib.hid (@phisT_succ k phis n hltn)
          have hpl := HPK.out _ (List.getElem_mem hltn)
          obtain ⟨A', c', bP, oP, e, u1, u2, u3, u4⟩ := HQ0.out
          injection e with e1 _ e3
          subst e1 e3
          have e1 := u3 (by omega)
          subst e1
          unfold maxLen at u2
          obtain ⟨y0, vI, y1, hrow⟩ := u4 n hltn
          obtain ⟨pI, cI, bI, oI, rfl, v1, v2, v3, v4⟩ := hrow
          unfold maxLen at v2
          have HV3 := Lib.hid v3
          have HV4 := Lib.hid v4
          have Y1 := Lib.hid y1
          have y0 := cell_keep HBi.out (Nat.le_refl _) y0
          clear u3 u4 v3 v4 y1
          generalize phis[n] = ph at *
          generalize hL1 : L0 ++ phisT k (phis.take n) = L1 at *
          have HL1 := Lib.hid hL1
          clear hL1
          go_upto_region 10 with (fail)
          obtain ⟨WM, hWM⟩ : ∃ WM, wi.alloc (.cells #[.int .i64 ph.dst] 3) = WM := ⟨_, rfl⟩
          rw [hWM]
          have hbm : Below wi.heap.size wi WM := by rw [← hWM]; exact (Below.refl _ _).alloc (Nat.le_refl _) _
          have hsm : Str WM wi.heap.size 3 [.int .i64 ph.dst] := by rw [← hWM]; exact World.alloc_heap_new wi _
          have hzWM : WM.heap.size = wi.heap.size + 1 := by rw [← hWM]; simp
          clear hWM
          obtain ⟨WT, hWT⟩ : ∃ WT, WM.alloc (.cells #[.int .i64 (k : Int), .int .i64 (-1 - (n : Int)), .slice (some ⟨wi.heap.size, 0, none⟩) 1 1, .slice none 0 0] 87) = WT := ⟨_, rfl⟩
          rw [hWT]
          have hbt : Below WM.heap.size WM WT := by rw [← hWT]; exact (Below.refl _ _).alloc (Nat.le_refl _) _
          have hst : Str WT WM.heap.size 87 [.int .i64 (k : Int), .int .i64 (-1 - (n : Int)), .slice (some ⟨wi.heap.size, 0, none⟩) 1 1, .slice none 0 0] := by rw [← hWT]; exact World.alloc_heap_new WM _
          have hzWT : WT.heap.size = WM.heap.size + 1 := by rw [← hWT]; simp
          clear hWT
          rw [hzWM] at hst
          have hsm := hsm.below hbt
          obtain ⟨tm', htm⟩ : ∃ tm', wi.heap.size = tm' := ⟨_, rfl⟩
          obtain ⟨tb, htb⟩ : ∃ tb, wi.heap.size + 1 = tb := ⟨_, rfl⟩
          have HBT := Lib.hid (show Below wi.heap.size wi WT from hbm.trans (hbt.mono hbm.size))
          rw [htb] at hst ⊢
          rw [htm] at hst hsm ⊢
          have hzT : WT.heap.size = tb + 1 := by omega
          have hxt : xb ≠ tb := by omega
          have htbg : wi.heap.size < tb := by omega
          have htmg : tm' < tb := by omega
          have htmw : w.heap.size ≤ tm' := by omega
          have HST := Lib.hid hst
          have HSM := Lib.hid hsm
          clear hbm hbt hst hsm hzWM hzWT htm htb y0 x0
          go_wp2_with fail
          go_loopw [8] (fun j wr => ∃ (q : Nat) (vT : Value), q ≤ ph.ins.length ∧ j = .int .i64 q ∧ ButZ (· = tb) WT wr ∧ Str wr tb 87 [.int .i64 (k : Int), .int .i64 (-1 - (n : Int)), .slice (some ⟨tm', 0, none⟩) 1 1, vT] ∧ OwnInts WT.heap.size wr vT ((ph.ins.take q).map Prod.snd)) (fun j _ => ph.ins.length - (intOf j).toNat)
          case atStart => exact ⟨0, _, by omega, rfl, ButZ.refl _ _, HST.out, World.ownsRow_nil _ _ _ _⟩
          case round =>
            obtain ⟨q, vT, hq, rfl, hbz, hst, hvt⟩ := hrel
            obtain ⟨wj, rfl⟩ : ∃ wj : World, wj = wr := ⟨_, rfl⟩
            have hql : ((ph.ins.take q).map Prod.snd).length = q := by rw [List.length_map, List.length_take, Nat.min_eq_left hq]
            obtain ⟨tA, tc, htf⟩ := own_form hvt
            rw [hql] at htf
            subst htf
            have HQL := Lib.hid hql
            clear hql
            have HBZ := Lib.hid hbz
            have HSTj := Lib.hid hst
            have HVT := Lib.hid hvt
            have HBj := Lib.hid (show Below w.heap.size w wj from (HBi.out.trans (HBT.out.mono hzi)).trans ⟨hbz.os, hbz.tape, hbz.output, hbz.size, fun g hg => hbz.block g (by omega) (by omega)⟩)
            have s1 : wj.cell? ⟨tb, 3, none⟩ = some (.slice tA q tc) := hst.cell 3
            have s1f := hst.frozen 3
            have t0 : wj.cell? ⟨tb, 0, none⟩ = some (.int .i64 (k : Int)) := hst.cell 0
            have t1 : wj.cell? ⟨tb, 1, none⟩ = some (.int .i64 (-1 - (n : Int))) := hst.cell 1
            have t2 : wj.cell? ⟨tb, 2, none⟩ = some (.slice (some ⟨tm', 0, none⟩) 1 1) := hst.cell 2
            have s2 : wj.cell? ⟨xb, 0, none⟩ = some (.slice (some ⟨bP, oP, none⟩) phis.length c0) := (hbz.str (HXi.out.below HBT.out) hxt).cell 0
            have s3 := cell_keep HBj.out (Nat.le_refl _) Y1.out
            have hzj := hbz.size
            clear hbz hst hvt
            by_cases hltq : q < ph.ins.length
            · obtain ⟨z0, z1⟩ := HV4.out q hltq
              have e1 := HV3.out (by omega)
              subst e1
              have HTK := Lib.hid (show (ph.ins.take (q + 1)).map Prod.snd = (ph.ins.take q).map Prod.snd ++ [ph.ins[q].2] by rw [List.take_succ_eq_append_getElem hltq, List.map_append]; rfl)
              have s4 := cell_keep HBj.out (Nat.le_refl _) z1
              have HZ1x := Lib.hid z1
              clear z0 z1
              generalize ph.ins[q].2 = x at *
              generalize (ph.ins.take q).map Prod.snd = tl at *
              go_wp2_with fail
              refine region_held_wp (fun w' => w'.cell? ⟨tb, 3, none⟩ = some (.slice tA q tc) ∧ w'.cell? ⟨xb, 0, none⟩ = some (.slice (some ⟨bP, oP, none⟩) phis.length c0) ∧ w'.cell? ⟨bP, oP + n * 2 + 1, none⟩ = some (.slice (some ⟨bI, oI, none⟩) ph.ins.length cI) ∧ w'.cell? ⟨bI, oI + q * 2 + 1, none⟩ = some (.int .i64 x)) [0, 1, 2, 3, 4, 5, 6, 7, 8, 9, 10, 11, 14] [0, 1, 2, 3, 4, 5, 6, 7, 8, 9, 10, 11, 12, 13, 14, 15] (by kernel_rfl) (by kernel_rfl) (by kernel_rfl) rfl (by intro c a d v w h; cases d <;> exact h) ⟨s1, s2, s3, s4⟩ ?_
              refine walkH_still _ ?u0 rfl rfl rfl ?uy0 ?_
              case uy0 => intro w hS; go_simp; first | done | with_reducible rfl
              simp only [Act.put]
              refine walkH_still _ ?u1 rfl rfl rfl ?uy1 ?_
              case uy1 => intro w hS; go_simp; first | done | with_reducible rfl
              simp only [Act.put]
              refine walkH_still _ ?u2 rfl rfl rfl ?uy2 ?_
              case uy2 => intro w hS; go_simp; first | done | with_reducible rfl
              simp only [Act.put]
              refine walkH_still _ ?u3 rfl rfl rfl ?uy3 ?_
              case uy3 => intro w hS; go_simp; first | done | with_reducible rfl
              simp only [Act.put]
              refine walkH_still _ ?u4 rfl rfl rfl ?uy4 ?_
              case uy4 => intro w hS; go_simp; first | done | with_reducible rfl
              simp only [Act.put]
              refine walkH_still _ ?u5 rfl rfl rfl ?uy5 ?_
              case uy5 => intro w hS; go_simp; first | done | with_reducible rfl
              simp only [Act.put]
              refine walkH_still _ ?u6 rfl rfl rfl ?uy6 ?_
              case uy6 => intro w hS; go_simp; first | done | with_reducible rfl
              simp only [Act.put]
              refine walkH_still _ ?u7 rfl rfl rfl ?uy7 ?_
              case uy7 => intro w hS; go_simp; first | done | with_reducible rfl
              simp only [Act.put]
              refine walkH_still _ ?u8 rfl rfl rfl ?uy8 ?_
              case uy8 => intro w hS; go_simp; first | done | with_reducible rfl
              simp only [Act.put]
              refine walkH_still _ ?u9 rfl rfl rfl ?uy9 ?_
              case uy9 => intro w hS; go_simp; first | done | with_reducible rfl
              simp only [Act.put]
              refine walkH_still _ ?u10 rfl rfl rfl ?uy10 ?_
              case uy10 => intro w hS; go_simp; first | done | with_reducible rfl
              simp only [Act.put]
              refine walkH_still _ ?u11 rfl rfl rfl ?uy11 ?_
              case uy11 => intro w hS; go_simp; first | done | with_reducible rfl
              simp only [Act.put]
              try simp only [List.setIfInBounds_toArray, List.set_cons_zero, List.set_cons_succ]
              refine walkH_does _ rfl rfl ?_
              go_wp2
              have hal : Below wj.heap.size wj (wj.alloc (.cells #[.int .i64 x] 3)) := (Below.refl _ _).alloc (Nat.le_refl _) _
              refine ⟨⟨cell_keep hal (Nat.le_refl _) s1, cell_keep hal (Nat.le_refl _) s2, cell_keep hal (Nat.le_refl _) s3, cell_keep hal (Nat.le_refl _) s4⟩, ?_⟩
              obtain ⟨V2, hV2⟩ : ∃ V2, (wj.alloc (.cells #[.int .i64 x] 3)).drew = V2 := ⟨_, rfl⟩
              rw [hV2]
              have hb2 : Below wj.heap.size wj V2 := by rw [← hV2]; exact hal.drew
              have hs2 : Str V2 wj.heap.size 3 [.int .i64 x] := by rw [← hV2]; exact World.alloc_heap_new wj _
              have s1 := cell_keep hb2 (Nat.le_refl _) s1
              have s2 := cell_keep hb2 (Nat.le_refl _) s2
              have s3 := cell_keep hb2 (Nat.le_refl _) s3
              have s4 := cell_keep hb2 (Nat.le_refl _) s4
              have HV2 := Lib.hid hs2
              have HB2 := Lib.hid hb2
              have hz2 := hb2.size
              have HVT2 := Lib.hid (own_below HVT.out hb2)
              have HST2 := Lib.hid (HSTj.out.below hb2)
              clear hV2 hb2 hs2 hal s1f t0 t1 t2
              try simp only [List.setIfInBounds_toArray, List.set_cons_zero, List.set_cons_succ]
              refine walkH_does _ rfl rfl ?_
              refine wpList_append1 rfl _ _ _ rfl WT.heap.size 3 i1 (.int .i64 0) 8 Try.underlying28 HI1.out HY0.out HY1.out HY2.out rfl (.slice tA q tc) q (tl.map (Value.int .i64)) rfl (by have h9 := HVT2.out; unfold OwnInts at h9; rw [HQL.out] at h9; exact h9) ⟨wj.heap.size, 0, none⟩ (.int .i64 x) rfl (HV2.out.cell 0) rfl (by omega) (by omega) (by omega) ?_
              intro v3 w3 hr3 hg3 hm3
              have hbz3 := butz_grow (HBZ.out.trans (ButZ.of_below HB2.out)) hg3 (fun g hg => (HVT2.out.lt g hg).1)
              have hst3 := HST2.out.kept hg3 (fun e => by have := (HVT2.out.lt tb e.symm).1; omega)
              obtain ⟨vA, vc, hvf⟩ := own_form hr3
              subst hvf
              have hbt3 : Below V2.heap.size V2 V2 := Below.refl _ _
              have s1' : w3.cell? ⟨tb, 3, none⟩ = some (.slice tA q tc) := hst3.cell 3
              have s1f := hst3.frozen 3
              have HR3 := Lib.hid hr3
              have HBZ3 := Lib.hid hbz3
              have HST3 := Lib.hid hst3
              have hB3 := Lib.hid (show Below w.heap.size w w3 from (HBi.out.trans (HBT.out.mono hzi)).trans ⟨hbz3.os, hbz3.tape, hbz3.output, hbz3.size, fun g hg => hbz3.block g (by omega) (by omega)⟩)
              have s3' := cell_keep hB3.out (Nat.le_refl _) Y1.out
              have s2' : w3.cell? ⟨xb, 0, none⟩ = some (.slice (some ⟨bP, oP, none⟩) phis.length c0) := (hbz3.str (HXi.out.below HBT.out) hxt).cell 0
              have s4' : w3.cell? ⟨bI, oI + q * 2 + 1, none⟩ = some (.int .i64 x) := cell_keep hB3.out (Nat.le_refl _) HZ1x.out
              clear hr3 hg3 hm3 hbz3 hst3 hbt3 s1 s2 s3 s4
              refine wpList_nil ⟨Or.inl ⟨s1', s2', s3', s4'⟩, ?_⟩
              refine walkH_still _ ?q14 rfl rfl rfl ?qy14 ?_
              case qy14 => intro w hS; go_simp; first | done | with_reducible rfl
              simp only [Act.put]
              try simp only [List.setIfInBounds_toArray, List.set_cons_zero, List.set_cons_succ]
              refine walkH_does _ rfl rfl ?_
              go_wp2
              refine walkH_nil ?_
              obtain ⟨W5, hW5⟩ : ∃ W5, w3.setCell ⟨tb, 3, none⟩ (.slice vA (q + 1) vc) = W5 := ⟨_, rfl⟩
              have hst5 := HST3.out.set 3 (.slice vA (q + 1) vc)
              have hg5 := setCell_grownBy w3 ⟨tb, 3, none⟩ (.slice vA (q + 1) vc)
              have hr5 : OwnInts WT.heap.size W5 (.slice vA (q + 1) vc) (tl ++ [x]) := by
                rw [← hW5]
                unfold OwnInts
                rw [List.length_append, List.map_append, HQL.out]
                refine World.ownsRow.kept HR3.out hg5 ?_
                cases hv : (Value.slice vA (q + 1) vc).ownBlock with
                | none => exact Or.inl rfl
                | some g =>
                  right
                  intro e
                  injection e with e
                  have := (HR3.out.lt g hv).1
                  change g = tb at e
                  omega
              rw [hW5] at hst5
              have hbz5 : ButZ (· = tb) WT W5 := by rw [← hW5]; exact HBZ3.out.set (Z := (· = tb)) rfl _
              have HST5 := Lib.hid hst5
              have HR5 := Lib.hid hr5
              have HBZ5 := Lib.hid hbz5
              rw [hW5]
              clear hW5 hst5 hg5 hr5 hbz5 s1' s2' s3' s4' s1f
              go_wp2
              go_roundw
              case rel => exact ⟨q + 1, _, by omega, by go_num, HBZ5.out, HST5.out, by rw [HTK.out]; exact HR5.out⟩
              case measure => simp [intOf]; omega
            · obtain rfl : q = ph.ins.length := by omega
              have hvt := HVT.out
              rw [List.take_length] at hvt
              obtain ⟨es, h1, h3⟩ := HOi.out.below (show Below wi.heap.size wi wj from HBT.out.trans ⟨HBZ.out.os, HBZ.out.tape, HBZ.out.output, HBZ.out.size, fun g hg => HBZ.out.block g (by omega) (by omega)⟩)
              obtain ⟨V, hV⟩ : ∃ V, wj.alloc (.cells #[.int .i64 (k : Int), .int .i64 (-1 - (n : Int)), .slice (some ⟨tm', 0, none⟩) 1 1, .slice tA ph.ins.length tc] 87) = V := ⟨_, rfl⟩
              have hbV : Below wj.heap.size wj V := by rw [← hV]; exact (Below.refl _ _).alloc (Nat.le_refl _) _
              have hsV : Str V wj.heap.size 87 [.int .i64 (k : Int), .int .i64 (-1 - (n : Int)), .slice (some ⟨tm', 0, none⟩) 1 1, .slice tA ph.ins.length tc] := by rw [← hV]; exact World.alloc_heap_new wj _
              have HVV := Lib.hid hV
              have HPV := Lib.hid hsV
              have hvs := HBj.out.size
              have HBV := Lib.hid (HBj.out.trans (hbV.mono hvs))
              have HE1 := Lib.hid (own_below h1 hbV)
              have HE3 := Lib.hid (show ∀ k (h : k < L1.length), ThingV w V es k L1[k] from fun k hk => by
                obtain ⟨a, b, ⟨v1, c1, c2⟩, v2, d1, d2⟩ := h3 k hk
                exact ⟨a, b, ⟨v1, c1, c2.below hbV⟩, v2, d1, d2.below hbV⟩)
              have HFM := Lib.hid (show FixI w V (.slice (some ⟨tm', 0, none⟩) 1 1) [ph.dst] from Or.inr (own_lit (l := [ph.dst]) ((HBZ.out.str (HSM.out) (by omega)).below hbV) rfl (by omega) (by simp)))
              have HFT := Lib.hid (show FixI w V (.slice tA ph.ins.length tc) (ph.ins.map Prod.snd) from Or.inr (own_base (own_below hvt hbV) (by omega)))
              have HXV := Lib.hid ((HBZ.out.str (HXi.out.below HBT.out) hxt).below hbV)
              have HSV := Lib.hid ((HBZ.out.str (HSi.out.below HBT.out) (by omega)).below hbV)
              clear hV hbV hsV h1 h3 hvt s1f
              go_wp2_with (at_builtin; rw [HVV.out]; refine wpList_appendM rfl _ _ _ rfl w.heap.size 87 i0 (.agg #[.int .i64 0, .int .i64 0, .slice none 0 0, .slice none 0 0]) 4 64 Try.underlying83 HI0.out HZ0.out HZ1.out HZ2.out rfl (by decide) (.slice oA2 L1.length oc2) L1.length es rfl HE1.out ⟨wj.heap.size, 0, none⟩ [.int .i64 (k : Int), .int .i64 (-1 - (n : Int)), .slice (some ⟨tm', 0, none⟩) 1 1, .slice tA ph.ins.length tc] rfl rfl ?news ?one (by omega) (by omega) (by have := HBV.out.size; omega) ?_)
              case news =>
                intro j u hj
                rw [Go.Proofs.Ytdfehpcbcgbidaa.Mem.at_add0, HPV.out.cell j]
                exact hj
              case one =>
                intro u hu
                simp only [List.mem_cons, List.not_mem_nil, or_false] at hu
                rcases hu with rfl | rfl | rfl | rfl <;> rfl
              intro v6 w6 hr6 hg6 hm6
              have HPU := Lib.hid (ThingsOwn.push (t := phiT k n ph) HE3.out HE1.out HFM.out HFT.out hr6 hg6)
              have HB6 := Lib.hid (Rf.below_own HBV.out (by have := HBV.out.size; omega) hg6 (fun g hg => (HE1.out.lt g hg).1))
              have HX6 := Lib.hid (HXV.out.kept hg6 (HXV.out.not_row (by decide) HE1.out))
              have HS6 := Lib.hid (HSV.out.kept hg6 (HSV.out.not_row (by decide) HE1.out))
              clear hr6 hg6 hm6
              go_wp2_with fail
              exact ⟨⟨n + 1, by omega, by go_num, by rw [HPS.out, ← List.append_assoc, HL1.out]; exact HPU.out, HB6.out, HS6.out, HX6.out⟩, by simp [intOf]; omega⟩
        · obtain rfl : n = phis.length := by omega
          have HO1 := Lib.hid (show ThingsOwn w wi (.slice oA2 (L0 ++ phisT k (phis.take phis.length)).length oc2) (L0 ++ phisT k phis) by have h := HOi.out; rw [List.take_length] at h ⊢; exact h)
          have x1 : wi.cell? ⟨xb, 1, none⟩ = some (.slice p1 inss.length c1) := HXi.out.cell 1
          clear HOi
          have hL3 : (L0 ++ phisT k phis).length ≤ L0.length + phis.length := by rw [List.take_length] at hL2; exact hL2
          generalize (L0 ++ phisT k (phis.take phis.length)).length = l1 at *
          generalize hL1 : L0 ++ phisT k phis = L1 at *
          have HL1 := Lib.hid hL1
          clear hL1 hL2
          go_wp2_with fail
          go_loopw [3, 9] (fun o i wr => ∃ n : Nat, n ≤ inss.length ∧ i = .int .i64 n ∧ ThingsOwn w wr o (L1 ++ inssT k (inss.take n)) ∧ Below w.heap.size w wr ∧ Str wr w.heap.size 24 [.int .i64 params, .slice (some ⟨gB, oB, none⟩) bs.length c] ∧ Str wr xb 34 [.slice p0 phis.length c0, .slice p1 inss.length c1, .int .i64 tm.kind, .slice p3 tm.args.length c3, .slice p4 tm.to.length c4, .int .i32 tm.imm]) (fun _ i _ => inss.length - (intOf i).toNat)
          case atStart => exact ⟨0, by omega, rfl, by simpa [inssT] using HO1.out, HBi.out, HSi.out, HXi.out⟩
          case round =>
            obtain ⟨n, hn, rfl, ho, hb, hs, hxs⟩ := hrel
            obtain ⟨wj, rfl⟩ : ∃ wj : World, wj = wr := ⟨_, rfl⟩
            have x1 : wj.cell? ⟨xb, 1, none⟩ = some (.slice p1 inss.length c1) := hxs.cell 1
            obtain ⟨oA3, oc3, hof⟩ := ho.form
            subst hof
            have hL4 : (L1 ++ inssT k (inss.take n)).length ≤ L1.length + n := by
              rw [List.length_append]; unfold inssT; rw [List.length_map, List.length_zipIdx, List.length_take, Nat.min_eq_left hn]; exact Nat.le_refl _
            have HOj := Lib.hid ho
            have HBj := Lib.hid hb
            have HSj := Lib.hid hs
            have HXj := Lib.hid hxs
            have hzj := hb.size
            have hxj := hxs.lt
            clear ho hb hs hxs
            by_cases hltn : n < inss.length
            · have HIS := Lib.hid (@inssT_succ k inss n hltn)
              obtain ⟨A', c', bI, oI, e, u1, u2, u3, u4⟩ := HQ1.out
              injection e with e1 _ e3
              subst e1 e3
              have e1 := u3 (by omega)
              subst e1
              unfold maxLen at u2
              obtain ⟨y0, y1, y2, ⟨vA, y3, hrow⟩, y4⟩ := u4 n hltn
              have HROW := Lib.hid hrow
              obtain ⟨pI, cI, rfl, v1, v2, _⟩ := hrow
              have HY := Lib.hid (And.intro y0 (And.intro y1 (And.intro y2 (And.intro y3 y4))))
              have y0 := cell_keep HBj.out (Nat.le_refl _) y0
              have y1 := cell_keep HBj.out (Nat.le_refl _) y1
              have y2 := cell_keep HBj.out (Nat.le_refl _) y2
              have y3 := cell_keep HBj.out (Nat.le_refl _) y3
              have y4 := cell_keep HBj.out (Nat.le_refl _) y4
              clear u3 u4
              generalize inss[n] = it at *
              generalize hL5 : L1 ++ inssT k (inss.take n) = L2 at *
              have HL5 := Lib.hid hL5
              clear hL5
              go_wp2_with fail
              refine region_held_wp (fun w' => w'.cell? ⟨xb, 1, none⟩ = some (.slice (some ⟨bI, oI, none⟩) inss.length c1) ∧ w'.cell? ⟨bI, oI + n * 5, none⟩ = some (.int .i64 it.op) ∧ w'.cell? ⟨bI, oI + n * 5 + 1, none⟩ = some (.int .i64 it.dst) ∧ w'.cell? ⟨bI, oI + n * 5 + 2, none⟩ = some (.int .i64 it.two) ∧ w'.cell? ⟨bI, oI + n * 5 + 3, none⟩ = some (.slice pI it.args.length cI) ∧ w'.cell? ⟨bI, oI + n * 5 + 4, none⟩ = some (.int .i32 it.imm)) [0, 1, 2, 3, 4, 5, 6, 7, 9, 10, 11, 12, 13, 14, 15, 18] [0, 1, 2, 3, 4, 5, 6, 7, 9, 10, 11, 12, 13, 14, 8, 15, 16, 17, 18] (by kernel_rfl) (by kernel_rfl) (by kernel_rfl) rfl (by intro c a d v w h; cases d <;> exact h) ⟨x1, y0, y1, y2, y3, y4⟩ ?_
              refine walkH_still _ ?a0 rfl rfl rfl ?ay0 ?_
              case ay0 => intro w hS; go_simp; first | done | with_reducible rfl
              simp only [Act.put]
              refine walkH_still _ ?a1 rfl rfl rfl ?ay1 ?_
              case ay1 => intro w hS; go_simp; first | done | with_reducible rfl
              simp only [Act.put]
              refine walkH_still _ ?a2 rfl rfl rfl ?ay2 ?_
              case ay2 => intro w hS; go_simp; first | done | with_reducible rfl
              simp only [Act.put]
              refine walkH_still _ ?a3 rfl rfl rfl ?ay3 ?_
              case ay3 => intro w hS; go_simp; first | done | with_reducible rfl
              simp only [Act.put]
              refine walkH_still _ ?a4 rfl rfl rfl ?ay4 ?_
              case ay4 => intro w hS; go_simp; first | done | with_reducible rfl
              simp only [Act.put]
              refine walkH_still _ ?a5 rfl rfl rfl ?ay5 ?_
              case ay5 => intro w hS; go_simp; first | done | with_reducible rfl
              simp only [Act.put]
              refine walkH_still _ ?a6 rfl rfl rfl ?ay6 ?_
              case ay6 => intro w hS; go_simp; first | done | with_reducible rfl
              simp only [Act.put]
              refine walkH_still _ ?a7 rfl rfl rfl ?ay7 ?_
              case ay7 => intro w hS; go_simp; first | done | with_reducible rfl
              simp only [Act.put]
              refine walkH_still _ ?a9 rfl rfl rfl ?ay9 ?_
              case ay9 => intro w hS; go_simp; first | done | with_reducible rfl
              simp only [Act.put]
              refine walkH_still _ ?a10 rfl rfl rfl ?ay10 ?_
              case ay10 => intro w hS; go_simp; first | done | with_reducible rfl
              simp only [Act.put]
              refine walkH_still _ ?a11 rfl rfl rfl ?ay11 ?_
              case ay11 => intro w hS; go_simp; first | done | with_reducible rfl
              simp only [Act.put]
              refine walkH_still _ ?a12 rfl rfl rfl ?ay12 ?_
              case ay12 => intro w hS; go_simp; first | done | with_reducible rfl
              simp only [Act.put]
              refine walkH_still _ ?a13 rfl rfl rfl ?ay13 ?_
              case ay13 => intro w hS; go_simp; first | done | with_reducible rfl
              simp only [Act.put]
              refine walkH_still _ ?a14 rfl rfl rfl ?ay14 ?_
              case ay14 => intro w hS; go_simp; first | done | with_reducible rfl
              simp only [Act.put]
              try simp only [List.setIfInBounds_toArray, List.set_cons_zero, List.set_cons_succ]
              refine walkH_does _ rfl rfl ?_
              go_wp2_with fail
              refine (makes3r_any _ it.op it.dst it.two it.imm _).mono ?_
              rintro e w5 ⟨v5, rfl, hm5, hb5⟩
              go_wp2
              have hb5' : Below wj.heap.size wj w5 := (Below.refl _ _).drew.trans hb5
              have ho5 : OwnInts wj.heap.size w5 v5 (prodL it.op it.dst it.two) := hm5
              have hz5 := hb5'.size
              have x1 := cell_keep hb5' (Nat.le_refl _) x1
              have y0 := cell_keep hb5' (Nat.le_refl _) y0
              have y1 := cell_keep hb5' (Nat.le_refl _) y1
              have y2 := cell_keep hb5' (Nat.le_refl _) y2
              have y3 := cell_keep hb5' (Nat.le_refl _) y3
              have y4 := cell_keep hb5' (Nat.le_refl _) y4
              obtain ⟨mA, mc, hmf⟩ := own_form ho5
              subst hmf
              have HM5 := Lib.hid ho5
              have HB5 := Lib.hid hb5'
              clear hb5 hb5' ho5 hm5
              refine ⟨⟨x1, y0, y1, y2, y3, y4⟩, ?_⟩
              refine walkH_still _ ?b15 rfl rfl rfl ?by15 ?_
              case by15 => intro w hS; go_simp; first | done | with_reducible rfl
              simp only [Act.put]
              try simp only [List.setIfInBounds_toArray, List.set_cons_zero, List.set_cons_succ]
              refine walkH_does _ rfl rfl ?_
              go_wp2
              obtain ⟨V, hV⟩ : ∃ V, (w5.alloc (.cells #[.int .i64 (k : Int), .int .i64 (n : Int), .slice mA (prodL it.op it.dst it.two).length mc, .slice pI it.args.length cI] 87)) = V := ⟨_, rfl⟩
              have hbV : Below w5.heap.size w5 V := by rw [← hV]; exact (Below.refl _ _).alloc (Nat.le_refl _) _
              have hsV : Str V w5.heap.size 87 [.int .i64 (k : Int), .int .i64 (n : Int), .slice mA (prodL it.op it.dst it.two).length mc, .slice pI it.args.length cI] := by rw [← hV]; exact World.alloc_heap_new w5 _
              rw [hV]
              refine ⟨⟨cell_keep hbV (Nat.le_refl _) x1, cell_keep hbV (Nat.le_refl _) y0, cell_keep hbV (Nat.le_refl _) y1, cell_keep hbV (Nat.le_refl _) y2, cell_keep hbV (Nat.le_refl _) y3, cell_keep hbV (Nat.le_refl _) y4⟩, ?_⟩
              obtain ⟨es, h1, h3⟩ := (HOj.out.below HB5.out).below hbV
              have HPV := Lib.hid hsV
              have HBVj := Lib.hid (HB5.out.trans (hbV.mono hz5))
              have HBV := Lib.hid (HBj.out.trans (HBVj.out.mono hzj))
              have HE1 := Lib.hid h1
              have HE3 := Lib.hid h3
              have HFM := Lib.hid (show FixI w V (.slice mA (prodL it.op it.dst it.two).length mc) (prodL it.op it.dst it.two) from Or.inr (own_base (own_below HM5.out hbV) hzj))
              have HFT := Lib.hid (show FixI w V (.slice pI it.args.length cI) it.args from Or.inl HROW.out)
              have HXV := Lib.hid (HXj.out.below HBVj.out)
              have HSV := Lib.hid (HSj.out.below HBVj.out)
              have hV5 := hbV.size
              clear hV hbV hsV h1 h3 x1 y0 y1 y2 y3 y4
              try simp only [List.setIfInBounds_toArray, List.set_cons_zero, List.set_cons_succ]
              refine walkH_does _ rfl rfl ?_
              refine wpList_appendM rfl _ _ _ rfl w.heap.size 87 i0 (.agg #[.int .i64 0, .int .i64 0, .slice none 0 0, .slice none 0 0]) 4 64 Try.underlying83 HI0.out HZ0.out HZ1.out HZ2.out rfl (by decide) (.slice oA3 L2.length oc3) L2.length es rfl HE1.out ⟨w5.heap.size, 0, none⟩ [.int .i64 (k : Int), .int .i64 (n : Int), .slice mA (prodL it.op it.dst it.two).length mc, .slice pI it.args.length cI] rfl rfl ?news ?one (by omega) (by omega) (by have := HBV.out.size; omega) ?_
              case news =>
                intro j u hj
                show V.cell? _ = _
                rw [Go.Proofs.Ytdfehpcbcgbidaa.Mem.at_add0, HPV.out.cell j]
                exact hj
              case one =>
                intro u hu
                simp only [List.mem_cons, List.not_mem_nil, or_false] at hu
                rcases hu with rfl | rfl | rfl | rfl <;> rfl
              intro v6 w6 hr6 hg6 hm6
              have HPU := Lib.hid (ThingsOwn.push (t := insT k n it) HE3.out HE1.out HFM.out HFT.out hr6 hg6)
              have HB6 := Lib.hid (Rf.below_own HBV.out (by have := HBV.out.size; omega) hg6 (fun g hg => (HE1.out.lt g hg).1))
              have HX6 := Lib.hid (HXV.out.kept hg6 (HXV.out.not_row (by decide) HE1.out))
              have HS6 := Lib.hid (HSV.out.kept hg6 (HSV.out.not_row (by decide) HE1.out))
              have x1 : w6.cell? ⟨xb, 1, none⟩ = some (.slice (some ⟨bI, oI, none⟩) inss.length c1) := HX6.out.cell 1
              obtain ⟨y0, y1, y2, y3, y4⟩ := HY.out
              have y0 := cell_keep HB6.out (Nat.le_refl _) y0
              have y1 := cell_keep HB6.out (Nat.le_refl _) y1
              have y2 := cell_keep HB6.out (Nat.le_refl _) y2
              have y3 := cell_keep HB6.out (Nat.le_refl _) y3
              have y4 := cell_keep HB6.out (Nat.le_refl _) y4
              obtain ⟨rA, rc, hrf⟩ := own_form hr6
              subst hrf
              clear hr6 hg6 hm6
              refine wpList_nil ⟨Or.inl ⟨x1, y0, y1, y2, y3, y4⟩, ?_⟩
              refine walkH_still _ ?d18 rfl rfl rfl ?dy18 ?_
              case dy18 => intro w hS; go_simp; first | done | with_reducible rfl
              simp only [Act.put]
              refine walkH_nil ?_
              clear x1 y0 y1 y2 y3 y4
              go_wp2_with fail
              go_roundw
              case rel => exact ⟨n + 1, by omega, by go_num, by rw [HIS.out, ← List.append_assoc, HL5.out]; exact HPU.out, HB6.out, HS6.out, HX6.out⟩
              case measure => simp [intOf]; omega
            · obtain rfl : n = inss.length := by omega
              have HO2 := Lib.hid (show ThingsOwn w wj (.slice oA3 (L1 ++ inssT k (inss.take inss.length)).length oc3) (L1 ++ inssT k inss) by have h := HOj.out; rw [List.take_length] at h ⊢; exact h)
              have x2 : wj.cell? ⟨xb, 2, none⟩ = some (.int .i64 tm.kind) := HXj.out.cell 2
              have x3 : wj.cell? ⟨xb, 3, none⟩ = some (.slice p3 tm.args.length c3) := HXj.out.cell 3
              have x4 : wj.cell? ⟨xb, 4, none⟩ = some (.slice p4 tm.to.length c4) := HXj.out.cell 4
              have x5 : wj.cell? ⟨xb, 5, none⟩ = some (.int .i32 tm.imm) := HXj.out.cell 5
              clear HOj
              rw [List.take_length] at hL4
              generalize hq : (L1 ++ inssT k (inss.take inss.length)).length = l2 at *
              generalize hL6 : L1 ++ inssT k inss = L2 at *
              have hl2 : l2 = L2.length := by rw [← hq, ← hL6, List.take_length]
              subst hl2
              have HL6 := Lib.hid hL6
              clear hL6 hq
              obtain ⟨V, hV⟩ : ∃ V, wj.alloc (.cells #[.int .i64 (k : Int), .int .i64 (inss.length : Int), .slice none 0 0, .slice p3 tm.args.length c3] 87) = V := ⟨_, rfl⟩
              have hbV : Below wj.heap.size wj V := by rw [← hV]; exact (Below.refl _ _).alloc (Nat.le_refl _) _
              have hsV : Str V wj.heap.size 87 [.int .i64 (k : Int), .int .i64 (inss.length : Int), .slice none 0 0, .slice p3 tm.args.length c3] := by rw [← hV]; exact World.alloc_heap_new wj _
              have HVV := Lib.hid hV
              obtain ⟨es, h1, h3⟩ := HO2.out.below hbV
              have HPV := Lib.hid hsV
              have HBV := Lib.hid (HBj.out.trans (hbV.mono hzj))
              have HE1 := Lib.hid h1
              have HE3 := Lib.hid h3
              have HFM := Lib.hid (show FixI w V (.slice none 0 0) [] from Or.inl (ints_none w))
              have HFT := Lib.hid (show FixI w V (.slice p3 tm.args.length c3) tm.args from Or.inl HQ3.out)
              have HSV := Lib.hid (HSj.out.below hbV)
              clear hV hbV hsV h1 h3
              go_wp2_with (at_builtin; rw [HVV.out]; refine wpList_appendM rfl _ _ _ rfl w.heap.size 87 i0 (.agg #[.int .i64 0, .int .i64 0, .slice none 0 0, .slice none 0 0]) 4 64 Try.underlying83 HI0.out HZ0.out HZ1.out HZ2.out rfl (by decide) (.slice oA3 L2.length oc3) L2.length es rfl HE1.out ⟨wj.heap.size, 0, none⟩ [.int .i64 (k : Int), .int .i64 (inss.length : Int), .slice none 0 0, .slice p3 tm.args.length c3] rfl rfl ?news ?one (by omega) (by omega) (by have := HBV.out.size; omega) ?_)
              case news =>
                intro j u hj
                rw [Go.Proofs.Ytdfehpcbcgbidaa.Mem.at_add0, HPV.out.cell j]
                exact hj
              case one =>
                intro u hu
                simp only [List.mem_cons, List.not_mem_nil, or_false] at hu
                rcases hu with rfl | rfl | rfl | rfl <;> rfl
              intro v6 w6 hr6 hg6 hm6
              have HPU := Lib.hid (ThingsOwn.push (t := ⟨k, inss.length, [], tm.args⟩) HE3.out HE1.out HFM.out HFT.out hr6 hg6)
              have HB6 := Lib.hid (Rf.below_own HBV.out (by have := HBV.out.size; omega) hg6 (fun g hg => (HE1.out.lt g hg).1))
              have HS6 := Lib.hid (HSV.out.kept hg6 (HSV.out.not_row (by decide) HE1.out))
              clear hr6 hg6 hm6 x1 x2 x3 x4 x5
              go_wp2_with fail
              exact ⟨⟨k + 1, by omega, by go_num, by rw [HTS.out, ← List.append_assoc, ← List.append_assoc, HL1.out, HL6.out]; exact HPU.out, HB6.out, HS6.out⟩, by simp [intOf]; omega⟩
    · obtain rfl : k = bs.length := by omega
      go_wp2_with fail
      go_ret
      exact ⟨.slice oA (thingsL (bs.take bs.length)).length oc, rfl, by have h := HO.out; rw [List.take_length] at h ⊢; exact h, HB.out⟩
end Go.Proofs.Ytdfehpcbcgbidaa.Rf
