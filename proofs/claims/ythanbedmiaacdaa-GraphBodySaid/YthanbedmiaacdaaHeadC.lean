/- What package graph's Headers answers. -/
import Derived.Test.YthanbedmiaacdaaBack
import Derived.Sort.CutIn
namespace Go.Proofs.Ythanbedmiaacdaa.Gc
open Go.ChangeShapes Go.WideShapes Go.ChangeAt Go.RowKit Go.Shelf Go.Proofs.Ythanbedmiaacdaa.Mem Go.Proofs.Ythanbedmiaacdaa.Gr Go.Proofs.Ythanbedmiaacdaa.Gn Go.Proofs.Ythanbedmiaacdaa.Br Go.Proofs.Ythanbedmiaacdaa.Rp
set_option linter.unusedVariables false
attribute [local go_sem] Oper.semAt_some

theorem region_tree {P : Program} {F : Fence} {n : Nat} (hF : Lets F) {id : Nat} {l : List Oper} {Q : Exit → Act → World → Prop} {a : Act} {w : World} (S : World → Prop) (hm : P.follows .mixedOrders = true) (hp : plainB l.toArray = true) (hQ : ∀ a w, ¬ Q .outgrown a w)
    (h : wpAnyT P .any l.toArray Q S l.toArray.size (Array.replicate l.toArray.size false) a { w with drawn := w.drawn + 1 }) : (Code.region id l.toArray true).wpIn F n P Q a w :=
  region_any hF hm hp hQ (wpAny_of_T (S := S) _ _ _ _ h)
/-- A flow's box. -/
structure FlowBox (w : World) (X : Nat) (T : G) : Prop where
  is : ∃ vs, Str w X 70 vs ∧ vs.length = 7 ∧ ReadFlow w (.agg vs.toArray) T
theorem FlowBox.keep {w w' : World} {X : Nat} {T : G} (h : FlowBox w X T) (hb : Below w.heap.size w w') : FlowBox w' X T := by
  obtain ⟨vs, h1, h2, h3⟩ := h.is
  exact ⟨vs, h1.below hb, h2, h3.keep hb⟩
theorem ReadFlow.seven {w : World} {x : Value} {T : G} (h : ReadFlow w x T) : ∃ Ac nc cc Al nl cl An nn cn Ap np cp b1 b3 A c, x = .agg #[.slice Ac nc cc, .slice Al nl cl, .slice An nn cn, .slice Ap np cp, .slice (some ⟨b1, 0, none⟩) T.length T.length, .slice (some ⟨b3, 0, none⟩) T.length T.length, .slice A (spansOf T).length c] := by
  obtain ⟨vc, vl, vn, vp, b1, b3, vs, e, h1, _, _, h4⟩ := h.is
  obtain ⟨A, c, rfl, _⟩ := h4
  obtain ⟨Ac, nc, cc, rfl⟩ := ints_form h1.came
  obtain ⟨Al, nl, cl, rfl⟩ := ints_form h1.left
  obtain ⟨An, nn, cn, rfl⟩ := ints_form h1.number
  obtain ⟨Ap, np, cp, rfl⟩ := ints_form h1.parent
  exact ⟨_, _, _, _, _, _, _, _, _, _, _, _, _, _, _, _, e⟩
theorem keepsO_below {W W' : World} (hb : Below W.heap.size W W') : KeepsOthers W W' := ⟨hb.size, fun k o h _ => (hb.block k (Array.getElem?_eq_some_iff.1 h).1).trans h⟩
/-- What is marked when some edges have come. -/
def headAt (T : G) (es : List (Nat × Nat)) : List Bool := es.foldl (headStep T) (List.replicate T.length false)
theorem headStep_len (T : G) (m : List Bool) (e : Nat × Nat) : (headStep T m e).length = m.length := by
  unfold headStep; split
  · rw [List.length_set]
  · rfl
theorem headAt_len (T : G) (es : List (Nat × Nat)) : (headAt T es).length = T.length := by
  unfold headAt; rw [foldl_len _ (headStep_len T), List.length_replicate]
theorem headAt_snoc (T : G) (es : List (Nat × Nat)) (e : Nat × Nat) : headAt T (es ++ [e]) = headStep T (headAt T es) e := by unfold headAt; rw [List.foldl_append]; rfl
theorem edges_few {T : G} (hs : Small (lii T)) : (edgesN T).length ≤ 1000000 := by
  have h1 := hs.1
  rw [lii_len] at h1
  have := edgesTo_len (T := T) (fun i h => by
    have := hs.2 i (by rw [lii_len]; exact h)
    rw [lii_at h, li_len] at this
    exact this) T.length (Nat.le_refl _)
  unfold edgesN; omega
set_option maxRecDepth 100000 in
set_option maxHeartbeats 2000000 in
theorem headers_code (w : World) (v : Value) (g : List (List Int)) (hg : Grid w v g) (hs : Small g) (hsp : Spans (tidyN g)) :
    Calls Try.prog 28 #[v] w (MadeRow (li (headersN (tidyN g))) w) := by
  obtain ⟨A, n0, ca, rfl⟩ : ∃ A n c, v = .slice A n c := by obtain ⟨A, c, e, _⟩ := hg; exact ⟨A, _, c, e⟩
  have hn0 : n0 = g.length := by obtain ⟨A, c, e, _⟩ := hg; injection e
  subst hn0
  have hgl := hs.1
  have hT := tidyN_ok g
  have hTl := tidyN_len g
  have hTs := tidyN_small (g := g) hgl
  have HG := Lib.hid hg
  have HS := Lib.hid hs
  have HSP := Lib.hid hsp
  have HTL := Lib.hid hTl
  have HT := Lib.hid hT
  have HTS := Lib.hid hTs
  obtain ⟨i0, hi, hz0, hz1, hz2⟩ := info_parts info_bool
  have HI := Lib.hid hi
  have HZ0 := Lib.hid hz0
  have HZ1 := Lib.hid hz1
  have HZ2 := Lib.hid hz2
  clear hg hs hsp hi hz0 hz1 hz2 hTl hT hTs
  refine (callsIn_wide (n := 9)).1 ?_
  refine callsIn_of_wp_marks Try.func28 rfl trivial ?_ rfl
  simp only [Try.ntmps28, List.size_toArray, List.length_cons, List.length_nil, Nat.reduceAdd, Nat.reduceSub, Array.replicate_succ, Array.replicate_zero, List.push_toArray, List.append_toArray, List.nil_append, List.cons_append]
  gi_wp2_with fail
  refine ⟨trivial, ?_⟩
  refine (callsIn_wide.2 (flow_any w _ g HG.out HS.out HSP.out)).mono ?_
  rintro e w1 ⟨x, rfl, hx, hb⟩
  obtain ⟨Ac, nc, cc, Al, nl, cl, An, nn, cn, Ap, np, cp, b1, b3, As, cs, rfl⟩ := ReadFlow.seven hx
  have HX := Lib.hid hx
  have HB := Lib.hid hb
  clear hx hb
  have hz := HB.out.size
  obtain ⟨W2, hW2⟩ : ∃ W2, w1.alloc (.cells #[.slice Ac nc cc, .slice Al nl cl, .slice An nn cn, .slice Ap np cp, .slice (some ⟨b1, 0, none⟩) (tidyN g).length (tidyN g).length, .slice (some ⟨b3, 0, none⟩) (tidyN g).length (tidyN g).length, .slice As (spansOf (tidyN g)).length cs] 70) = W2 := ⟨_, rfl⟩
  have hB2 : Below w1.heap.size w1 W2 := by rw [← hW2]; exact (Below.refl _ _).alloc (Nat.le_refl _) _
  have hs2 : Str W2 w1.heap.size 70 [.slice Ac nc cc, .slice Al nl cl, .slice An nn cn, .slice Ap np cp, .slice (some ⟨b1, 0, none⟩) (tidyN g).length (tidyN g).length, .slice (some ⟨b3, 0, none⟩) (tidyN g).length (tidyN g).length, .slice As (spansOf (tidyN g)).length cs] := by rw [← hW2]; exact World.alloc_heap_new w1 _
  have hz2 : w1.heap.size < W2.heap.size := by rw [← hW2]; simp
  gi_upto_region 2 with (fail)
  clear hW2
  gi_wp2_with (gi_at_make; refine wpListIn_make_full _ rfl _ _ 43 rfl W2.heap.size 4 i0 (.bool false) 1 Try.underlying43 HI.out HZ0.out HZ1.out .i64 .i64 _ _ g.length rfl rfl rfl rfl (by rw [HZ2.out]; omega) (by unfold maxLen; omega) (Nat.le_refl _) ?_)
  intro w3 hown hgr
  have hm3 : OwnBools W2.heap.size w3 (List.replicate g.length false) := by
    unfold OwnBools
    rw [List.length_replicate, List.map_replicate]
    rw [toList_madeCells_one] at hown
    simpa using hown
  have hb3 : Below W2.heap.size W2 w3 := (Below.refl _ _).grown hgr (Nat.le_refl _) (fun j hj => by cases hj)
  have hz3' : W2.heap.size < w3.heap.size := (hm3.lt _ rfl).2
  obtain ⟨W4, hW4⟩ : ∃ W4, w3.alloc (.cells #[.slice (some ⟨W2.heap.size, 0, none⟩) g.length g.length] 43) = W4 := ⟨_, rfl⟩
  have hB4 : Below w3.heap.size w3 W4 := by rw [← hW4]; exact (Below.refl _ _).alloc (Nat.le_refl _) _
  have hx4 : Boxed W4 w3.heap.size 43 (.slice (some ⟨W2.heap.size, 0, none⟩) g.length g.length) := by rw [← hW4]; exact Boxed.new _ _ _
  have hz4 : w3.heap.size < W4.heap.size := by rw [← hW4]; simp
  clear hown hgr
  gi_upto_region 3 with (fail)
  clear hW4
  have hs4 := (hs2.below hb3).below hB4
  have hm4 := hm3.below hB4
  have hx1 := HX.out.keep (((hB2.trans (hb3.mono (by omega))).trans (hB4.mono (by omega))))
  have hB14 : Below w.heap.size w W4 := ((HB.out.trans (hB2.mono hz)).trans (hb3.mono (by omega))).trans (hB4.mono (by omega))
  have p4 : W4.cell? ⟨w1.heap.size, 4, none⟩ = some (.slice (some ⟨b1, 0, none⟩) (tidyN g).length (tidyN g).length) := hs4.cell 4
  gi_wp2_with fail
  refine ⟨trivial, ?_⟩
  refine (callsIn_wide.2 (edges_any _ (some ⟨b1, 0, none⟩) (tidyN g).length (tidyN g).length)).mono ?_
  rintro e w5 ⟨rfl, rfl⟩
  gi_wp2_with fail
  obtain ⟨W0, hW0⟩ : ∃ W0, W4.alloc (.cells #[.slice (some ⟨b1, 0, none⟩) (tidyN g).length (tidyN g).length] 59) = W0 := ⟨_, rfl⟩
  rw [hW0]
  have hB0 : Below W4.heap.size W4 W0 := by rw [← hW0]; exact (Below.refl _ _).alloc (Nat.le_refl _) _
  have hxe : Boxed W0 W4.heap.size 59 (.slice (some ⟨b1, 0, none⟩) (tidyN g).length (tidyN g).length) := by rw [← hW0]; exact Boxed.new _ _ _
  have hz0 : W0.heap.size = W4.heap.size + 1 := by rw [← hW0]; simp
  clear hW0
  have hx2 : ReadFlow W2 _ (tidyN g) := HX.out.keep hB2
  have hg2 : Grid W2 (.slice (some ⟨b1, 0, none⟩) (tidyN g).length (tidyN g).length) (lii (tidyN g)) := by
    obtain ⟨_, _, _, _, _, _, _, e, _, h2, _⟩ := hx2.is
    injection e with e; injection e with e; injection e with _ e; injection e with _ e; injection e with _ e; injection e with _ e; injection e with e _
    rw [e]; exact h2
  have hB20 : Below W2.heap.size W2 W0 := (hb3.trans (hB4.mono (by omega))).trans (hB0.mono (by omega))
  have HX2 := Lib.hid hx2
  have HS2 := Lib.hid hs2
  have hel := edges_few HTS.out
  have hm0 : OwnBools W2.heap.size W0 (headAt (tidyN g) []) := by
    unfold headAt; rw [List.foldl_nil, HTL.out]; exact hm4.below hB0
  have hxm := boxed_below hx4 hB0
  have HB14 := Lib.hid hB14
  have HB20 := Lib.hid hB20
  have HB12 := Lib.hid hB2
  clear hx2 hs2 hs4 hm4 hx4 hx1 hm3 hB14 p4 hB2 hb3 hB4
  refine wpIn_rangeFunc_ownF rfl (by omega) (gf := 62) (lb := #[.pointer (some ⟨W4.heap.size, 0, none⟩)]) rfl trivial (enters_of Try.func62 (by kernel_rfl) rfl)
    (edges_stops Fence.wide 8 trivial rfl (by omega) W2 W0 (.slice (some ⟨b1, 0, none⟩) (tidyN g).length (tidyN g).length) (tidyN g) W4.heap.size hg2 HT.out HTS.out HB20.out hxe.cell) Kept.trans (kept_b (by omega) (by omega)) (Below.refl _ _) (fun _ => rfl)
    (fun pre W => (OwnBools W2.heap.size W (headAt (tidyN g) (pre.map (·.1))) ∧ Boxed W w3.heap.size 43 (.slice (some ⟨W2.heap.size, 0, none⟩) g.length g.length) ∧ Boxed W W4.heap.size 59 (.slice (some ⟨b1, 0, none⟩) (tidyN g).length (tidyN g).length)) ∧ Below W2.heap.size W2 W)
    (fun _ _ _ => False)
    (OwnFrom.and (Own.from (fun s W W' row hs hg hr => ⟨World.ownsRow.kept hs.1 hg (own_notcells hs.1 hr), boxed_cells hs.2.1 hg hr, boxed_cells hs.2.2 hg hr⟩) _) (ownFrom_below (Nat.le_refl _) (by omega)))
    (fun _ _ _ _ _ hs _ _ => hs)
    ⟨⟨hm0, hxm, hxe⟩, HB20.out⟩
    (fun x => { tmps := #[.slice A g.length ca, undef, .slice none 0 0, .pointer (some ⟨w1.heap.size, 0, none⟩), .pointer (some ⟨w3.heap.size, 0, none⟩), .int .i64 (x.1.1 : Int), .int .i64 (x.1.2 : Int), .slice A g.length ca,
      .agg #[.slice Ac nc cc, .slice Al nl cl, .slice An nn cn, .slice Ap np cp, .slice (some ⟨b1, 0, none⟩) (tidyN g).length (tidyN g).length, .slice (some ⟨b3, 0, none⟩) (tidyN g).length (tidyN g).length, .slice As (spansOf (tidyN g)).length cs],
      .slice A g.length ca, .int .i64 (g.length : Int), .slice (some ⟨W2.heap.size, 0, none⟩) g.length g.length, .pointer (some ⟨w1.heap.size, 4, none⟩), .slice (some ⟨b1, 0, none⟩) (tidyN g).length (tidyN g).length,
      .func (.func 62) #[] #[.pointer (some ⟨W4.heap.size, 0, none⟩)], .int .i64 (x.1.1 : Int), .int .i64 (x.1.2 : Int), undef, undef, undef, undef, undef, undef, undef, undef, undef], defers := [] }) ?assign ?body ?done ?stop
  case assign =>
    intro l x W K hK
    gi_wp2
    exact hK
  case body =>
    rintro l pre x W ⟨⟨hm, hxb, hxe⟩, hB⟩ hlen
    obtain ⟨⟨fr, ob⟩, hfr, hto⟩ := x
    have hsW := HS2.out.below hB
    have q0 := hsW.cell 0
    have q1 := hsW.cell 1
    have q2 := hsW.cell 2
    have q3 := hsW.cell 3
    have q4 := hsW.cell 4
    have q5 := hsW.cell 5
    have q6 := hsW.cell 6
    have HXW := Lib.hid (HX2.out.keep hB)
    have HM := Lib.hid hm
    have HXB := Lib.hid hxb
    have HXE := Lib.hid hxe
    have HBW := Lib.hid hB
    clear hsW hm hxb hxe hB
    have hkb : ∀ W', Below W.heap.size W W' → Kept W2.heap.size W4.heap.size W W' := fun W' h k hk => h.block k (by have h1 := HXE.out.lt; have h2 := HBW.out.size; rcases hk with hk | hk <;> omega)
    have hbl := HBW.out.size
    have HSN := Lib.hid (show headAt (tidyN g) ((pre ++ [(⟨(fr, ob), hfr, hto⟩ : Ed (tidyN g).length)]).map (·.1)) = headStep (tidyN g) (headAt (tidyN g) (pre.map (·.1))) (fr, ob) by rw [List.map_append]; exact headAt_snoc _ _ _)
    have hml := (headAt_len (tidyN g) (pre.map (·.1))).trans HTL.out
    generalize headAt (tidyN g) (pre.map (·.1)) = m at *
    have hob : ob < g.length := by rw [← HTL.out]; exact hto
    gi_wp2_with fail
    refine ⟨trivial, (lets_round l).calls ((back_any W _ (tidyN g) fr ob HT.out HXW.out hfr hto (by rw [HTL.out]; exact hgl)).mono ?_)⟩
    rintro e W5 ⟨rfl, hB5⟩
    have HB5 := Lib.hid hB5
    have hm5 := HM.out.below hB5
    have hx5 := boxed_below HXB.out hB5
    have k4 := hx5.cell
    have hMS := hm5.store ob true
    have hne : W2.heap.size ≠ w3.heap.size := by omega
    cases hbk : backN (tidyN g) fr ob with
    | false =>
      have HH := Lib.hid (show headStep (tidyN g) m (fr, ob) = m by unfold headStep; rw [if_neg (by rw [hbk]; simp)])
      have HM5 := Lib.hid hm5
      clear hm5 hB5 hMS hx5
      gi_wp2
      exact ⟨keepsO_below HB5.out, hkb _ HB5.out, ⟨by rw [HSN.out, HH.out]; exact HM5.out, boxed_below HXB.out HB5.out, boxed_below HXE.out HB5.out⟩, HBW.out.trans (HB5.out.mono hbl)⟩
    | true =>
      have HH := Lib.hid (show headStep (tidyN g) m (fr, ob) = m.set ob true by unfold headStep; rw [if_pos hbk])
      have hce := OwnBools.cell hm5 (show ob < m.length by omega)
      have hfz : W5.frozen? ⟨W2.heap.size, ob, none⟩ = false := World.ownsRow.frozenAt hm5 _
      have HMS := Lib.hid hMS
      clear hm5 hB5 hMS hx5
      gi_wp2
      have hsz6 : (W5.setCell ⟨W2.heap.size, ob, none⟩ (.bool true)).heap.size = W5.heap.size := size_set _ _ _
      refine ⟨(keepsO_below HB5.out).trans (KeepsOthers.setCell _ _ _), ?_, ⟨by rw [HSN.out, HH.out]; exact HMS.out, ?_, ?_⟩, (HBW.out.trans (HB5.out.mono hbl)).setCell (Nat.le_refl _) _⟩
      · intro k hk
        rw [Below.heap_setCell _ _ _ _ (by show k ≠ W2.heap.size; rcases hk with hk | hk <;> omega)]
        exact hkb _ HB5.out k hk
      · exact (Below.heap_setCell _ _ _ _ (by show w3.heap.size ≠ W2.heap.size; omega)).trans (boxed_below HXB.out HB5.out)
      · exact (Below.heap_setCell _ _ _ _ (by show W4.heap.size ≠ W2.heap.size; omega)).trans (boxed_below HXE.out HB5.out)
  case done =>
    rintro D xs W hD hxs ⟨⟨hm, hxb, hxe⟩, hB⟩ hK
    rw [hxs] at hm
    have hml := (headAt_len (tidyN g) (edgesN (tidyN g))).trans HTL.out
    have HH := Lib.hid (show headersN (tidyN g) = thoseN (headAt (tidyN g) (edgesN (tidyN g))) from rfl)
    generalize headAt (tidyN g) (edgesN (tidyN g)) = m at *
    have HM := Lib.hid hm
    have HK := Lib.hid hK
    have HBW := Lib.hid hB
    have kc := hxb.cell
    clear hm hxb hxe hB hK hxs
    have hcall := those_any W W2.heap.size m HM.out (by omega)
    rw [hml] at hcall
    have HCALL := Lib.hid hcall
    clear hcall
    gi_wp2_with fail
    refine ⟨trivial, callsIn_wide.2 (HCALL.out.mono ?_)⟩
    rintro e W6 ⟨v6, rfl, ho6, hB6⟩
    have HK6 := Lib.hid (show W6.heap[D]? = some (.deferred (some [])) from (hB6.block D (Array.getElem?_eq_some_iff.1 HK.out).1).trans HK.out)
    have HO6 := Lib.hid ho6
    have HB6 := Lib.hid hB6
    clear ho6 hB6
    gi_wp2
    refine ⟨by simp, .inl ⟨_, _, rfl, run_takeDeferred HK6.out, ?_⟩⟩
    have hD6 : w.heap.size ≤ W.heap.size := by have := HBW.out.size; omega
    have h26 : w.heap.size ≤ W2.heap.size := by omega
    have hbw6 : Below w.heap.size w W6 := (((HB.out.trans (HB12.out.mono hz)).trans (HBW.out.mono h26)).trans (HB6.out.mono hD6))
    refine ⟨_, results_tmp rfl _ _ _, v6, rfl, ?_, hbw6.trans (belowK_b (w := w) (Nat.le_refl _) W6 D _ _ (by omega) HK6.out rfl rfl)⟩
    rw [HH.out]
    exact World.ownsRow.kept (own_base HO6.out hD6) (grownBy_putObj' W6 D (.deferred none)) (own_cells HO6.out (fun r e => by cases e; exact ⟨_, HK6.out, rfl⟩))
  case stop =>
    rintro D c pre W _ _ h _
    exact h.elim
end Go.Proofs.Ythanbedmiaacdaa.Gc
