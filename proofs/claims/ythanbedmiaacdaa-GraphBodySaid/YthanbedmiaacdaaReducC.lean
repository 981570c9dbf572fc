/- What package graph's Reducible answers. -/
import Derived.Test.YthanbedmiaacdaaHeadC
import Derived.StillTactics
namespace Go.Proofs.Ythanbedmiaacdaa.Gc
open Go.ChangeShapes Go.WideShapes Go.ChangeAt Go.RowKit Go.Shelf Go.Proofs.Ythanbedmiaacdaa.Mem Go.Proofs.Ythanbedmiaacdaa.Gr Go.Proofs.Ythanbedmiaacdaa.Gn Go.Proofs.Ythanbedmiaacdaa.Br Go.Proofs.Ythanbedmiaacdaa.Rp
set_option linter.unusedVariables false
attribute [local go_sem] Oper.semAt_some

theorem walk_left {T : G} (hT : Ok T) : (∀ b ∈ (walkN T).left, b < T.length) ∧ (walkN T).left.length ≤ T.length := by
  have hi := walk_inv hT
  refine ⟨fun b hb => ?_, by have := hi.left; have := hi.came; omega⟩
  by_cases h0 : 0 < T.length
  · have hd := walkN_dfs hT h0
    obtain ⟨i, h1, h2⟩ := (hd.left.1 b).1 hb
    rw [← h2]
    exact (hd.know.came i h1).1
  · rw [walkN_none (by omega)] at hb
    cases hb
/-- Ranks, as far as some have been laid. -/
def rankTo (left : List Nat) (n j : Nat) : List Nat := (List.range j).foldl (fun r i => r.set (left.getD i 0) (left.length - i)) (List.replicate n 0)
theorem rankTo_succ (left : List Nat) (n j : Nat) : rankTo left n (j + 1) = (rankTo left n j).set (left.getD j 0) (left.length - j) := by
  unfold rankTo; rw [List.range_succ, List.foldl_append]; rfl
theorem rankTo_len (left : List Nat) (n : Nat) : ∀ j, (rankTo left n j).length = n
  | 0 => by simp [rankTo]
  | j + 1 => by rw [rankTo_succ, List.length_set, rankTo_len left n j]
theorem reduc_bad {T : G} {es : List (Nat × Nat)} {e : Nat × Nat} (hp : es <+: edgesN T) (he : e ∈ es) (hb : badEdge T e = true) : reducibleN T = false := by
  unfold reducibleN
  rw [List.all_eq_false]
  exact ⟨e, hp.subset he, by rw [hb]; simp⟩
theorem reduc_good {T : G} (h : ∀ e ∈ edgesN T, badEdge T e = false) : reducibleN T = true := by
  unfold reducibleN
  rw [List.all_eq_true]
  intro e he
  rw [h e he]; rfl
/-- A flow's seven cells, and what they read as. -/
theorem ReadFlow.parts {w : World} {x : Value} {T : G} (h : ReadFlow w x T) : ∃ Ac nc cc Al cl An cn Ap np cp b1 b3 A c, x = .agg #[.slice Ac nc cc, .slice Al (walkN T).left.length cl, .slice An (walkN T).number.length cn, .slice Ap np cp, .slice (some ⟨b1, 0, none⟩) T.length T.length, .slice (some ⟨b3, 0, none⟩) T.length T.length, .slice A (spansOf T).length c] ∧
    Ints w (.slice Al (walkN T).left.length cl) (li (walkN T).left) ∧ Ints w (.slice An (walkN T).number.length cn) (walkN T).number ∧ Grid w (.slice (some ⟨b1, 0, none⟩) T.length T.length) (lii T) ∧ Grid w (.slice (some ⟨b3, 0, none⟩) T.length T.length) (lii (turnN T)) := by
  obtain ⟨vc, vl, vn, vp, b1, b3, vs, e, h1, h2, h3, h4⟩ := h.is
  obtain ⟨A, c, rfl, _⟩ := h4
  obtain ⟨Ac, nc, cc, rfl⟩ := ints_form h1.came
  obtain ⟨Ap, np, cp, rfl⟩ := ints_form h1.parent
  have hl := h1.left
  have hn := h1.number
  obtain ⟨Al, cl, rfl, _⟩ := h1.left
  obtain ⟨An, cn, rfl, _⟩ := h1.number
  rw [li_len] at hl e
  exact ⟨_, _, _, _, _, _, _, _, _, _, _, _, _, _, e, hl, hn, h2, h3⟩
set_option maxRecDepth 100000 in
set_option maxHeartbeats 400000 in
theorem reducible_code (w : World) (v : Value) (g : List (List Int)) (hg : Grid w v g) (hs : Small g) (hsp : Spans (tidyN g)) :
    Calls Try.prog 32 #[v] w (AnswersB (reducibleN (tidyN g)) w) := by
  obtain ⟨A, n0, ca, rfl⟩ : ∃ A n c, v = .slice A n c := by obtain ⟨A, c, e, _⟩ := hg; exact ⟨A, _, c, e⟩
  have hn0 : n0 = g.length := by obtain ⟨A, c, e, _⟩ := hg; injection e
  subst hn0
  have hgl := hs.1
  have hT := tidyN_ok g
  have hTl := tidyN_len g
  have hTs := tidyN_small (g := g) hgl
  have hlf := walk_left hT
  have HG := Lib.hid hg
  have HS := Lib.hid hs
  have HSP := Lib.hid hsp
  have HTL := Lib.hid hTl
  have HT := Lib.hid hT
  have HTS := Lib.hid hTs
  have HLF := Lib.hid hlf.1
  have hll := hlf.2
  rw [hTl] at hll
  obtain ⟨i0, hi, hz0, hz1, hz2⟩ := info_parts info_int
  have HI := Lib.hid hi
  have HZ0 := Lib.hid hz0
  have HZ1 := Lib.hid hz1
  have HZ2 := Lib.hid hz2
  clear hg hs hsp hi hz0 hz1 hz2 hTl hT hTs hlf
  refine (callsIn_wide (n := 9)).1 ?_
  refine callsIn_of_wp_marks Try.func32 rfl trivial ?_ rfl
  simp only [Try.ntmps32, List.size_toArray, List.length_cons, List.length_nil, Nat.reduceAdd, Nat.reduceSub, Array.replicate_succ, Array.replicate_zero, List.push_toArray, List.append_toArray, List.nil_append, List.cons_append]
  obtain ⟨Wr, hWr⟩ : ∃ Wr, w.alloc (.cells #[.bool false] 4) = Wr := ⟨_, rfl⟩
  have hBr : Below w.heap.size w Wr := by rw [← hWr]; exact (Below.refl _ _).alloc (Nat.le_refl _) _
  have hxr : Boxed Wr w.heap.size 4 (.bool false) := by rw [← hWr]; exact Boxed.new _ _ _
  have hzr : w.heap.size < Wr.heap.size := by rw [← hWr]; simp
  gi_wp2_with fail
  clear hWr
  refine ⟨trivial, ?_⟩
  refine (callsIn_wide.2 (flow_any Wr _ g (HG.out.keep hBr) HS.out HSP.out)).mono ?_
  rintro e w1 ⟨x, rfl, hx, hb⟩
  obtain ⟨Ac, nc, cc, Al, cl, An, cn, Ap, np, cp, b1, b3, As, cs, rfl, hxl, hxn, hxg, hxp⟩ := ReadFlow.parts hx
  obtain ⟨nl, hnl⟩ : ∃ nl, (walkN (tidyN g)).left.length = nl := ⟨_, rfl⟩
  obtain ⟨nn, hnn⟩ : ∃ nn, (walkN (tidyN g)).number.length = nn := ⟨_, rfl⟩
  rw [hnl] at hxl hx hll ⊢
  rw [hnn] at hxn hx ⊢
  have HNL := Lib.hid hnl
  have HNN := Lib.hid hnn
  have HXL := Lib.hid hxl
  have HXN := Lib.hid hxn
  have HXG := Lib.hid hxg
  clear hnl hnn hxl hxn hxg hxp
  have HX := Lib.hid hx
  have HB := Lib.hid hb
  have hxr1 := boxed_below hxr hb
  clear hx hb
  have hz := HB.out.size
  obtain ⟨W2, hW2⟩ : ∃ W2, w1.alloc (.cells #[.slice Ac nc cc, .slice Al nl cl, .slice An nn cn, .slice Ap np cp, .slice (some ⟨b1, 0, none⟩) (tidyN g).length (tidyN g).length, .slice (some ⟨b3, 0, none⟩) (tidyN g).length (tidyN g).length, .slice As (spansOf (tidyN g)).length cs] 70) = W2 := ⟨_, rfl⟩
  have hB2 : Below w1.heap.size w1 W2 := by rw [← hW2]; exact (Below.refl _ _).alloc (Nat.le_refl _) _
  have hs2 : Str W2 w1.heap.size 70 [.slice Ac nc cc, .slice Al nl cl, .slice An nn cn, .slice Ap np cp, .slice (some ⟨b1, 0, none⟩) (tidyN g).length (tidyN g).length, .slice (some ⟨b3, 0, none⟩) (tidyN g).length (tidyN g).length, .slice As (spansOf (tidyN g)).length cs] := by rw [← hW2]; exact World.alloc_heap_new w1 _
  have hz2 : w1.heap.size < W2.heap.size := by rw [← hW2]; simp
  gi_upto_region 2 with (fail)
  clear hW2
  gi_wp2_with (gi_at_make; refine wpListIn_make_full _ rfl _ _ 23 rfl W2.heap.size 3 i0 (.int .i64 0) 1 Try.underlying23 HI.out HZ0.out HZ1.out .i64 .i64 _ _ g.length rfl rfl rfl rfl (by rw [HZ2.out]; omega) (by unfold maxLen; omega) (Nat.le_refl _) ?_)
  intro w3 hown hgr
  rw [toList_madeCells_one] at hown
  have hm3 := zeros_own hown
  have hb3 : Below W2.heap.size W2 w3 := (Below.refl _ _).grown hgr (Nat.le_refl _) (fun j hj => by cases hj)
  have hz3' : W2.heap.size < w3.heap.size := (hm3.lt _ rfl).2
  obtain ⟨W4, hW4⟩ : ∃ W4, w3.alloc (.cells #[.slice (some ⟨W2.heap.size, 0, none⟩) g.length g.length] 23) = W4 := ⟨_, rfl⟩
  have hB4 : Below w3.heap.size w3 W4 := by rw [← hW4]; exact (Below.refl _ _).alloc (Nat.le_refl _) _
  have hx4 : Boxed W4 w3.heap.size 23 (.slice (some ⟨W2.heap.size, 0, none⟩) g.length g.length) := by rw [← hW4]; exact Boxed.new _ _ _
  have hz4 : w3.heap.size < W4.heap.size := by rw [← hW4]; simp
  clear hown hgr
  gi_upto_region 3 with (fail)
  clear hW4
  have hs4 := (hs2.below hb3).below hB4
  have hm4 := own_below hm3 hB4
  have hx1 := HX.out.keep (((hB2.trans (hb3.mono (by omega))).trans (hB4.mono (by omega))))
  have p1 : W4.cell? ⟨w1.heap.size, 1, none⟩ = some (.slice Al nl cl) := hs4.cell 1
  gi_wp2_with fail
  have hm5 : OwnInts W2.heap.size W4 (.slice (some ⟨W2.heap.size, 0, none⟩) g.length g.length) (li (rankTo (walkN (tidyN g)).left g.length 0)) := hm4
  have hB24 : Below W2.heap.size W2 W4 := hb3.trans (hB4.mono (by omega))
  have HB24 := Lib.hid hB24
  have HS2 := Lib.hid hs2
  have HX12 := Lib.hid (HX.out.keep hB2)
  have HXL2 := Lib.hid (HXL.out.keep hB2)
  have HXN2 := Lib.hid (HXN.out.keep hB2)
  have HXG2 := Lib.hid (HXG.out.keep hB2)
  have HXR2 := Lib.hid (boxed_below hxr1 hB2)
  have HB02 := Lib.hid (hBr.trans ((HB.out.trans (hB2.mono hz)).mono (Nat.le_of_lt hzr)))
  clear hm4 hB24 hs2 hs4 hx1 p1 hB4 hb3 hB2 hm3 hxr hxr1 hBr
  gi_loopw [19] (fun i wr => ∃ j : Nat, j ≤ nl ∧ i = .int .i64 j ∧ OwnInts W2.heap.size wr (.slice (some ⟨W2.heap.size, 0, none⟩) g.length g.length) (li (rankTo (walkN (tidyN g)).left g.length j)) ∧ Boxed wr w3.heap.size 23 (.slice (some ⟨W2.heap.size, 0, none⟩) g.length g.length) ∧ Below W2.heap.size W2 wr) (fun i _ => nl - (intOf i).toNat)
  case atStart => exact ⟨0, by omega, rfl, hm5, hx4, HB24.out⟩
  case round =>
    obtain ⟨j, hj, rfl, hro, hbo, hB⟩ := hrel
    obtain ⟨wo, rfl⟩ : ∃ wo : World, wo = wr := ⟨_, rfl⟩
    by_cases hlt : j < nl
    · have hlt' : j < (walkN (tidyN g)).left.length := by rw [HNL.out]; exact hlt
      obtain ⟨A', c', e', _, _, hcs⟩ := HXL2.out
      injection e' with e1 e2 e3
      subst e1
      clear e2 e3
      obtain ⟨ad, rfl, hcj⟩ := hcs j (by rw [li_len]; exact hlt')
      rw [li_at hlt'] at hcj
      have hcj := cell_keep hB (Nat.le_refl _) hcj
      have hbl : (walkN (tidyN g)).left[j] < g.length := by rw [← HTL.out]; exact HLF.out _ (List.getElem_mem hlt')
      have hgd : (walkN (tidyN g)).left.getD j 0 = (walkN (tidyN g)).left[j] := getD_at hlt' 0
      have HRS := Lib.hid (show rankTo (walkN (tidyN g)).left g.length (j + 1) = (rankTo (walkN (tidyN g)).left g.length j).set (walkN (tidyN g)).left[j] (nl - j) by rw [rankTo_succ, hgd, HNL.out])
      have hrl := rankTo_len (walkN (tidyN g)).left g.length j
      generalize (walkN (tidyN g)).left[j] = b at *
      generalize rankTo (walkN (tidyN g)).left g.length j = r at *
      obtain ⟨q1, qf⟩ := row_nat hro (j := b) (by rw [hrl]; exact hbl)
      have k4 := hbo.cell
      have p1 : wo.cell? ⟨w1.heap.size, 1, none⟩ = some (.slice (some ad) nl cl) := (HS2.out.below hB).cell 1
      have hzo := hB.size
      have HPUT := Lib.hid (hro.stored b ((nl - j : Nat) : Int)).1
      have hne : w3.heap.size ≠ W2.heap.size := by omega
      have HBO := Lib.hid hbo
      have HBB := Lib.hid hB
      clear hro hbo hB hcs
      have HSUB := Lib.hid (show ((nl : Int) - (j : Int)) = ((nl - j : Nat) : Int) by omega)
      gi_wp2
      rw [HSUB.out]
      refine ⟨⟨j + 1, by omega, by go_num, ?_, (Below.heap_setCell _ _ _ _ hne).trans HBO.out, HBB.out.setCell (Nat.le_refl _) _⟩, by simp [intOf]; omega⟩
      rw [HRS.out, li_set]
      exact HPUT.out
    · obtain rfl : j = nl := by omega
      have p4 : wo.cell? ⟨w1.heap.size, 4, none⟩ = some (.slice (some ⟨b1, 0, none⟩) (tidyN g).length (tidyN g).length) := (HS2.out.below hB).cell 4
      have HRO := Lib.hid hro
      have HBO := Lib.hid hbo
      have HBB := Lib.hid hB
      clear hro hbo hB
      gi_wp2_with fail
      refine ⟨trivial, ?_⟩
      refine (callsIn_wide.2 (edges_any _ (some ⟨b1, 0, none⟩) (tidyN g).length (tidyN g).length)).mono ?_
      rintro e w5 ⟨rfl, rfl⟩
      gi_wp2_with fail
      obtain ⟨W0, hW0⟩ : ∃ W0, wo.alloc (.cells #[.slice (some ⟨b1, 0, none⟩) (tidyN g).length (tidyN g).length] 59) = W0 := ⟨_, rfl⟩
      rw [hW0]
      have hB0 : Below wo.heap.size wo W0 := by rw [← hW0]; exact (Below.refl _ _).alloc (Nat.le_refl _) _
      have hxe : Boxed W0 wo.heap.size 59 (.slice (some ⟨b1, 0, none⟩) (tidyN g).length (tidyN g).length) := by rw [← hW0]; exact Boxed.new _ _ _
      have hz0 : W0.heap.size = wo.heap.size + 1 := by rw [← hW0]; simp
      clear hW0
      have hzo := HBB.out.size
      have hB20 : Below W2.heap.size W2 W0 := HBB.out.trans (hB0.mono hzo)
      have hel := edges_few HTS.out
      have hro0 := own_below HRO.out hB0
      have hbo0 := boxed_below HBO.out hB0
      have hrl := rankTo_len (walkN (tidyN g)).left g.length j
      have HRK := Lib.hid (show rankN (walkN (tidyN g)).left (tidyN g).length = rankTo (walkN (tidyN g)).left g.length j by rw [HTL.out, ← HNL.out]; rfl)
      generalize rankTo (walkN (tidyN g)).left g.length j = r at *
      have hbx3 := HBO.out.lt
      have hrt : ∀ k, W2.heap.size = k ∨ k < W2.heap.size → k < wo.heap.size := fun k hk => by rcases hk with hk | hk <;> omega
      clear p4
      refine wpIn_rangeFunc_ownF rfl (by omega) (gf := 62) (lb := #[.pointer (some ⟨wo.heap.size, 0, none⟩)]) rfl trivial (enters_of Try.func62 (by kernel_rfl) rfl)
        (edges_stops Fence.wide 8 trivial rfl (by omega) W2 W0 (.slice (some ⟨b1, 0, none⟩) (tidyN g).length (tidyN g).length) (tidyN g) wo.heap.size HXG2.out HT.out HTS.out hB20 hxe.cell) Kept.trans (kept_b (by omega) (by omega)) (Below.refl _ _) (fun _ => rfl)
        (fun pre W => (OwnInts W2.heap.size W (.slice (some ⟨W2.heap.size, 0, none⟩) g.length g.length) (li r) ∧ Boxed W w3.heap.size 23 (.slice (some ⟨W2.heap.size, 0, none⟩) g.length g.length) ∧ Boxed W wo.heap.size 59 (.slice (some ⟨b1, 0, none⟩) (tidyN g).length (tidyN g).length) ∧ ∀ e ∈ pre.map (·.1), badEdge (tidyN g) e = false) ∧ Below W2.heap.size W2 W)
        (fun c pre W => (c = .ret ∧ Boxed W w.heap.size 4 (.bool false) ∧ ∃ e ∈ pre.map (·.1), badEdge (tidyN g) e = true) ∧ Below w.heap.size w W)
        (OwnFrom.and (Own.from (fun s W W' row hs hg hr => ⟨World.ownsRow.kept hs.1 hg (own_notcells hs.1 hr), boxed_cells hs.2.1 hg hr, boxed_cells hs.2.2.1 hg hr, hs.2.2.2⟩) _) (ownFrom_below (Nat.le_refl _) (by omega)))
        (fun c => OwnFrom.and (Own.from (fun s W W' row hs hg hr => ⟨hs.1, boxed_cells hs.2.1 hg hr, hs.2.2⟩) _) (ownFrom_below (Nat.le_refl _) (by omega)))
        ⟨⟨hro0, hbo0, hxe, by simp⟩, hB20⟩
        (fun x => { tmps := #[.slice A g.length ca, undef, .pointer (some ⟨w.heap.size, 0, none⟩), .pointer (some ⟨w1.heap.size, 0, none⟩), .pointer (some ⟨w3.heap.size, 0, none⟩), u5, u6, .int .i64 (x.1.1 : Int), .int .i64 (x.1.2 : Int), undef, .slice A g.length ca, .agg #[.slice Ac nc cc, .slice Al j cl, .slice An nn cn, .slice Ap np cp, .slice (some ⟨b1, 0, none⟩) (tidyN g).length (tidyN g).length, .slice (some ⟨b3, 0, none⟩) (tidyN g).length (tidyN g).length, .slice As (spansOf (tidyN g)).length cs], .slice A g.length ca, .int .i64 (g.length : Int), .slice (some ⟨W2.heap.size, 0, none⟩) g.length g.length, .pointer (some ⟨w1.heap.size, 0, none⟩), .pointer (some ⟨w1.heap.size, 1, none⟩), .slice Al j cl, .int .i64 (j : Int), .int .i64 (j : Int), .bool false, u21, u22, u23, u24, u25, u26, u27, u28, u29, u30, u31, u32, u33, .pointer (some ⟨w1.heap.size, 4, none⟩), .slice (some ⟨b1, 0, none⟩) (tidyN g).length (tidyN g).length, .func (.func 62) #[] #[.pointer (some ⟨wo.heap.size, 0, none⟩)], .int .i64 (x.1.1 : Int), .int .i64 (x.1.2 : Int), undef, undef, undef, undef, undef, undef, undef, undef, undef, undef, undef, undef, undef, undef, undef, undef, undef, undef, undef, undef, undef, undef, undef, undef, undef, undef], defers := [] }) ?assign ?body ?done ?stop
      case assign =>
        intro l x W K hK
        gi_wp2
        exact hK
      case body =>
        rintro l pre x W ⟨⟨hrW, hbW, hxW, hgood⟩, hBW⟩ hlen
        obtain ⟨⟨fr, ob⟩, hfr, hto⟩ := x
        have hsW := HS2.out.below hBW
        have q0 := hsW.cell 0
        have q1 := hsW.cell 1
        have q2 := hsW.cell 2
        have q3 := hsW.cell 3
        have q4 := hsW.cell 4
        have q5 := hsW.cell 5
        have q6 := hsW.cell 6
        have k4 := hbW.cell
        have hnlen : (walkN (tidyN g)).number.length = (tidyN g).length := (walk_inv HT.out).number
        have hfr1 : fr < (walkN (tidyN g)).number.length := by rw [hnlen]; exact hfr
        obtain ⟨A', c', e', _, _, hcs⟩ := HXN2.out
        injection e' with e1 e2 e3
        subst e1
        clear e2 e3
        obtain ⟨ad, rfl, hcj⟩ := hcs fr hfr1
        have hcj := cell_keep hBW (Nat.le_refl _) hcj
        have hfg : fr < g.length := by rw [← HTL.out]; exact hfr
        have hog : ob < g.length := by rw [← HTL.out]; exact hto
        have hfn : fr < nn := by rw [← HNN.out]; exact hfr1
        obtain ⟨ra, _⟩ := row_nat hrW (j := fr) (by rw [hrl]; exact hfg)
        obtain ⟨rb, _⟩ := row_nat hrW (j := ob) (by rw [hrl]; exact hog)
        have HBAD := Lib.hid (show badEdge (tidyN g) (fr, ob) = (((walkN (tidyN g)).number[fr] != -1 && decide (r.getD ob 0 ≤ r.getD fr 0)) && !backN (tidyN g) fr ob) by
          unfold badEdge
          rw [HRK.out, getD_at hfr1])
        generalize (walkN (tidyN g)).number[fr] = m at *
        generalize r.getD ob 0 = y at *
        generalize r.getD fr 0 = z at *
        have HRW := Lib.hid hrW
        have HBX := Lib.hid hbW
        have HXW := Lib.hid hxW
        have HGOOD := Lib.hid hgood
        have HBW := Lib.hid hBW
        have hww := hBW.size
        have hw2 : w.heap.size ≤ W2.heap.size := by omega
        have HMP := Lib.hid (show (pre ++ [(⟨(fr, ob), hfr, hto⟩ : Ed (tidyN g).length)]).map (·.1) = pre.map (·.1) ++ [(fr, ob)] from List.map_append)
        have KEEP := Lib.hid (show ∀ (a : Act) W', Below W.heap.size W W' → badEdge (tidyN g) (fr, ob) = false → ownPostK (Kept W2.heap.size wo.heap.size) (fun pre W => (OwnInts W2.heap.size W (.slice (some ⟨W2.heap.size, 0, none⟩) g.length g.length) (li r) ∧ Boxed W w3.heap.size 23 (.slice (some ⟨W2.heap.size, 0, none⟩) g.length g.length) ∧ Boxed W wo.heap.size 59 (.slice (some ⟨b1, 0, none⟩) (tidyN g).length (tidyN g).length) ∧ ∀ e ∈ pre.map (·.1), badEdge (tidyN g) e = false) ∧ Below W2.heap.size W2 W)
            (fun c pre W => (c = .ret ∧ Boxed W w.heap.size 4 (.bool false) ∧ ∃ e ∈ pre.map (·.1), badEdge (tidyN g) e = true) ∧ Below w.heap.size w W) (pre ++ [(⟨(fr, ob), hfr, hto⟩ : Ed (tidyN g).length)]) W .normal a W' from fun a W' hb hg =>
          ⟨keepsO_below hb, fun k hk => hb.block k (by have h1 := HXW.out.lt; rcases hk with hk | hk <;> omega), ⟨own_below HRW.out hb, boxed_below HBX.out hb, boxed_below HXW.out hb, fun e he => by
            rw [HMP.out, List.mem_append, List.mem_singleton] at he
            rcases he with he | rfl
            · exact HGOOD.out e he
            · exact hg⟩, HBW.out.trans (hb.mono hww)⟩)
        clear hrW hbW hxW hgood hBW hsW hcs
        gi_wp2_with fail
        by_cases hm : m = -1
        · have hm1 : (m != -1) = false := by rw [hm]; rfl
          have HBF := Lib.hid (show badEdge (tidyN g) (fr, ob) = false by rw [HBAD.out, hm1]; rfl)
          clear hm
          refine region_held (lets_round l) (fun w' => w'.cell? ⟨w1.heap.size, 2, none⟩ = some (.slice (some ad) nn cn) ∧ w'.cell? (ad.add fr) = some (.int .i64 m) ∧ w'.cell? ⟨w3.heap.size, 0, none⟩ = some (.slice (some ⟨W2.heap.size, 0, none⟩) g.length g.length) ∧ w'.cell? ⟨W2.heap.size, fr, none⟩ = some (.int .i64 (z : Nat)) ∧ w'.cell? ⟨W2.heap.size, ob, none⟩ = some (.int .i64 (y : Nat))) [0, 1, 2, 3, 4, 5, 6, 7, 8, 9, 10, 11, 12, 13, 14, 15, 16, 17, 18] [0, 1, 2, 3, 4, 5, 6, 7, 8, 9, 10, 11, 12, 13, 14, 15, 16, 17, 18]
            (by kernel_rfl) (by kernel_rfl) ?ahQ (by kernel_rfl) (by kernel_rfl) rfl ?ahpan ⟨q2, hcj, k4, ra, rb⟩ ?_
          case ahQ => intro a w h; exact h
          case ahpan => intro c a d v w h; exact h
          refine walkH_still _ ?av0 rfl rfl rfl ?ay0 ?_
          case ay0 => intro w hS; go_simp; first | done | with_reducible rfl
          simp only [Act.put]
          refine walkH_still _ ?av1 rfl rfl rfl ?ay1 ?_
          case ay1 => intro w hS; go_simp; first | done | with_reducible rfl
          simp only [Act.put]
          refine walkH_still _ ?av2 rfl rfl rfl ?ay2 ?_
          case ay2 => intro w hS; go_simp; first | done | with_reducible rfl
          simp only [Act.put]
          refine walkH_still _ ?av3 rfl rfl rfl ?ay3 ?_
          case ay3 => intro w hS; go_simp; first | done | with_reducible rfl
          simp only [Act.put]
          refine walkH_still _ ?av4 rfl rfl rfl ?ay4 ?_
          case ay4 => intro w hS; go_simp; first | done | with_reducible rfl
          simp only [Act.put]
          refine walkH_still _ ?av5 rfl rfl rfl ?ay5 ?_
          case ay5 => intro w hS; go_simp; first | done | with_reducible rfl
          simp only [Act.put]
          refine walkH_still _ ?av6 rfl rfl rfl ?ay6 ?_
          case ay6 => intro w hS; go_simp; first | done | with_reducible rfl
          simp only [Act.put]
          refine walkH_still _ ?av7 rfl rfl rfl ?ay7 ?_
          case ay7 => intro w hS; go_simp; first | done | with_reducible rfl
          simp only [Act.put]
          refine walkH_skip _ rfl rfl (by kernel_rfl) ?_
          refine walkH_skip _ rfl rfl (by kernel_rfl) ?_
          refine walkH_skip _ rfl rfl (by kernel_rfl) ?_
          refine walkH_skip _ rfl rfl (by kernel_rfl) ?_
          refine walkH_skip _ rfl rfl (by kernel_rfl) ?_
          refine walkH_skip _ rfl rfl (by kernel_rfl) ?_
          refine walkH_skip _ rfl rfl (by kernel_rfl) ?_
          refine walkH_skip _ rfl rfl (by kernel_rfl) ?_
          refine walkH_skip _ rfl rfl (by kernel_rfl) ?_
          refine walkH_still _ ?av17 rfl rfl rfl ?ay17 ?_
          case ay17 => intro w hS; go_simp; first | done | with_reducible rfl
          simp only [Act.put]
          refine walkH_still _ ?av18 rfl rfl rfl ?ay18 ?_
          case ay18 => intro w hS; go_simp; first | done | with_reducible rfl
          simp only [Act.put]
          refine walkH_nil ?_
          simp only [List.setIfInBounds_toArray, List.set_cons_zero, List.set_cons_succ]
          obtain ⟨Wd, hWd⟩ : ∃ Wd, W.drew = Wd := ⟨_, rfl⟩
          have hbd : Below W.heap.size W Wd := by rw [← hWd]; exact (Below.refl _ _).drew
          change Exit.then _ _ _ _ (W.drew)
          rw [hWd]
          clear hWd
          clear q0 q1 q2 q3 q4 q5 q6 k4 ra rb hcj
          gi_wp2_with fail
          refine ⟨trivial, ?_⟩
          gi_wp2
          exact KEEP.out _ _ hbd HBF.out
        · have hm1 : (m != -1) = true := by rw [bne_iff_ne]; exact hm
          clear hm
          by_cases hyz : y ≤ z
          · have hyz1 : (y : Int) ≤ (z : Int) := by omega
            refine region_held (lets_round l) (fun w' => w'.cell? ⟨w1.heap.size, 2, none⟩ = some (.slice (some ad) nn cn) ∧ w'.cell? (ad.add fr) = some (.int .i64 m) ∧ w'.cell? ⟨w3.heap.size, 0, none⟩ = some (.slice (some ⟨W2.heap.size, 0, none⟩) g.length g.length) ∧ w'.cell? ⟨W2.heap.size, fr, none⟩ = some (.int .i64 (z : Nat)) ∧ w'.cell? ⟨W2.heap.size, ob, none⟩ = some (.int .i64 (y : Nat))) [0, 1, 2, 3, 4, 5, 6, 7, 8, 9, 10, 11, 12, 13, 14, 15, 16, 17, 18] [0, 1, 2, 3, 4, 5, 6, 7, 8, 9, 10, 11, 12, 13, 14, 15, 16, 17, 18]
              (by kernel_rfl) (by kernel_rfl) ?bhQ (by kernel_rfl) (by kernel_rfl) rfl ?bhpan ⟨q2, hcj, k4, ra, rb⟩ ?_
            case bhQ => intro a w h; exact h
            case bhpan => intro c a d v w h; exact h
            refine walkH_still _ ?bv0 rfl rfl rfl ?by0 ?_
            case by0 => intro w hS; go_simp; first | done | with_reducible rfl
            simp only [Act.put]
            refine walkH_still _ ?bv1 rfl rfl rfl ?by1 ?_
            case by1 => intro w hS; go_simp; first | done | with_reducible rfl
            simp only [Act.put]
            refine walkH_still _ ?bv2 rfl rfl rfl ?by2 ?_
            case by2 => intro w hS; go_simp; first | done | with_reducible rfl
            simp only [Act.put]
            refine walkH_still _ ?bv3 rfl rfl rfl ?by3 ?_
            case by3 => intro w hS; go_simp; first | done | with_reducible rfl
            simp only [Act.put]
            refine walkH_still _ ?bv4 rfl rfl rfl ?by4 ?_
            case by4 => intro w hS; go_simp; first | done | with_reducible rfl
            simp only [Act.put]
            refine walkH_still _ ?bv5 rfl rfl rfl ?by5 ?_
            case by5 => intro w hS; go_simp; first | done | with_reducible rfl
            simp only [Act.put]
            refine walkH_still _ ?bv6 rfl rfl rfl ?by6 ?_
            case by6 => intro w hS; go_simp; first | done | with_reducible rfl
            simp only [Act.put]
            refine walkH_still _ ?bv7 rfl rfl rfl ?by7 ?_
            case by7 => intro w hS; go_simp; first | done | with_reducible rfl
            simp only [Act.put]
            refine walkH_still _ ?bv8 rfl rfl (by kernel_rfl) ?by8 ?_
            case by8 => intro w hS; go_simp; first | done | with_reducible rfl
            simp only [Act.put]
            refine walkH_still _ ?bv9 rfl rfl (by kernel_rfl) ?by9 ?_
            case by9 => intro w hS; go_simp; first | done | with_reducible rfl
            simp only [Act.put]
            refine walkH_still _ ?bv10 rfl rfl (by kernel_rfl) ?by10 ?_
            case by10 => intro w hS; go_simp; first | done | with_reducible rfl
            simp only [Act.put]
            refine walkH_still _ ?bv11 rfl rfl (by kernel_rfl) ?by11 ?_
            case by11 => intro w hS; go_simp; first | done | with_reducible rfl
            simp only [Act.put]
            refine walkH_still _ ?bv12 rfl rfl (by kernel_rfl) ?by12 ?_
            case by12 => intro w hS; go_simp; first | done | with_reducible rfl
            simp only [Act.put]
            refine walkH_still _ ?bv13 rfl rfl (by kernel_rfl) ?by13 ?_
            case by13 => intro w hS; go_simp; first | done | with_reducible rfl
            simp only [Act.put]
            refine walkH_still _ ?bv14 rfl rfl (by kernel_rfl) ?by14 ?_
            case by14 => intro w hS; go_simp; first | done | with_reducible rfl
            simp only [Act.put]
            refine walkH_still _ ?bv15 rfl rfl (by kernel_rfl) ?by15 ?_
            case by15 => intro w hS; go_simp; first | done | with_reducible rfl
            simp only [Act.put]
            refine walkH_still _ ?bv16 rfl rfl (by kernel_rfl) ?by16 ?_
            case by16 => intro w hS; go_simp; first | done | with_reducible rfl
            simp only [Act.put]
            refine walkH_still _ ?bv17 rfl rfl rfl ?by17 ?_
            case by17 => intro w hS; go_simp; first | done | with_reducible rfl
            simp only [Act.put]
            refine walkH_still _ ?bv18 rfl rfl rfl ?by18 ?_
            case by18 => intro w hS; go_simp; first | done | with_reducible rfl
            simp only [Act.put]
            refine walkH_nil ?_
            simp only [List.setIfInBounds_toArray, List.set_cons_zero, List.set_cons_succ]
            obtain ⟨Wd, hWd⟩ : ∃ Wd, W.drew = Wd := ⟨_, rfl⟩
            have hbd : Below W.heap.size W Wd := by rw [← hWd]; exact (Below.refl _ _).drew
            change Exit.then _ _ _ _ (W.drew)
            rw [hWd]
            clear hWd
            have hkq : ∀ {p : Addr} {u : Value}, W.cell? p = some u → Wd.cell? p = some u := fun h => cell_keep hbd (Nat.le_refl _) h
            have r0 := hkq q0
            have r1 := hkq q1
            have r2 := hkq q2
            have r3 := hkq q3
            have r4 := hkq q4
            have r5 := hkq q5
            have r6 := hkq q6
            have HXd := Lib.hid ((HX12.out.keep HBW.out).keep hbd)
            have hwd := hbd.size
            clear q0 q1 q2 q3 q4 q5 q6 k4 ra rb hcj hkq
            gi_wp2_with fail
            refine ⟨trivial, (lets_round l).calls ((back_any Wd _ (tidyN g) fr ob HT.out HXd.out hfr hto (by rw [HTL.out]; exact hgl)).mono ?_)⟩
            rintro e W5 ⟨rfl, hB5⟩
            have hB5' := hbd.trans (hB5.mono hwd)
            have HB5 := Lib.hid hB5'
            clear hB5 hB5'
            cases hbk : backN (tidyN g) fr ob with
            | true =>
              have HBF := Lib.hid (show badEdge (tidyN g) (fr, ob) = false by rw [HBAD.out, hbk]; simp)
              clear r0 r1 r2 r3 r4 r5 r6
              gi_wp2
              exact KEEP.out _ _ HB5.out HBF.out
            | false =>
              have HBF := Lib.hid (show badEdge (tidyN g) (fr, ob) = true by rw [HBAD.out, hbk, hm1]; simp; exact hyz)
              have hbr := boxed_below (boxed_below HXR2.out HBW.out) HB5.out
              have kr := hbr.cell
              have kf := hbr.frozen
              have HBR := Lib.hid (hbr.set (.bool false))
              clear r0 r1 r2 r3 r4 r5 r6 hbr
              gi_wp2
              refine ⟨(keepsO_below HB5.out).trans (KeepsOthers.setCell _ _ _), ⟨rfl, HBR.out, (fr, ob), by rw [HMP.out]; exact List.mem_append_right _ (List.mem_singleton.2 rfl), HBF.out⟩, ?_⟩
              exact ((HB02.out.trans (HBW.out.mono hw2)).trans (HB5.out.mono (by omega))).setCell (Nat.le_refl _) _
          · have hyz1 : ¬ (y : Int) ≤ (z : Int) := by omega
            have HBF := Lib.hid (show badEdge (tidyN g) (fr, ob) = false by rw [HBAD.out, hm1]; simp; intro h; omega)
            refine region_held (lets_round l) (fun w' => w'.cell? ⟨w1.heap.size, 2, none⟩ = some (.slice (some ad) nn cn) ∧ w'.cell? (ad.add fr) = some (.int .i64 m) ∧ w'.cell? ⟨w3.heap.size, 0, none⟩ = some (.slice (some ⟨W2.heap.size, 0, none⟩) g.length g.length) ∧ w'.cell? ⟨W2.heap.size, fr, none⟩ = some (.int .i64 (z : Nat)) ∧ w'.cell? ⟨W2.heap.size, ob, none⟩ = some (.int .i64 (y : Nat))) [0, 1, 2, 3, 4, 5, 6, 7, 8, 9, 10, 11, 12, 13, 14, 15, 16, 17, 18] [0, 1, 2, 3, 4, 5, 6, 7, 8, 9, 10, 11, 12, 13, 14, 15, 16, 17, 18]
              (by kernel_rfl) (by kernel_rfl) ?chQ (by kernel_rfl) (by kernel_rfl) rfl ?chpan ⟨q2, hcj, k4, ra, rb⟩ ?_
            case chQ => intro a w h; exact h
            case chpan => intro c a d v w h; exact h
            refine walkH_still _ ?cv0 rfl rfl rfl ?cy0 ?_
            case cy0 => intro w hS; go_simp; first | done | with_reducible rfl
            simp only [Act.put]
            refine walkH_still _ ?cv1 rfl rfl rfl ?cy1 ?_
            case cy1 => intro w hS; go_simp; first | done | with_reducible rfl
            simp only [Act.put]
            refine walkH_still _ ?cv2 rfl rfl rfl ?cy2 ?_
            case cy2 => intro w hS; go_simp; first | done | with_reducible rfl
            simp only [Act.put]
            refine walkH_still _ ?cv3 rfl rfl rfl ?cy3 ?_
            case cy3 => intro w hS; go_simp; first | done | with_reducible rfl
            simp only [Act.put]
            refine walkH_still _ ?cv4 rfl rfl rfl ?cy4 ?_
            case cy4 => intro w hS; go_simp; first | done | with_reducible rfl
            simp only [Act.put]
            refine walkH_still _ ?cv5 rfl rfl rfl ?cy5 ?_
            case cy5 => intro w hS; go_simp; first | done | with_reducible rfl
            simp only [Act.put]
            refine walkH_still _ ?cv6 rfl rfl rfl ?cy6 ?_
            case cy6 => intro w hS; go_simp; first | done | with_reducible rfl
            simp only [Act.put]
            refine walkH_still _ ?cv7 rfl rfl rfl ?cy7 ?_
            case cy7 => intro w hS; go_simp; first | done | with_reducible rfl
            simp only [Act.put]
            refine walkH_still _ ?cv8 rfl rfl (by kernel_rfl) ?cy8 ?_
            case cy8 => intro w hS; go_simp; first | done | with_reducible rfl
            simp only [Act.put]
            refine walkH_still _ ?cv9 rfl rfl (by kernel_rfl) ?cy9 ?_
            case cy9 => intro w hS; go_simp; first | done | with_reducible rfl
            simp only [Act.put]
            refine walkH_still _ ?cv10 rfl rfl (by kernel_rfl) ?cy10 ?_
            case cy10 => intro w hS; go_simp; first | done | with_reducible rfl
            simp only [Act.put]
            refine walkH_still _ ?cv11 rfl rfl (by kernel_rfl) ?cy11 ?_
            case cy11 => intro w hS; go_simp; first | done | with_reducible rfl
            simp only [Act.put]
            refine walkH_still _ ?cv12 rfl rfl (by kernel_rfl) ?cy12 ?_
            case cy12 => intro w hS; go_simp; first | done | with_reducible rfl
            simp only [Act.put]
            refine walkH_still _ ?cv13 rfl rfl (by kernel_rfl) ?cy13 ?_
            case cy13 => intro w hS; go_simp; first | done | with_reducible rfl
            simp only [Act.put]
            refine walkH_still _ ?cv14 rfl rfl (by kernel_rfl) ?cy14 ?_
            case cy14 => intro w hS; go_simp; first | done | with_reducible rfl
            simp only [Act.put]
            refine walkH_still _ ?cv15 rfl rfl (by kernel_rfl) ?cy15 ?_
            case cy15 => intro w hS; go_simp; first | done | with_reducible rfl
            simp only [Act.put]
            refine walkH_still _ ?cv16 rfl rfl (by kernel_rfl) ?cy16 ?_
            case cy16 => intro w hS; go_simp; first | done | with_reducible rfl
            simp only [Act.put]
            refine walkH_still _ ?cv17 rfl rfl rfl ?cy17 ?_
            case cy17 => intro w hS; go_simp; first | done | with_reducible rfl
            simp only [Act.put]
            refine walkH_still _ ?cv18 rfl rfl rfl ?cy18 ?_
            case cy18 => intro w hS; go_simp; first | done | with_reducible rfl
            simp only [Act.put]
            refine walkH_nil ?_
            simp only [List.setIfInBounds_toArray, List.set_cons_zero, List.set_cons_succ]
            obtain ⟨Wd, hWd⟩ : ∃ Wd, W.drew = Wd := ⟨_, rfl⟩
            have hbd : Below W.heap.size W Wd := by rw [← hWd]; exact (Below.refl _ _).drew
            change Exit.then _ _ _ _ (W.drew)
            rw [hWd]
            clear hWd
            clear q0 q1 q2 q3 q4 q5 q6 k4 ra rb hcj
            gi_wp2_with fail
            refine ⟨trivial, ?_⟩
            gi_wp2
            exact KEEP.out _ _ hbd HBF.out
      case done =>
        rintro D xs W hD hxs ⟨⟨hrW, hbW, hxW, hgood⟩, hBW⟩ hK
        rw [hxs] at hgood
        have HRG := Lib.hid (reduc_good hgood)
        have hbr := boxed_below HXR2.out hBW
        have kr := hbr.cell
        have kf := hbr.frozen
        have HBR := Lib.hid (hbr.set (.bool true))
        have HK := Lib.hid hK
        have HBW := Lib.hid hBW
        have hw2 : w.heap.size ≤ W2.heap.size := by omega
        have hwD : w.heap.size ≠ D := by omega
        have HKS := Lib.hid (show (W.setCell ⟨w.heap.size, 0, none⟩ (.bool true)).heap[D]? = some (.deferred (some [])) from (Below.heap_setCell _ _ _ _ (Ne.symm hwD)).trans hK)
        clear hrW hbW hxW hgood hBW hK hbr
        gi_wp2
        refine ⟨by simp, .inl ⟨_, _, rfl, run_takeDeferred HKS.out, ?_⟩⟩
        have kz := (boxed_cells HBR.out (grownBy_putObj' _ D (.deferred none)) (fun r e => by cases e; exact ⟨_, HKS.out, rfl⟩)).cell
        refine ⟨.bool true, by simp [results, Try.f32, go_sem, kz], ret_bool HRG.out.symm, ?_⟩
        exact ((HB02.out.trans (HBW.out.mono hw2)).setCell (Nat.le_refl _) _).trans (belowK_b (w := w) (Nat.le_refl _) _ D _ _ (by omega) HKS.out rfl rfl)
      case stop =>
        rintro D c pre W hD hSp ⟨⟨rfl, hbx, e, he, hbad⟩, hBW⟩ hK
        have HRB := Lib.hid (reduc_bad hSp he hbad)
        have kr := hbx.cell
        have HK := Lib.hid hK
        have HBW := Lib.hid hBW
        have HBX := Lib.hid hbx
        clear hbx hBW hK hbad he
        gi_wp2
        refine ⟨by simp, .inl ⟨_, _, rfl, run_takeDeferred HK.out, ?_⟩⟩
        have kz := (boxed_cells HBX.out (grownBy_putObj' _ D (.deferred none)) (fun r e => by cases e; exact ⟨_, HK.out, rfl⟩)).cell
        refine ⟨.bool false, by simp [results, Try.f32, go_sem, kz], ret_bool HRB.out.symm, ?_⟩
        exact HBW.out.trans (belowK_b (w := w) (Nat.le_refl _) _ D _ _ (by omega) HK.out rfl rfl)
end Go.Proofs.Ythanbedmiaacdaa.Gc
