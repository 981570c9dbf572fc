/- Stage 3: spans, takes, the uses' instructions, equals and phis. -/
import Derived.Test.YtdfehpcbcgbidaaGOrd
import Derived.Test.YtdfehpcbcgbidaaKB
import Derived.Test.YtdfehpcbcgbidaaFn
import Derived.Test.YtdfehpcbcgbidaaKA
/- What package check's spans answers: of each block the numbers of those that it dominates. -/
namespace Go.Proofs.Ytdfehpcbcgbidaa.Gc
open Go.ChangeShapes Go.WideShapes Go.ChangeAt Go.RowKit Go.Shelf Go.Proofs.Ytdfehpcbcgbidaa.Mem Go.Proofs.Ytdfehpcbcgbidaa.Gr Go.Proofs.Ytdfehpcbcgbidaa.Gn Go.Proofs.Ytdfehpcbcgbidaa.Br Go.Proofs.Ytdfehpcbcgbidaa.Rp
set_option linter.unusedVariables false
attribute [local go_sem] Oper.semAt_some
def spanZ (came : List Nat) (idom : List Int) (k : Nat) : List Nat × List (Int × Int) := (came.take k).foldl (spanStep idom (countN came idom)) (List.replicate idom.length 0, List.replicate idom.length (0, 0))
def spansZ (came : List Nat) (idom : List Int) : List (Int × Int) := (spanZ came idom came.length).2
theorem spanZ_succ {came : List Nat} {idom : List Int} {j : Nat} (h : j < came.length) : spanZ came idom (j + 1) = spanStep idom (countN came idom) (spanZ came idom j) came[j] := by
  unfold spanZ
  rw [List.take_succ_eq_append_getElem h, List.foldl_append]; rfl
theorem spanZ_len (came : List Nat) (idom : List Int) (j : Nat) : (spanZ came idom j).1.length = idom.length ∧ (spanZ came idom j).2.length = idom.length := by
  unfold spanZ
  have : ∀ (l : List Nat) (s : List Nat × List (Int × Int)), (l.foldl (spanStep idom (countN came idom)) s).1.length = s.1.length ∧ (l.foldl (spanStep idom (countN came idom)) s).2.length = s.2.length := by
    intro l
    induction l with
    | nil => intro s; exact ⟨rfl, rfl⟩
    | cons b l ih => intro s; rw [List.foldl_cons]; obtain ⟨h1, h2⟩ := ih (spanStep idom (countN came idom) s b); obtain ⟨h3, h4⟩ := spanStep_len idom (countN came idom) s b; exact ⟨h1.trans h3, h2.trans h4⟩
  obtain ⟨h1, h2⟩ := this (came.take j) (List.replicate idom.length 0, List.replicate idom.length (0, 0))
  exact ⟨by rw [h1]; simp, by rw [h2]; simp⟩
theorem getD_setP {α : Type} (l : List α) (b x : Nat) (p d : α) : (l.set b p).getD x d = if b = x then (if b < l.length then p else d) else l.getD x d := by
  rw [List.getD_eq_getElem?_getD, List.getElem?_set, List.getD_eq_getElem?_getD]
  split
  · split <;> rfl
  · rfl
theorem spanStep_same (idom : List Int) (count : List Nat) (b : Nat) (s t : List Nat × List (Int × Int)) (h1 : s.1 = t.1) (hl : s.2.length = t.2.length) (P : Nat → Prop) (h2 : ∀ x, P x → s.2.getD x (0, 0) = t.2.getD x (0, 0)) :
    (spanStep idom count s b).1 = (spanStep idom count t b).1 ∧ ∀ x, (P x ∨ x = b ∧ b < t.2.length) → (spanStep idom count s b).2.getD x (0, 0) = (spanStep idom count t b).2.getD x (0, 0) := by
  unfold spanStep
  simp only [h1]
  refine ⟨trivial, fun x hx => ?_⟩
  rw [getD_setP, getD_setP, hl]
  by_cases e : b = x
  · rw [if_pos e, if_pos e]
  · rw [if_neg e, if_neg e]
    exact h2 x (hx.elim id fun h => absurd h.1.symm e)
theorem spanZ_same (came : List Nat) (idom : List Int) (hlt : ∀ b ∈ came, b < idom.length) : ∀ j, j ≤ came.length → (spanZ came idom j).1 = (spanTo came idom j).1 ∧ ∀ x ∈ came.take j, (spanZ came idom j).2.getD x (0, 0) = (spanTo came idom j).2.getD x (0, 0) := by
  intro j
  induction j with
  | zero => intro _; exact ⟨rfl, fun x hx => by simp at hx⟩
  | succ j ih =>
    intro hj
    obtain ⟨h1, h2⟩ := ih (by omega)
    rw [spanZ_succ (by omega), spanTo_succ (by omega)]
    obtain ⟨h3, h4⟩ := spanStep_same idom (countN came idom) came[j] _ _ h1 (by rw [(spanZ_len _ _ _).2, (spanTo_len _ _ _).2]) (fun x => x ∈ came.take j) h2
    refine ⟨h3, fun x hx => h4 x ?_⟩
    rw [List.take_succ_eq_append_getElem (by omega), List.mem_append, List.mem_singleton] at hx
    rcases hx with hx | hx
    · exact Or.inl hx
    · exact Or.inr ⟨hx, by rw [(spanTo_len _ _ _).2]; exact hlt _ (List.getElem_mem _)⟩
theorem spanZ_one (came : List Nat) (idom : List Int) (j : Nat) : (spanZ came idom j).1 = (spanTo came idom j).1 := by
  unfold spanZ spanTo
  have : ∀ (l : List Nat) (s t : List Nat × List (Int × Int)), s.1 = t.1 → (l.foldl (spanStep idom (countN came idom)) s).1 = (l.foldl (spanStep idom (countN came idom)) t).1 := by
    intro l
    induction l with
    | nil => intro s t h; exact h
    | cons b l ih => intro s t h; rw [List.foldl_cons, List.foldl_cons]; exact ih _ _ (by unfold spanStep; simp only [h])
  exact this _ _ _ rfl
theorem spansZ_same {came : List Nat} {idom : List Int} (hlt : ∀ b ∈ came, b < idom.length) {x : Nat} (hx : x ∈ came) : (spansZ came idom).getD x (0, 0) = (spansN came idom).getD x (0, 0) :=
  (spanZ_same came idom hlt came.length (Nat.le_refl _)).2 x (by rw [List.take_length]; exact hx)
set_option maxRecDepth 100000 in
set_option maxHeartbeats 8000000 in
theorem cspans_any (w : World) (vc vi : Value) (came : List Nat) (idom : List Int) (hc : Ints w vc (li came)) (hi : Ints w vi idom) (hs : Spanned came idom) (hn : idom.length ≤ 1000) (hk : came.length ≤ 1000) :
    Calls Try.prog 54 #[vc, vi] w fun e w' => ∃ v, e = .returned v ∧ OwnRanges w.heap.size w' v (spansZ came idom) ∧ Below w.heap.size w w' := by
  obtain ⟨Ac, cc, rfl, hc1, hc2, hc3⟩ := hc
  obtain ⟨Ai, ci, rfl, hi1, hi2, hi3⟩ := hi
  rw [li_len] at hc1 ⊢
  unfold maxLen at hc2 hi2
  have HC := Lib.hid hc3
  have HI := Lib.hid hi3
  have HS := Lib.hid hs
  obtain ⟨i0, hi0, hz0, hz1, hz2⟩ := info_parts info_int
  have HI0 := Lib.hid hi0
  have HZ0 := Lib.hid hz0
  have HZ1 := Lib.hid hz1
  have HZ2 := Lib.hid hz2
  obtain ⟨i1, hi4, hy0, hy1, hy2⟩ := info_parts info_range2
  have HI1 := Lib.hid hi4
  have HY0 := Lib.hid hy0
  have HY1 := Lib.hid hy1
  have HY2 := Lib.hid hy2
  clear hi0 hz0 hz1 hz2 hs hc3 hi3 hi4 hy0 hy1 hy2
  refine (callsIn_wide (n := 9)).1 ?_
  refine callsIn_of_wp_marks Try.func54 rfl trivial ?_ rfl
  simp only [Try.ntmps54, List.size_toArray, List.length_cons, List.length_nil, Nat.reduceAdd, Nat.reduceSub, Array.replicate_succ, Array.replicate_zero, List.push_toArray, List.append_toArray, List.nil_append, List.cons_append]
  have hb0 : Below w.heap.size w (w.alloc (.cells #[.slice Ai idom.length ci] 28)) := (Below.refl _ _).alloc (Nat.le_refl _) _
  have hx0 : Boxed (w.alloc (.cells #[.slice Ai idom.length ci] 28)) w.heap.size 28 (.slice Ai idom.length ci) := Boxed.new _ _ _
  have hz0 : (w.alloc (.cells #[.slice Ai idom.length ci] 28)).heap.size = w.heap.size + 1 := by simp
  gi_wp2_with (gi_at_make; refine wpListIn_make_full _ rfl _ _ 28 rfl (w.alloc (.cells #[.slice Ai idom.length ci] 28)).heap.size 3 i0 (.int .i64 0) 1 Try.underlying28 HI0.out HZ0.out HZ1.out .i64 .i64 _ _ idom.length rfl rfl rfl rfl (by rw [HZ2.out]; omega) (by unfold maxLen; omega) (Nat.le_refl _) ?_)
  intro w1 hown1 hgr1
  rw [toList_madeCells_one] at hown1
  have ho1 := zeros_own hown1
  have hb1 := hb0.grown hgr1 (by omega) (fun j hj => by cases hj)
  have hx1 := hx0.kept hgr1 (by simp)
  have hl1 := (ho1.lt _ rfl)
  have hl1 : w.heap.size + 1 ≤ w.heap.size + 1 ∧ w.heap.size + 1 < w1.heap.size := hl1

  have hfd : ∀ (k : Nat) (W : World), Below w.heap.size w W → True := fun _ _ _ => trivial
  obtain ⟨W2, hW2⟩ : ∃ W2, (w1.alloc (.cells #[.slice none 0 0] 28)).setCell ⟨w1.heap.size, 0, none⟩ (.slice (some ⟨w.heap.size + 1, 0, none⟩) idom.length idom.length) = W2 := ⟨_, rfl⟩
  have hal : Below w1.heap.size w1 W2 := by rw [← hW2]; exact ((Below.refl _ _).alloc (Nat.le_refl _) _).setCell (Nat.le_refl _) _
  have hx5 : Boxed W2 w1.heap.size 28 (.slice (some ⟨w.heap.size + 1, 0, none⟩) idom.length idom.length) := by rw [← hW2]; exact (Boxed.new _ _ _).set _
  have hz2 : w1.heap.size < W2.heap.size := by rw [← hW2]; simp [World.setCell]
  have hr2 := own_below ho1 hal
  have hb2 := hb1.trans (hal.mono (by omega))
  have hx2 := boxed_below hx1 hal
  have HR2 := Lib.hid hr2
  have HB2 := Lib.hid hb2
  have HX2 := Lib.hid hx2
  have HX5 := Lib.hid hx5
  clear hown1 hgr1 hx0 hr2 hb2 hx2 hx5 hb1 hx1 ho1 hal hb0
  gi_wp2_with fail
  refine ⟨trivial, ?_⟩
  refine (callsIn_wide.2 (backward_any _ Ac came.length cc)).mono ?_
  rintro e w3 ⟨rfl, rfl⟩
  gi_wp2
  obtain ⟨W3, hW3⟩ : ∃ W3, W2.alloc (.cells #[.slice Ac came.length cc] 28) = W3 := ⟨_, rfl⟩
  rw [hW3]
  have hA3 : Below W2.heap.size W2 W3 := by rw [← hW3]; exact (Below.refl _ _).alloc (Nat.le_refl _) _
  have hz3 : W3.heap.size = W2.heap.size + 1 := by rw [← hW3]; simp
  have hx3 : Boxed W3 W2.heap.size 28 (.slice Ac came.length cc) := by rw [← hW3]; exact Boxed.new _ _ _
  clear hW3
  have hIK : IntsK (fun j => j < w.heap.size ∨ j = W2.heap.size) W3 Ac came := by
    intro j hj
    obtain ⟨ad, rfl, hx⟩ := HC.out j (by rw [li_len]; exact hj)
    rw [li_at hj] at hx
    exact ⟨ad, rfl, Or.inl (lt_of_cell hx), cell_keep (HB2.out.trans (hA3.mono HB2.out.size)) (Nat.le_refl _) hx⟩
  have hww : w.heap.size ≤ W2.heap.size := HB2.out.size
  have hKlt : ∀ j, (j < w.heap.size ∨ j = W2.heap.size) → j < W3.heap.size := by
    rintro j (h | h) <;> omega
  have HCO := Lib.hid (show Counts idom.length w1.heap.size w (.slice Ai idom.length ci) (w.heap.size + 1) (fun j => j < w.heap.size ∨ j = W2.heap.size) W3 W3 (countW idom []) from
    ⟨by have h := own_below HR2.out hA3; unfold li at h; rw [List.map_replicate] at h; exact h, boxed_below HX5.out hA3, boxed_below HX2.out hA3, Fr.of_below (HB2.out.trans (hA3.mono hww)), KeepsOthers.refl _, KeptP.refl _ _⟩)
  have hlt : ∀ b ∈ came, b ∈ came := fun _ h => h
  refine wpIn_rangeFunc_ownF rfl (by omega) (gf := 92) (lb := #[.pointer (some ⟨W2.heap.size, 0, none⟩)]) rfl trivial (enters_of Try.func92 (by kernel_rfl) rfl)
    (backward_stopsQ Fence.wide 8 trivial rfl (by omega) (fun j => j < w.heap.size ∨ j = W2.heap.size) W3 Ac came cc W2.heap.size (fun b => b ∈ came) hIK hc1 (by unfold maxLen; omega) hlt hx3.cell (Or.inr rfl) hKlt (by omega)) KeptP.trans (keptP_b hKlt) (Below.refl _ _) (fun _ => rfl)
    (fun pre W => (OwnInts (w.heap.size + 1) W (.slice (some ⟨w.heap.size + 1, 0, none⟩) idom.length idom.length) (countW idom (pre.map (·.1.2))) ∧ Boxed W w1.heap.size 28 (.slice (some ⟨w.heap.size + 1, 0, none⟩) idom.length idom.length) ∧ Boxed W w.heap.size 28 (.slice Ai idom.length ci)) ∧ Fr (fun j => j = w.heap.size + 1) w W)
    (fun _ _ _ => False)
    (OwnFrom.and (Own.from (fun s W W' row hs hg hr => ⟨World.ownsRow.kept hs.1 hg (own_notcells hs.1 hr), boxed_cells hs.2.1 hg hr, boxed_cells hs.2.2 hg hr⟩) _) (ownFrom_fr (by omega)))
    (fun _ _ _ _ _ hs _ _ => hs)
    ⟨⟨HCO.out.row, HCO.out.cbox, HCO.out.ibox⟩, HCO.out.fr⟩
    (fun v => { tmps := #[.slice Ac came.length cc, .slice Ai idom.length ci, undef, .pointer (some ⟨w.heap.size, 0, none⟩), .slice none 0 0, .pointer (some ⟨w1.heap.size, 0, none⟩), undef, .int .i64 (v.1.2 : Nat), undef, undef, undef, undef, undef,
      .slice Ai idom.length ci, .int .i64 idom.length, .slice (some ⟨w.heap.size + 1, 0, none⟩) idom.length idom.length, .slice Ac came.length cc, .func (.func 92) #[] #[.pointer (some ⟨W2.heap.size, 0, none⟩)], .int .i64 (v.1.1 : Nat), .int .i64 (v.1.2 : Nat), undef, undef, undef, undef, undef, undef, undef, undef, undef, undef, undef, undef, undef, undef, undef, undef, undef, undef, undef, undef, undef, undef, undef, undef, undef, undef, undef, undef, undef, undef, undef, undef, undef, undef, undef, undef, undef, undef, undef, undef, undef, undef, undef, undef, undef, undef, undef, undef, undef, undef, undef, undef, undef, undef, undef, undef, undef, undef, undef, undef, undef, undef, undef, undef, undef, undef, undef, undef, undef, undef, undef, undef, undef], defers := [] }) ?assign ?body ?done ?stop
  case assign =>
    intro l v W K hK
    gi_wp2
    exact hK
  case body =>
    rintro l pre v W ⟨⟨hrd, hcb, hib⟩, hfr⟩ hlen
    obtain ⟨⟨j0, b⟩, hb⟩ := v
    have hbm : b ∈ came := hb
    have hbn := HS.out.lt b hbm
    have HSN := Lib.hid (show countW idom ((pre ++ [(⟨(j0, b), hb⟩ : BwQ (fun b => b ∈ came))]).map (·.1.2)) = cstep idom (countW idom (pre.map (·.1.2))) b by rw [List.map_append]; exact countW_snoc _ _ _)
    have hcl := countW_len idom (pre.map (·.1.2))
    generalize countW idom (pre.map (·.1.2)) = c at *
    have HCO := Lib.hid (show Counts idom.length w1.heap.size w (.slice Ai idom.length ci) (w.heap.size + 1) (fun j => j < w.heap.size ∨ j = W2.heap.size) W W c from ⟨hrd, hcb, hib, hfr, KeepsOthers.refl _, KeptP.refl _ _⟩)
    have hKc : ¬ (w.heap.size + 1 < w.heap.size ∨ w.heap.size + 1 = W2.heap.size) := by rintro (h | h) <;> omega
    obtain ⟨q1, qf⟩ := row_int hrd (j := b) (by rw [hcl]; exact hbn) 0
    have kc := hcb.cell
    clear hrd hcb hib hfr
    generalize hcbv : c.getD b 0 = x at *
    by_cases hb0 : b = 0
    · have hb1 : ((b : Int) != 0) = false := by rw [hb0]; rfl
      have HST := Lib.hid (show cstep idom c b = c.set b (wrap64 (x + 1)) by unfold cstep; rw [if_pos hb0, hcbv])
      have HC4 := Lib.hid (HCO.out.put (by omega) (by omega) hKc b (wrap64 (x + 1)))
      clear hb0
      gi_wp2
      exact ⟨HC4.out.others, HC4.out.kept, ⟨by rw [HSN.out, HST.out]; exact HC4.out.row, HC4.out.cbox, HC4.out.ibox⟩, HC4.out.fr⟩
    · obtain ⟨a, hia, han⟩ := HS.out.up b hbm hb0
      obtain ⟨ad, rfl, hic⟩ := HI.out b hbn
      have hie : idom[b] = (a : Int) := by rw [← hia, List.getD_eq_getElem?_getD, List.getElem?_eq_getElem hbn]; rfl
      rw [hie] at hic
      have HIC := Lib.hid hic
      have hb1 : (b : Int) ≠ 0 := by omega
      have hb2 : ((b : Int) != 0) = true := by rw [bne_iff_ne]; exact hb1
      have HST := Lib.hid (show cstep idom c b = (c.set b (wrap64 (x + 1))).set a (wrap64 ((c.set b (wrap64 (x + 1))).getD a 0 + (c.set b (wrap64 (x + 1))).getD b 0)) by unfold cstep; rw [if_neg hb0, hcbv, hia, Int.toNat_natCast])
      clear hie hic hb1
      gi_wp2
      obtain ⟨W5, hW5⟩ : ∃ W5, W.setCell ⟨w.heap.size + 1, b, none⟩ (.int .i64 (wrap64 (x + 1))) = W5 := ⟨_, rfl⟩
      have hc5 := HCO.out.put (by omega) (by omega) hKc b (wrap64 (x + 1))
      rw [hW5] at hc5
      rw [hW5]
      clear hW5 kc q1 qf
      have kc := hc5.cbox.cell
      have ki := hc5.ibox.cell
      have kx : W5.cell? (ad.add b) = some (.int .i64 a) := hc5.fr.cell HIC.out (by have := lt_of_cell HIC.out; omega)
      have hl5 : (c.set b (wrap64 (x + 1))).length = idom.length := by rw [List.length_set, hcl]
      obtain ⟨q1, qf⟩ := row_int hc5.row (j := a) (by rw [hl5]; exact han) 0
      obtain ⟨q2, _⟩ := row_int hc5.row (j := b) (by rw [hl5]; exact hbn) 0
      generalize (c.set b (wrap64 (x + 1))).getD a 0 = y at *
      generalize (c.set b (wrap64 (x + 1))).getD b 0 = z at *
      have HC5 := Lib.hid hc5
      clear hc5 hia hcbv
      refine region_tail (lets_round l) 13 (by kernel_rfl) (by kernel_rfl) (fun _ _ h => h) (by kernel_rfl) ?_
      simp only [List.take_succ_cons, List.take_zero, List.drop_succ_cons, List.drop_zero]
      repeat still_step
      refine wpStill_nil ?_
      go_wp2
      gi_wp2
      have HC6 := Lib.hid ((HC5.out.put (by omega) (by omega) hKc a (wrap64 (y + z))).drew)
      exact ⟨HC6.out.others, HC6.out.kept, ⟨by rw [HSN.out, HST.out]; exact HC6.out.row, HC6.out.cbox, HC6.out.ibox⟩, HC6.out.fr⟩
  case done =>
    rintro D xs W hD hxs ⟨⟨hrd, hcb, hib⟩, hfr⟩ hK
    rw [hxs, countW_is HS.out] at hrd
    have HRD := Lib.hid hrd
    have HCB := Lib.hid hcb
    have HIB := Lib.hid hib
    have HFR := Lib.hid hfr
    have HK := Lib.hid hK
    have ki := hib.cell
    have hwW := hfr.size
    have hcW := (hrd.lt _ rfl).2
    clear hrd hcb hib hfr hK
    gi_wp2_with (gi_at_make; refine wpListIn_make_full _ rfl _ _ 28 rfl W.heap.size 3 i0 (.int .i64 0) 1 Try.underlying28 HI0.out HZ0.out HZ1.out .i64 .i64 _ _ idom.length rfl rfl rfl rfl (by rw [HZ2.out]; omega) (by unfold maxLen; omega) (Nat.le_refl _) ?_)
    intro w7 hown7 hgr7
    rw [toList_madeCells_one] at hown7
    have ho7 := zeros_own hown7
    have hb7 : Below W.heap.size W w7 := (Below.refl _ _).grown hgr7 (Nat.le_refl _) (fun j hj => by cases hj)
    have hz7 : W.heap.size < w7.heap.size := (ho7.lt _ rfl).2
    have ki8 : w7.cell? ⟨w.heap.size, 0, none⟩ = some (.slice Ai idom.length ci) := cell_keep hb7 (Nat.le_refl _) ki
    clear hown7 hgr7
    have HO7 := Lib.hid ho7
    have HB7 := Lib.hid hb7
    clear ho7 hb7
    gi_wp2_with (gi_at_make; refine wpListIn_make_full _ rfl _ _ 61 rfl w7.heap.size 121 i1 (.agg #[.int .i64 0, .int .i64 0]) 2 Try.underlying61 HI1.out HY0.out HY1.out .i64 .i64 _ _ idom.length rfl rfl rfl rfl (by rw [HY2.out]; omega) (by unfold maxLen; omega) (Nat.le_refl _) ?_)
    intro w9 hown9 hgr9
    have ho9 : OwnRanges w7.heap.size w9 (.slice (some ⟨w7.heap.size, 0, none⟩) idom.length idom.length) (List.replicate idom.length (0, 0)) := by
      unfold OwnRanges
      rw [← rep_rg, List.length_replicate]
      rw [toList_madeCells_two] at hown9
      exact hown9
    have hb9 : Below w7.heap.size w7 w9 := (Below.refl _ _).grown hgr9 (Nat.le_refl _) (fun j hj => by cases hj)
    have hz9 : w7.heap.size < w9.heap.size := (ho9.lt _ rfl).2
    have hbW : Below W.heap.size W w9 := HB7.out.trans (hb9.mono (by omega))
    have HBW := Lib.hid hbW
    have HN9 := Lib.hid (own_below HO7.out hb9)
    have HA9 := Lib.hid ho9
    clear ho9 hb9 ki8 hbW hown9 hgr9
    gi_wp2
    gi_loopw [49] (fun i wr => ∃ j : Nat, j ≤ came.length ∧ i = .int .i64 j ∧ OwnInts W.heap.size wr (.slice (some ⟨W.heap.size, 0, none⟩) idom.length idom.length) (li (spanZ came idom j).1) ∧
      OwnRanges W.heap.size wr (.slice (some ⟨w7.heap.size, 0, none⟩) idom.length idom.length) (spanZ came idom j).2 ∧ Below W.heap.size W wr) (fun i _ => came.length - (intOf i).toNat)
    case atStart => exact ⟨0, Nat.zero_le _, rfl, HN9.out, own_base HA9.out (by omega), HBW.out⟩
    case round =>
      obtain ⟨j, hj, rfl, hrn, hra, hbw⟩ := hrel
      obtain ⟨wo, rfl⟩ : ∃ wo : World, wo = wr := ⟨_, rfl⟩
      by_cases hlt : j < came.length
      · obtain ⟨ad, rfl, hcj⟩ := HC.out j (by rw [li_len]; exact hlt)
        rw [li_at hlt] at hcj
        have hbm : came[j] ∈ came := List.getElem_mem hlt
        have HSS := Lib.hid (spanZ_succ (idom := idom) hlt)
        generalize came[j] = b at *
        have hbn := HS.out.lt b hbm
        have hcW2 : wo.cell? (ad.add j) = some (.int .i64 b) := cell_keep hbw (by have := lt_of_cell hcj; omega) (cell_keep (HFR.out.below (B := w.heap.size) (Nat.le_refl _) (fun k hk e => by omega)) (Nat.le_refl _) hcj)
        have hcn : (countN came idom).length = idom.length := countL_len _ _
        have hrc := own_below HRD.out hbw
        obtain ⟨hcc, _⟩ := row_nat hrc (j := b) (by rw [hcn]; exact hbn)
        have hcb := HS.out.count came.reverse (List.prefix_refl _) b
        change (countN came idom).getD b 0 ≤ 1000 at hcb
        have hnl := (spanZ_len came idom j).1
        have hal := (spanZ_len came idom j).2
        obtain ⟨hnc, hnf⟩ := row_nat hrn (j := b) (by rw [hnl]; exact hbn)
        obtain ⟨⟨ha1, ha2⟩, ha3, ha4⟩ := OwnRanges.cells hra (b := b) (by rw [hal]; exact hbn)
        have kc := (boxed_below HCB.out hbw).cell
        have ki := (boxed_below HIB.out hbw).cell
        have HRN := Lib.hid hrn
        have HRA := Lib.hid hra
        have HBF := Lib.hid hbw
        have hnx : ∀ b, (spanZ came idom j).1.getD b 0 ≤ 1000 := fun b => by rw [spanZ_one]; exact HS.out.next j b
        generalize hst : spanZ came idom j = st at *
        generalize hxe : (countN came idom).getD b 0 = x at *
        have HXE := Lib.hid hxe
        generalize hy1 : st.2[b].1 = y1 at *
        generalize hy2 : st.2[b].2 = y2 at *
        clear hy1 hy2 hrn hra hbw hrc hxe
        by_cases hb0 : b = 0
        · have hb1 : ((b : Int) != 0) = false := by rw [hb0]; rfl
          have HSB := Lib.hid (show spanZ came idom (j + 1) = (st.1.set b 1, st.2.set b (0, (x : Int))) by
            rw [HSS.out]; unfold spanStep; simp only [if_pos hb0, Nat.zero_add, HXE.out]; rfl)
          clear hb0
          generalize st.1.getD b 0 = z at *
          gi_wp2
          go_roundw
          case rel =>
            obtain ⟨h1, h2⟩ := span_put HRN.out HRA.out (by omega) b (0, (x : Int)) 1
            refine ⟨j + 1, by omega, by go_num, by rw [HSB.out]; show OwnInts _ _ _ (li (st.1.set b 1)); rw [li_set]; exact h1, by rw [HSB.out]; exact h2, ?_⟩
            exact ((HBF.out.setCell (p := ⟨w7.heap.size, b * 2, none⟩) (by show W.heap.size ≤ w7.heap.size; omega) _).setCell (p := ⟨w7.heap.size, b * 2 + 1, none⟩) (by show W.heap.size ≤ w7.heap.size; omega) _).setCell (p := ⟨W.heap.size, b, none⟩) (Nat.le_refl _) _
          case measure => simp [intOf]; omega
        · obtain ⟨a, hia, han⟩ := HS.out.up b hbm hb0
          obtain ⟨ad2, rfl, hic⟩ := HI.out b hbn
          have hie : idom[b] = (a : Int) := by rw [← hia, List.getD_eq_getElem?_getD, List.getElem?_eq_getElem hbn]; rfl
          rw [hie] at hic
          have hic2 : wo.cell? (ad2.add b) = some (.int .i64 a) := cell_keep HBF.out (by have := lt_of_cell hic; omega) (cell_keep (HFR.out.below (B := w.heap.size) (Nat.le_refl _) (fun k hk e => by omega)) (Nat.le_refl _) hic)
          have HIC := Lib.hid hic2
          have hb1 : ((b : Int) != 0) = true := by rw [bne_iff_ne]; omega
          have HSB := Lib.hid (show spanZ came idom (j + 1) = ((st.1.set a (st.1.getD a 0 + x)).set b (st.1.getD a 0 + 1), st.2.set b ((st.1.getD a 0 : Int), ((st.1.getD a 0 + x : Nat) : Int))) by
            rw [HSS.out]; unfold spanStep; simp only [if_neg hb0, hia, Int.toNat_natCast, HXE.out])
          obtain ⟨hnc2, hnf2⟩ := row_nat HRN.out (j := a) (by rw [hnl]; exact han)
          have hnx2 := hnx a
          generalize st.1.getD a 0 = f at *
          generalize st.1.getD b 0 = z at *
          clear hie hic hb0 hia
          gi_wp2
          refine region_tail lets_wide 13 (by kernel_rfl) (by kernel_rfl) (fun _ W0 h => by obtain ⟨_, e, _⟩ := (show ∃ v, Ending.outgrown = .returned v ∧ OwnRanges w.heap.size W0 v (spansZ came idom) ∧ Below w.heap.size w W0 from h); cases e) (by kernel_rfl) ?_
          simp only [List.take_succ_cons, List.take_zero, List.drop_succ_cons, List.drop_zero]
          repeat still_step
          refine wpStill_nil ?_
          go_wp2
          obtain ⟨W6, hW6⟩ : ∃ W6, (wo.setCell ⟨W.heap.size, a, none⟩ (.int .i64 ((f : Int) + (x : Int)))).drew = W6 := ⟨_, rfl⟩
          rw [hW6]
          have hb6 : Below W.heap.size W W6 := by rw [← hW6]; exact (HBF.out.setCell (p := ⟨W.heap.size, a, none⟩) (Nat.le_refl _) _).drew
          have hn6 : OwnInts W.heap.size W6 (.slice (some ⟨W.heap.size, 0, none⟩) idom.length idom.length) (li (st.1.set a (f + x))) := by
            rw [← hW6, li_set, show (((f + x : Nat)) : Int) = (f : Int) + (x : Int) from rfl]
            exact World.ownsRow.drew (OwnInts.stored HRN.out a _).1
          have ha6 : OwnRanges W.heap.size W6 (.slice (some ⟨w7.heap.size, 0, none⟩) idom.length idom.length) st.2 := by
            rw [← hW6]
            exact World.ownsRow.drew (World.ownsRow.kept HRA.out (setCell_grownBy _ ⟨W.heap.size, a, none⟩ _) (Or.inr (fun e => by injection e with e; dsimp only at e; omega)))
          clear hW6 hnc hnf ha1 ha2 ha3 ha4 kc ki hnc2 hnf2 hcc
          have hrc := own_below HRD.out hb6
          have hcc := (row_nat hrc (j := b) (by rw [hcn]; exact hbn)).1
          rw [HXE.out] at hcc
          obtain ⟨hnc, hnf⟩ := row_nat hn6 (j := b) (by rw [List.length_set, hnl]; exact hbn)
          obtain ⟨⟨ha1, ha2⟩, ha3, ha4⟩ := OwnRanges.cells ha6 (b := b) (by rw [hal]; exact hbn)
          have kc := (boxed_below HCB.out hb6).cell
          have ki := (boxed_below HIB.out hb6).cell
          have HN6 := Lib.hid hn6
          have HA6 := Lib.hid ha6
          have HB6 := Lib.hid hb6
          generalize (st.1.set a (f + x)).getD b 0 = z2 at *
          generalize st.2[b].1 = y3 at *
          generalize st.2[b].2 = y4 at *
          clear hn6 ha6 hb6 hrc
          gi_wp2
          go_roundw
          case rel =>
            obtain ⟨h1, h2⟩ := span_put HN6.out HA6.out (by omega) b ((f : Int), ((f + x : Nat) : Int)) ((f : Int) + 1)
            refine ⟨j + 1, by omega, by go_num, by rw [HSB.out]; show OwnInts _ _ _ (li ((st.1.set a (f + x)).set b (f + 1))); rw [li_set]; exact h1, by rw [HSB.out]; exact h2, ?_⟩
            exact ((HB6.out.setCell (p := ⟨w7.heap.size, b * 2, none⟩) (by show W.heap.size ≤ w7.heap.size; omega) _).setCell (p := ⟨w7.heap.size, b * 2 + 1, none⟩) (by show W.heap.size ≤ w7.heap.size; omega) _).setCell (p := ⟨W.heap.size, b, none⟩) (Nat.le_refl _) _
          case measure => simp [intOf]; omega
      · obtain rfl : j = came.length := by omega
        have HRA := Lib.hid hra
        have HBF := Lib.hid hbw
        clear hrn hra hbw
        gi_wp2
        have hDl : D < W.heap.size := (Array.getElem?_eq_some_iff.1 HK.out).1
        have hK2 := (HBF.out.block D hDl).trans HK.out
        have hg := grownBy_putObj' wo D (.deferred none)
        refine ⟨by simp, .inl ⟨_, _, rfl, run_takeDeferred hK2, ?_⟩⟩
        refine ⟨_, results_tmp rfl _ _ _, _, rfl, ?_, ?_⟩
        · have h := World.ownsRow.kept HRA.out hg (own_notcells HRA.out (fun r e => by cases e; exact ⟨_, hK2, rfl⟩))
          exact own_base h hwW
        · have h1 : Below w.heap.size w wo := (HFR.out.below (B := w.heap.size) (Nat.le_refl _) (fun k hk e => by omega)).trans (HBF.out.mono hwW)
          exact h1.grown hg h1.size (fun k hk => by injection hk with hk; omega)
  case stop =>
    rintro D c pre W _ _ h _
    exact h.elim
end Go.Proofs.Ytdfehpcbcgbidaa.Gc
/- Stage 3: operands are held against what is made ahead of them: check's take. -/
namespace Go.Proofs.Ytdfehpcbcgbidaa.Kc
open Go.ChangeShapes Go.WideShapes Go.ChangeAt Go.RowKit Go.Maps Go.Proofs.Ytdfehpcbcgbidaa.Mem Go.Proofs.Ytdfehpcbcgbidaa.Br
set_option linter.unusedVariables false
/-- What the checker knows in the end. -/
structure Known where
  params : Int
  f : Spots
  preds : List (List Int)
  sp : Nat → Int × Int
  n : Nat
def Known.K (q : Known) (v : Int) (a : Nat) (p : Int) : Bool := knownB q.params q.f q.sp v a p
structure Chk2 (w : World) (cb mb cc : Nat) (bv pv : Value) (sb c : Nat) (q : Known) : Prop where
  chk : ChkAt w cb mb cc q.params bv q.f
  c3 : w.cell? ⟨cb, 3, none⟩ = some pv
  pred : Grid w pv q.preds
  c4 : w.cell? ⟨cb, 4, none⟩ = some (.slice (some ⟨sb, 0, none⟩) q.n c)
  span : ∀ b, b < q.n → w.cell? ⟨sb, b * 2, none⟩ = some (.int .i64 (q.sp b).1) ∧ w.cell? ⟨sb, b * 2 + 1, none⟩ = some (.int .i64 (q.sp b).2)
  le : q.n ≤ 100000
  made : ∀ x s, q.f x = some s → ∃ b : Nat, s.1 = (b : Int) ∧ b < q.n
theorem Chk2.below {w w' : World} {cb mb cc : Nat} {bv pv : Value} {sb c : Nat} {q : Known} (h : Chk2 w cb mb cc bv pv sb c q) (hb : Below w.heap.size w w') : Chk2 w' cb mb cc bv pv sb c q :=
  ⟨h.chk.below hb, cell_keep hb (Nat.le_refl _) h.c3, h.pred.keep hb, cell_keep hb (Nat.le_refl _) h.c4, fun b hn => ⟨cell_keep hb (Nat.le_refl _) (h.span b hn).1, cell_keep hb (Nat.le_refl _) (h.span b hn).2⟩, h.le, h.made⟩
theorem Chk2.knows {w : World} {cb mb cc : Nat} {bv pv : Value} {sb c : Nat} {q : Known} (h : Chk2 w cb mb cc bv pv sb c q) {v : Int} (hv : InI v) {a : Nat} (ha : a < q.n) (p : Int) :
    Calls Try.prog 58 #[.pointer (some ⟨cb, 0, none⟩), .int .i64 v, .agg #[.int .i64 (a : Int), .int .i64 p]] w (Says (q.K v a p) w) :=
  known_any w cb mb sb cc q.n c q.params v p a q.f q.sp h.chk.c0 h.chk.c2 h.c4 h.chk.spots h.span hv ha h.le h.made
theorem all_take_succ {vs : List Int} {q : Int → Bool} {k : Nat} (hk : k < vs.length) (h : (vs.take k).all q = true) : (vs.take (k + 1)).all q = q vs[k] := by
  rw [List.take_succ_eq_append_getElem hk, List.all_append, h]; simp
theorem all_of_take {vs : List Int} {q : Int → Bool} {k : Nat} (h : (vs.take k).all q = false) : vs.all q = false := by
  obtain ⟨x, hx, hq⟩ := List.all_eq_false.1 h
  exact List.all_eq_false.2 ⟨x, List.mem_of_mem_take hx, hq⟩
set_option maxRecDepth 100000 in
set_option maxHeartbeats 4000000 in
theorem take_any (w : World) (cb mb cc : Nat) (bv pv : Value) (sb c : Nat) (q : Known) (a : Nat) (p : Int) (vs : List Int) (v : Value) (hq : Chk2 w cb mb cc bv pv sb c q) (hv : Ints w v vs) (hI : ∀ x ∈ vs, InI x) (ha : a < q.n) :
    Calls Try.prog 59 #[.pointer (some ⟨cb, 0, none⟩), .agg #[.int .i64 (a : Int), .int .i64 p], v] w (Ends mb (takeE q.K (a : Int) p vs) (fun _ w' => Chk2 w' cb mb cc bv pv sb c q) w) := by
  have HQ := Lib.hid hq
  obtain ⟨A, cv, rfl, hv1, hv2, hv3⟩ := hv
  unfold maxLen at hv2
  have HV := Lib.hid hv3
  have HII := Lib.hid hI
  clear hv3 hI hq
  go_enter Try.func59, Try.ntmps59
  go_upto_region 1 with (fail)
  obtain ⟨W, hW⟩ : ∃ W, w.alloc (.cells #[.int .i64 (a : Int), .int .i64 p] 56) = W := ⟨_, rfl⟩
  rw [hW]
  have hbW : Below w.heap.size w W := by rw [← hW]; exact (Below.refl _ _).alloc (Nat.le_refl _) _
  have hsW : Str W w.heap.size 56 [.int .i64 (a : Int), .int .i64 p] := by rw [← hW]; exact World.alloc_heap_new w _
  have HBW := Lib.hid hbW
  have HSW := Lib.hid hsW
  clear hW hbW hsW
  go_wp2_with fail
  go_loopw [7, 10] (fun _ i wr => ∃ k : Nat, k ≤ vs.length ∧ i = .int .i64 k ∧ (vs.take k).all (fun v => q.K v a p) = true ∧ Below W.heap.size W wr) (fun _ i _ => vs.length - (intOf i).toNat)
  case atStart => exact ⟨0, by omega, rfl, by simp, Below.refl _ _⟩
  case round =>
    obtain ⟨k, hk, rfl, hall, hb⟩ := hrel
    obtain ⟨wo, rfl⟩ : ∃ wo : World, wo = wr := ⟨_, rfl⟩
    have HB := Lib.hid hb
    have HBwo := Lib.hid (HBW.out.trans (hb.mono HBW.out.size))
    have HALL := Lib.hid hall
    clear hb hall
    by_cases hlt : k < vs.length
    · obtain ⟨ad, rfl, hx0⟩ := HV.out k hlt
      have hx := cell_keep HBwo.out (Nat.le_refl _) hx0
      have d0 : wo.cell? ⟨w.heap.size, 0, none⟩ = some (.int .i64 (a : Int)) := (HSW.out.below HB.out).cell 0
      have d1 : wo.cell? ⟨w.heap.size, 1, none⟩ = some (.int .i64 p) := (HSW.out.below HB.out).cell 1
      have HTS := Lib.hid (all_take_succ hlt HALL.out)
      have HOT := Lib.hid (fun h => @all_of_take vs (fun v => q.K v a p) (k + 1) h)
      have hxi := HII.out _ (List.getElem_mem hlt)
      generalize vs[k] = x at *
      clear hx0
      have HQo := Lib.hid (HQ.out.below (HBwo.out.drew))
      cases hkx : q.K x a p with
      | false =>
        have HE := Lib.hid (HOT.out (by rw [HTS.out]; exact hkx))
        have HKX := Lib.hid hkx
        clear hkx
        go_wp2_with fail
        refine region_heldC_wp (fun w' => w'.cell? ⟨w.heap.size, 0, none⟩ = some (.int .i64 (a : Int)) ∧ w'.cell? ⟨w.heap.size, 1, none⟩ = some (.int .i64 p)) [0, 1, 2, 4, 5] [0, 1, 2, 5, 3, 4, 6] (by kernel_rfl) (by kernel_rfl) (by kernel_rfl) rfl (by intro c a d v w h; cases d <;> exact h) ⟨d0, d1⟩ ?_
        refine walkC_still _ ?s0 rfl rfl rfl ?sy0 ?_
        case sy0 => intro w hS; go_simp; first | done | with_reducible rfl
        simp only [Act.put]
        refine walkC_still _ ?s1 rfl rfl rfl ?sy1 ?_
        case sy1 => intro w hS; go_simp; first | done | with_reducible rfl
        simp only [Act.put]
        refine walkC_still _ ?s2 rfl rfl rfl ?sy2 ?_
        case sy2 => intro w hS; go_simp; first | done | with_reducible rfl
        simp only [Act.put]
        refine walkC_still _ ?s5 rfl rfl rfl ?sy5 ?_
        case sy5 => intro w hS; go_simp; first | done | with_reducible rfl
        simp only [Act.put]
        try simp only [List.setIfInBounds_toArray, List.set_cons_zero, List.set_cons_succ]
        refine walkC_does _ rfl rfl ?_
        go_wp2_with fail
        refine (HQo.out.knows hxi ha p).mono ?_
        rintro e w3 ⟨rfl, hb⟩
        rw [HKX.out]
        have hb3 : Below wo.heap.size wo w3 := (Below.refl _ _).drew.trans hb
        go_wp2
        refine behindC ⟨cell_keep hb3 (Nat.le_refl _) d0, cell_keep hb3 (Nat.le_refl _) d1⟩ ?_
        refine walkC_still _ ?s4 rfl rfl rfl ?sy4 ?_
        case sy4 => intro w hS; go_simp; first | done | with_reducible rfl
        simp only [Act.put]
        try simp only [List.setIfInBounds_toArray, List.set_cons_zero, List.set_cons_succ]
        refine walkC_does _ rfl rfl ?_
        go_wp2_with fail
        refine (deny_y _ 13 (a : Int) p (by rfl)).mono ?_
        rintro e w' ⟨rfl, hb'⟩
        refine ⟨rfl, ?_⟩
        show Ends mb (takeE q.K (a : Int) p vs) _ w (.panicked _) w'
        rw [show takeE q.K (a : Int) p vs = .error (13, (a : Int), p) from if_neg (by rw [Int.toNat_natCast, HE.out]; exact Bool.false_ne_true)]
        exact ⟨rfl, But.of_below ((HBwo.out.trans (hb3.mono HBwo.out.size)).trans (hb'.mono (Nat.le_trans HBwo.out.size hb3.size)))⟩
      | true =>
        have HO := Lib.hid (show (vs.take (k + 1)).all (fun v => q.K v a p) = true by rw [HTS.out]; exact hkx)
        have HKX := Lib.hid hkx
        clear hkx
        go_wp2_with fail
        refine region_heldC_wp (fun w' => w'.cell? ⟨w.heap.size, 0, none⟩ = some (.int .i64 (a : Int)) ∧ w'.cell? ⟨w.heap.size, 1, none⟩ = some (.int .i64 p)) [0, 1, 2, 4, 5] [0, 1, 2, 5, 3, 4, 6] (by kernel_rfl) (by kernel_rfl) (by kernel_rfl) rfl (by intro c a d v w h; cases d <;> exact h) ⟨d0, d1⟩ ?_
        refine walkC_still _ ?t0 rfl rfl rfl ?ty0 ?_
        case ty0 => intro w hS; go_simp; first | done | with_reducible rfl
        simp only [Act.put]
        refine walkC_still _ ?t1 rfl rfl rfl ?ty1 ?_
        case ty1 => intro w hS; go_simp; first | done | with_reducible rfl
        simp only [Act.put]
        refine walkC_still _ ?t2 rfl rfl rfl ?ty2 ?_
        case ty2 => intro w hS; go_simp; first | done | with_reducible rfl
        simp only [Act.put]
        refine walkC_still _ ?t5 rfl rfl rfl ?ty5 ?_
        case ty5 => intro w hS; go_simp; first | done | with_reducible rfl
        simp only [Act.put]
        try simp only [List.setIfInBounds_toArray, List.set_cons_zero, List.set_cons_succ]
        refine walkC_does _ rfl rfl ?_
        go_wp2_with fail
        refine (HQo.out.knows hxi ha p).mono ?_
        rintro e w3 ⟨rfl, hb⟩
        rw [HKX.out]
        have hb3 : Below wo.heap.size wo w3 := (Below.refl _ _).drew.trans hb
        go_wp2
        refine behindC ⟨cell_keep hb3 (Nat.le_refl _) d0, cell_keep hb3 (Nat.le_refl _) d1⟩ ?_
        refine walkC_still _ ?t4 rfl rfl rfl ?ty4 ?_
        case ty4 => intro w hS; go_simp; first | done | with_reducible rfl
        simp only [Act.put]
        try simp only [List.setIfInBounds_toArray, List.set_cons_zero, List.set_cons_succ]
        refine walkC_does _ rfl rfl ?_
        go_wp2_with fail
        refine (deny_n _ 13 (a : Int) p (by rfl)).mono ?_
        rintro e w' ⟨rfl, hb'⟩
        have hbo : Below wo.heap.size wo w' := hb3.trans (hb'.mono hb3.size)
        have HB6 := Lib.hid (HB.out.trans (hbo.mono HB.out.size))
        clear hb hb'
        go_wp2
        refine behindC ⟨cell_keep hbo (Nat.le_refl _) d0, cell_keep hbo (Nat.le_refl _) d1⟩ (walkC_nil ?_)
        clear hbo hb3
        go_wp2
        go_roundw
        case rel => exact ⟨k + 1, by omega, by go_num, HO.out, HB6.out⟩
        case measure => simp [intOf]; omega
    · obtain rfl : k = vs.length := by omega
      rw [List.take_length] at HALL
      go_wp2
      go_end0
      show Ends mb (takeE q.K (a : Int) p vs) _ w (.returned _) wo
      rw [show takeE q.K (a : Int) p vs = .ok () from if_pos (by rw [Int.toNat_natCast]; exact HALL.out)]
      exact ⟨rfl, But.of_below HBwo.out, HQ.out.below HBwo.out⟩
set_option maxRecDepth 100000 in
set_option maxHeartbeats 4000000 in
theorem insTakes_any (w : World) (cb mb cc : Nat) (bv pv : Value) (sb c : Nat) (q : Known) (a : Nat) (p : Int) (vs : List Int) (op dst two imm : Int) (A : Option Addr) (n cA : Nat) (hq : Chk2 w cb mb cc bv pv sb c q) (hv : Ints w (.slice A n cA) vs) (hI : ∀ x ∈ vs, InI x) (ha : a < q.n) :
    Calls Try.prog 27 #[.pointer (some ⟨cb, 0, none⟩), .agg #[.int .i64 (a : Int), .int .i64 p], .agg #[.int .i64 op, .int .i64 dst, .int .i64 two, .slice A n cA, .int .i32 imm]] w (Ends mb (takeE q.K (a : Int) p vs) (fun _ w' => Chk2 w' cb mb cc bv pv sb c q) w) := by
  have HQ := Lib.hid hq
  have HV := Lib.hid hv
  have HII := Lib.hid hI
  clear hv hI hq
  go_enter Try.func27, Try.ntmps27
  go_upto_region 1 with (fail)
  obtain ⟨W, hW⟩ : ∃ W, w.alloc (.cells #[.int .i64 (a : Int), .int .i64 p] 56) = W := ⟨_, rfl⟩
  rw [hW]
  have hbW : Below w.heap.size w W := by rw [← hW]; exact (Below.refl _ _).alloc (Nat.le_refl _) _
  have hsW : Str W w.heap.size 56 [.int .i64 (a : Int), .int .i64 p] := by rw [← hW]; exact World.alloc_heap_new w _
  have hz1 : W.heap.size = w.heap.size + 1 := by rw [← hW]; simp
  clear hW
  obtain ⟨W2, hW2⟩ : ∃ W2, W.alloc (.cells #[.int .i64 op, .int .i64 dst, .int .i64 two, .slice A n cA, .int .i32 imm] 36) = W2 := ⟨_, rfl⟩
  rw [hW2]
  have hbW2 : Below W.heap.size W W2 := by rw [← hW2]; exact (Below.refl _ _).alloc (Nat.le_refl _) _
  have hsW2 : Str W2 W.heap.size 36 [.int .i64 op, .int .i64 dst, .int .i64 two, .slice A n cA, .int .i32 imm] := by rw [← hW2]; exact World.alloc_heap_new W _
  clear hW2
  have d0 : W2.cell? ⟨w.heap.size, 0, none⟩ = some (.int .i64 (a : Int)) := (hsW.below hbW2).cell 0
  have d1 : W2.cell? ⟨w.heap.size, 1, none⟩ = some (.int .i64 p) := (hsW.below hbW2).cell 1
  rw [hz1] at hsW2
  have e1 : W2.cell? ⟨w.heap.size + 1, 3, none⟩ = some (.slice A n cA) := hsW2.cell 3
  have HB := Lib.hid (hbW.trans (hbW2.mono hbW.size))
  clear hbW hsW hbW2 hsW2 hz1
  go_wp2_with fail
  refine (take_any W2 cb mb cc bv pv sb c q a p vs _ (HQ.out.below HB.out) (HV.out.keep HB.out) HII.out ha).mono ?_
  rintro e w' he
  have HE := Lib.hid (he.imp (J := fun _ w' => Chk2 w' cb mb cc bv pv sb c q) (But.of_below HB.out) (fun s hbt hs => hs))
  cases hR : takeE q.K (a : Int) p vs with
  | error x =>
    rw [hR] at he
    obtain ⟨rfl, _⟩ := he
    exact ⟨rfl, HE.out⟩
  | ok g =>
    rw [hR] at he
    obtain ⟨rfl, _⟩ := he
    clear hR
    go_wp2
    go_end0
    exact HE.out
set_option maxRecDepth 100000 in
set_option maxHeartbeats 4000000 in
theorem termTakes_any (w : World) (cb mb cc : Nat) (bv pv : Value) (sb c : Nat) (q : Known) (a : Nat) (p : Int) (vs : List Int) (kind imm : Int) (A : Option Addr) (n cA : Nat) (T : Option Addr) (nt cT : Nat) (hq : Chk2 w cb mb cc bv pv sb c q) (hv : Ints w (.slice A n cA) vs) (hI : ∀ x ∈ vs, InI x) (ha : a < q.n) :
    Calls Try.prog 28 #[.pointer (some ⟨cb, 0, none⟩), .agg #[.int .i64 (a : Int), .int .i64 p], .agg #[.int .i64 kind, .slice A n cA, .slice T nt cT, .int .i32 imm]] w (Ends mb (takeE q.K (a : Int) p vs) (fun _ w' => Chk2 w' cb mb cc bv pv sb c q) w) := by
  have HQ := Lib.hid hq
  have HV := Lib.hid hv
  have HII := Lib.hid hI
  clear hv hI hq
  go_enter Try.func28, Try.ntmps28
  go_upto_region 1 with (fail)
  obtain ⟨W, hW⟩ : ∃ W, w.alloc (.cells #[.int .i64 (a : Int), .int .i64 p] 56) = W := ⟨_, rfl⟩
  rw [hW]
  have hbW : Below w.heap.size w W := by rw [← hW]; exact (Below.refl _ _).alloc (Nat.le_refl _) _
  have hsW : Str W w.heap.size 56 [.int .i64 (a : Int), .int .i64 p] := by rw [← hW]; exact World.alloc_heap_new w _
  have hz1 : W.heap.size = w.heap.size + 1 := by rw [← hW]; simp
  clear hW
  obtain ⟨W2, hW2⟩ : ∃ W2, W.alloc (.cells #[.int .i64 kind, .slice A n cA, .slice T nt cT, .int .i32 imm] 30) = W2 := ⟨_, rfl⟩
  rw [hW2]
  have hbW2 : Below W.heap.size W W2 := by rw [← hW2]; exact (Below.refl _ _).alloc (Nat.le_refl _) _
  have hsW2 : Str W2 W.heap.size 30 [.int .i64 kind, .slice A n cA, .slice T nt cT, .int .i32 imm] := by rw [← hW2]; exact World.alloc_heap_new W _
  clear hW2
  have d0 : W2.cell? ⟨w.heap.size, 0, none⟩ = some (.int .i64 (a : Int)) := (hsW.below hbW2).cell 0
  have d1 : W2.cell? ⟨w.heap.size, 1, none⟩ = some (.int .i64 p) := (hsW.below hbW2).cell 1
  rw [hz1] at hsW2
  have e1 : W2.cell? ⟨w.heap.size + 1, 1, none⟩ = some (.slice A n cA) := hsW2.cell 1
  have HB := Lib.hid (hbW.trans (hbW2.mono hbW.size))
  clear hbW hsW hbW2 hsW2 hz1
  go_wp2_with fail
  refine (take_any W2 cb mb cc bv pv sb c q a p vs _ (HQ.out.below HB.out) (HV.out.keep HB.out) HII.out ha).mono ?_
  rintro e w' he
  have HE := Lib.hid (he.imp (J := fun _ w' => Chk2 w' cb mb cc bv pv sb c q) (But.of_below HB.out) (fun s hbt hs => hs))
  cases hR : takeE q.K (a : Int) p vs with
  | error x =>
    rw [hR] at he
    obtain ⟨rfl, _⟩ := he
    exact ⟨rfl, HE.out⟩
  | ok g =>
    rw [hR] at he
    obtain ⟨rfl, _⟩ := he
    clear hR
    go_wp2
    go_end0
    exact HE.out
end Go.Proofs.Ytdfehpcbcgbidaa.Kc
/- Stage 3: a phi's In are one for each predecessor: slices.EqualFunc over them. -/
namespace Go.Proofs.Ytdfehpcbcgbidaa.Kc
open Go.ChangeShapes Go.WideShapes Go.ChangeAt Go.RowKit Go.Maps Go.Proofs.Ytdfehpcbcgbidaa.Mem Go.Proofs.Ytdfehpcbcgbidaa.Br
set_option linter.unusedVariables false
theorem from_any (w : World) (x y b : Int) : Calls Try.prog 56 #[.agg #[.int .i64 x, .int .i64 y], .int .i64 b] w (Says (x == b) w) := by
  have HB := Lib.hid ((Below.refl w.heap.size w).alloc (Nat.le_refl _) (.cells #[.int .i64 x, .int .i64 y] 72))
  go_enter Try.func56, Try.ntmps56
  go_wp2
  go_ret
  exact ⟨rfl, HB.out⟩
def sameFrom (ins : List (Int × Int)) (row : List Int) : Bool := decide (ins.map (·.1) = row)
theorem sameFrom_len {ins : List (Int × Int)} {row : List Int} (h : ins.length ≠ row.length) : sameFrom ins row = false := decide_eq_false (fun e => h (by rw [← e, List.length_map]))
set_option maxRecDepth 100000 in
set_option maxHeartbeats 4000000 in
theorem eqf_any (w : World) (va vb : Value) (ins : List (Int × Int)) (row : List Int) (ha : RowAt w 2 InAt va ins) (hb : Ints w vb row) :
    Calls Try.prog 57 #[va, vb, .func (.func 56) #[] #[]] w (Says (sameFrom ins row) w) := by
  obtain ⟨A, c, b, o, rfl, h1, h2, h3, h4⟩ := ha
  obtain ⟨B, c', rfl, g1, g2, g3⟩ := hb
  unfold maxLen at h2 g2
  by_cases hl : ins.length = row.length
  · have HA3 := Lib.hid h3
    have HA := Lib.hid h4
    have HB := Lib.hid g3
    have hlb : ((ins.length : Int) != (row.length : Int)) = false := by rw [hl]; simp
    have HL := Lib.hid hl
    clear h3 h4 g3 hl
    go_enter Try.func57, Try.ntmps57
    go_wp2_with fail
    go_loopw [7, 9, 17] (fun _ _ i wr => ∃ k : Nat, k ≤ ins.length ∧ i = .int .i64 k ∧ (ins.take k).map (·.1) = row.take k ∧ Below w.heap.size w wr) (fun _ _ i _ => ins.length - (intOf i).toNat)
    case atStart => exact ⟨0, by omega, rfl, by simp, Below.refl _ _⟩
    case round =>
      obtain ⟨k, hk, rfl, hpre, hb⟩ := hrel
      obtain ⟨wo, rfl⟩ : ∃ wo : World, wo = wr := ⟨_, rfl⟩
      have HBB := Lib.hid hb
      have HPRE := Lib.hid hpre
      clear hpre
      by_cases hlt : k < ins.length
      · have hrl : k < row.length := by have := HL.out; omega
        obtain rfl := HA3.out (by omega)
        obtain ⟨ad, rfl, hy⟩ := HB.out k hrl
        obtain ⟨x0, x1⟩ := HA.out k hlt
        have x0 := cell_keep hb (Nat.le_refl _) x0
        have x1 := cell_keep hb (Nat.le_refl _) x1
        have hy := cell_keep hb (Nat.le_refl _) hy
        have HT := Lib.hid (show (ins.take (k + 1)).map (·.1) = (ins.take k).map (·.1) ++ [ins[k].1] by rw [List.take_succ_eq_append_getElem hlt, List.map_append]; rfl)
        have HR := Lib.hid (show row.take (k + 1) = row.take k ++ [row[k]] from List.take_succ_eq_append_getElem hrl)
        have HNE := Lib.hid (show ins[k].1 ≠ row[k] → sameFrom ins row = false from fun hne => decide_eq_false (fun e => hne (by
          have h9 : (ins.map (·.1))[k]? = row[k]? := by rw [e]
          rw [List.getElem?_map, List.getElem?_eq_getElem hlt, List.getElem?_eq_getElem hrl] at h9
          exact Option.some.inj h9)))
        generalize ins[k] = pr at *
        generalize row[k] = y at *
        obtain ⟨pf, pv⟩ := pr
        simp only at x0 x1 HT HNE
        have hbV : Below wo.heap.size wo (wo.alloc (.cells #[.int .i64 pf, .int .i64 pv] 72)) := (Below.refl _ _).alloc (Nat.le_refl _) _
        have hy' := cell_keep hbV (Nat.le_refl _) hy
        have HBV := Lib.hid (HBB.out.trans (hbV.mono HBB.out.size))
        clear hbV hb
        cases hxy : (pf == y) with
        | false =>
          have HF := Lib.hid (HNE.out (beq_eq_false_iff_ne.1 hxy))
          have HXY := Lib.hid hxy
          clear hxy
          go_wp2_with fail
          refine (from_any _ pf pv y).mono ?_
          rintro e w3 ⟨rfl, hb3⟩
          rw [HXY.out]
          have HB3 := Lib.hid (HBV.out.trans (hb3.mono HBV.out.size))
          clear hb3
          go_wp2
          go_ret
          exact ⟨by rw [HF.out]; rfl, HB3.out⟩
        | true =>
          have HF := Lib.hid (show (ins.take (k + 1)).map (·.1) = row.take (k + 1) by rw [HT.out, HR.out, HPRE.out, beq_iff_eq.1 hxy])
          have HXY := Lib.hid hxy
          clear hxy
          go_wp2_with fail
          refine (from_any _ pf pv y).mono ?_
          rintro e w3 ⟨rfl, hb3⟩
          rw [HXY.out]
          have HB3 := Lib.hid (HBV.out.trans (hb3.mono HBV.out.size))
          clear hb3
          go_wp2
          go_roundw
          case rel => exact ⟨k + 1, by omega, by go_num, HF.out, HB3.out⟩
          case measure => simp [intOf]; omega
      · obtain rfl : k = ins.length := by omega
        have HF := Lib.hid (show sameFrom ins row = true from decide_eq_true (by have h9 := HPRE.out; rw [List.take_length, HL.out, List.take_length] at h9; exact h9))
        clear hb
        go_wp2
        go_ret
        exact ⟨by rw [HF.out]; rfl, HBB.out⟩
  · have HF := Lib.hid (sameFrom_len hl)
    have hlb : ((ins.length : Int) != (row.length : Int)) = true := by rw [bne_iff_ne]; omega
    clear h3 h4 g3 hl
    go_enter Try.func57, Try.ntmps57
    go_wp2
    go_ret
    exact ⟨by rw [HF.out]; rfl, Below.refl _ _⟩
end Go.Proofs.Ytdfehpcbcgbidaa.Kc
/- Stage 3: a phi is held against where control comes from: check's phiTakes. -/
namespace Go.Proofs.Ytdfehpcbcgbidaa.Kc
open Go.ChangeShapes Go.WideShapes Go.ChangeAt Go.RowKit Go.Maps Go.Proofs.Ytdfehpcbcgbidaa.Mem Go.Proofs.Ytdfehpcbcgbidaa.Br
set_option linter.unusedVariables false
/-- What is asked of a phi in the end. -/
def phi2E (bs : List PBlock) (q : Known) (a : Nat) (p : Int) (ins : List (Int × Int)) : Except Fault Unit :=
  if (a : Int) = 0 ∨ ins.map (·.1) ≠ q.preds.getD a [] then .error (16, (a : Int), p) else if ins.all fun i => q.K i.2 i.1.toNat (insOf bs i.1) then .ok () else .error (13, (a : Int), p)
theorem allP_take_succ {α : Type} {vs : List α} {q : α → Bool} {k : Nat} (hk : k < vs.length) (h : (vs.take k).all q = true) : (vs.take (k + 1)).all q = q vs[k] := by
  rw [List.take_succ_eq_append_getElem hk, List.all_append, h]; simp
theorem allP_of_take {α : Type} {vs : List α} {q : α → Bool} {k : Nat} (h : (vs.take k).all q = false) : vs.all q = false := by
  obtain ⟨x, hx, hq⟩ := List.all_eq_false.1 h
  exact List.all_eq_false.2 ⟨x, List.mem_of_mem_take hx, hq⟩
set_option maxRecDepth 100000 in
set_option maxHeartbeats 4000000 in
theorem phiTakes_any (w : World) (cb mb cc : Nat) (bv pv : Value) (sb c : Nat) (q : Known) (bs : List PBlock) (a : Nat) (p dst : Int) (A : Option Addr) (cI : Nat) (ins : List (Int × Int)) (hq : Chk2 w cb mb cc bv pv sb c q) (hbs : BlocksAt w bv bs)
    (hi : RowAt w 2 InAt (.slice A ins.length cI) ins) (hI : ∀ x ∈ ins, InI x.2) (ha : a < q.n) (hn : q.n = bs.length) (hp : q.preds.length = bs.length) (hpr : ∀ x ∈ q.preds.getD a [], 0 ≤ x ∧ x < bs.length) :
    Calls Try.prog 26 #[.pointer (some ⟨cb, 0, none⟩), .agg #[.int .i64 (a : Int), .int .i64 p], .agg #[.int .i64 dst, .slice A ins.length cI]] w
      (Ends mb (phi2E bs q a p ins) (fun _ w' => Chk2 w' cb mb cc bv pv sb c q) w) := by
  obtain ⟨P, cP, rfl, p1, p2, p3⟩ := hq.pred
  obtain ⟨ad, uP, rfl, hPc, hPi⟩ := p3 a (by omega)
  have hPd : q.preds.getD a [] = q.preds[a]'(by omega) := by rw [List.getD_eq_getElem?_getD, List.getElem?_eq_getElem (by omega : a < q.preds.length)]; rfl
  rw [← hPd] at hPi
  unfold maxLen at p2
  have HQ := Lib.hid hq
  have HBS := Lib.hid hbs
  have HIN := Lib.hid hi
  have HII := Lib.hid hI
  have HPI := Lib.hid hPi
  have HPR := Lib.hid hpr
  have HPC := Lib.hid hPc
  have HNB := Lib.hid hn
  have HPB := Lib.hid hp
  have hal : a < q.preds.length := by omega
  clear hn hp hq hbs hi hI hPi hpr p3 hPd
  go_enter Try.func26, Try.ntmps26
  go_upto_region 1 with (fail)
  obtain ⟨W, hW⟩ : ∃ W, w.alloc (.cells #[.int .i64 (a : Int), .int .i64 p] 56) = W := ⟨_, rfl⟩
  rw [hW]
  have hbW : Below w.heap.size w W := by rw [← hW]; exact (Below.refl _ _).alloc (Nat.le_refl _) _
  have hsW : Str W w.heap.size 56 [.int .i64 (a : Int), .int .i64 p] := by rw [← hW]; exact World.alloc_heap_new w _
  have hz1 : W.heap.size = w.heap.size + 1 := by rw [← hW]; simp
  clear hW
  obtain ⟨W2, hW2⟩ : ∃ W2, W.alloc (.cells #[.int .i64 dst, .slice A ins.length cI] 54) = W2 := ⟨_, rfl⟩
  rw [hW2]
  have hbW2 : Below W.heap.size W W2 := by rw [← hW2]; exact (Below.refl _ _).alloc (Nat.le_refl _) _
  have hsW2 : Str W2 W.heap.size 54 [.int .i64 dst, .slice A ins.length cI] := by rw [← hW2]; exact World.alloc_heap_new W _
  clear hW2
  have d0 : W2.cell? ⟨w.heap.size, 0, none⟩ = some (.int .i64 (a : Int)) := (hsW.below hbW2).cell 0
  have d1 : W2.cell? ⟨w.heap.size, 1, none⟩ = some (.int .i64 p) := (hsW.below hbW2).cell 1
  rw [hz1] at hsW2
  have e0 : W2.cell? ⟨w.heap.size + 1, 0, none⟩ = some (.int .i64 dst) := hsW2.cell 0
  have e1 : W2.cell? ⟨w.heap.size + 1, 1, none⟩ = some (.slice A ins.length cI) := hsW2.cell 1
  have hB := hbW.trans (hbW2.mono hbW.size)
  have HB := Lib.hid hB
  have m3 := cell_keep hB (Nat.le_refl _) HQ.out.c3
  have m4 := cell_keep hB (Nat.le_refl _) HPC.out
  have hz := hB.size
  clear hbW hsW hbW2 hsW2 hz1 hB
  by_cases ha0 : a = 0
  · have hab : ((a : Int) == 0) = true := beq_iff_eq.2 (by omega)
    have HE := Lib.hid (show phi2E bs q a p ins = .error (16, (a : Int), p) from if_pos (Or.inl (by omega)))
    clear ha0
    go_wp2_with fail
    refine region_heldC_wp (fun w' => w'.cell? ⟨w.heap.size, 0, none⟩ = some (.int .i64 (a : Int)) ∧ w'.cell? ⟨w.heap.size, 1, none⟩ = some (.int .i64 p) ∧ w'.cell? ⟨w.heap.size + 1, 0, none⟩ = some (.int .i64 dst) ∧ w'.cell? ⟨w.heap.size + 1, 1, none⟩ = some (.slice A ins.length cI) ∧ w'.cell? ⟨cb, 3, none⟩ = some (.slice (some ad) q.preds.length cP) ∧ w'.cell? (ad.add a) = some uP) [0, 1, 2, 3, 4, 5, 6, 7, 8, 9, 10, 11, 12, 13, 14, 15, 16, 17, 18] [0, 1, 2, 3, 4, 5, 6, 7, 8, 9, 10, 11, 12, 13, 14, 18, 15, 16, 17, 19] (by kernel_rfl) (by kernel_rfl) (by kernel_rfl) rfl (by intro c a d v w h; cases d <;> exact h) ⟨d0, d1, e0, e1, m3, m4⟩ ?_
    refine walkC_still _ ?s0 rfl rfl rfl ?sy0 ?_
    case sy0 => intro w hS; go_simp; first | done | with_reducible rfl
    simp only [Act.put]
    refine walkC_still _ ?s1 rfl rfl rfl ?sy1 ?_
    case sy1 => intro w hS; go_simp; first | done | with_reducible rfl
    simp only [Act.put]
    refine walkC_still _ ?s2 rfl rfl rfl ?sy2 ?_
    case sy2 => intro w hS; go_simp; first | done | with_reducible rfl
    simp only [Act.put]
    refine walkC_still _ ?s3 rfl rfl rfl ?sy3 ?_
    case sy3 => intro w hS; go_simp; first | done | with_reducible rfl
    simp only [Act.put]
    refine walkC_skip _ rfl rfl (by kernel_rfl) ?_
    simp only [Act.put]
    refine walkC_skip _ rfl rfl (by kernel_rfl) ?_
    simp only [Act.put]
    refine walkC_skip _ rfl rfl (by kernel_rfl) ?_
    simp only [Act.put]
    refine walkC_skip _ rfl rfl (by kernel_rfl) ?_
    simp only [Act.put]
    refine walkC_skip _ rfl rfl (by kernel_rfl) ?_
    simp only [Act.put]
    refine walkC_skip _ rfl rfl (by kernel_rfl) ?_
    simp only [Act.put]
    refine walkC_skip _ rfl rfl (by kernel_rfl) ?_
    simp only [Act.put]
    refine walkC_skip _ rfl rfl (by kernel_rfl) ?_
    simp only [Act.put]
    refine walkC_skip _ rfl rfl (by kernel_rfl) ?_
    simp only [Act.put]
    refine walkC_skip _ rfl rfl (by kernel_rfl) ?_
    simp only [Act.put]
    refine walkC_skip _ rfl rfl (by kernel_rfl) ?_
    simp only [Act.put]
    refine walkC_still _ ?s18 rfl rfl rfl ?sy18 ?_
    case sy18 => intro w hS; go_simp; first | done | with_reducible rfl
    simp only [Act.put]
    refine walkC_skip _ rfl rfl (by kernel_rfl) ?_
    simp only [Act.put]
    refine walkC_skip _ rfl rfl (by kernel_rfl) ?_
    simp only [Act.put]
    refine walkC_still _ ?s17 rfl rfl rfl ?sy17 ?_
    case sy17 => intro w hS; go_simp; first | done | with_reducible rfl
    simp only [Act.put]
    try simp only [List.setIfInBounds_toArray, List.set_cons_zero, List.set_cons_succ]
    refine walkC_does _ rfl rfl ?_
    go_wp2_with fail
    refine (deny_y _ 16 (a : Int) p (by rfl)).mono ?_
    rintro e w' ⟨rfl, hb⟩
    refine ⟨rfl, ?_⟩
    show Ends mb (phi2E bs q a p ins) _ w (.panicked _) w'
    rw [HE.out]
    exact ⟨rfl, But.of_below (HB.out.drew.trans (hb.mono hz))⟩
  · have hab : ((a : Int) == 0) = false := beq_eq_false_iff_ne.2 (by omega)
    have HA0 := Lib.hid ha0
    clear ha0
    cases hsf : sameFrom ins (q.preds.getD a []) with
    | false =>
      have HSF := Lib.hid hsf
      have HE := Lib.hid (show phi2E bs q a p ins = .error (16, (a : Int), p) from if_pos (Or.inr (of_decide_eq_false hsf)))
      clear hsf
      go_wp2_with fail
      refine region_heldC_wp (fun w' => w'.cell? ⟨w.heap.size, 0, none⟩ = some (.int .i64 (a : Int)) ∧ w'.cell? ⟨w.heap.size, 1, none⟩ = some (.int .i64 p) ∧ w'.cell? ⟨w.heap.size + 1, 0, none⟩ = some (.int .i64 dst) ∧ w'.cell? ⟨w.heap.size + 1, 1, none⟩ = some (.slice A ins.length cI) ∧ w'.cell? ⟨cb, 3, none⟩ = some (.slice (some ad) q.preds.length cP) ∧ w'.cell? (ad.add a) = some uP) [0, 1, 2, 3, 4, 5, 6, 7, 8, 9, 10, 11, 12, 13, 14, 16, 17, 18] [0, 1, 2, 3, 4, 5, 6, 7, 8, 9, 10, 11, 12, 13, 14, 18, 15, 16, 17, 19] (by kernel_rfl) (by kernel_rfl) (by kernel_rfl) rfl (by intro c a d v w h; cases d <;> exact h) ⟨d0, d1, e0, e1, m3, m4⟩ ?_
      refine walkC_still _ ?t0 rfl rfl rfl ?ty0 ?_
      case ty0 => intro w hS; go_simp; first | done | with_reducible rfl
      simp only [Act.put]
      refine walkC_still _ ?t1 rfl rfl rfl ?ty1 ?_
      case ty1 => intro w hS; go_simp; first | done | with_reducible rfl
      simp only [Act.put]
      refine walkC_still _ ?t2 rfl rfl rfl ?ty2 ?_
      case ty2 => intro w hS; go_simp; first | done | with_reducible rfl
      simp only [Act.put]
      refine walkC_still _ ?t3 rfl rfl rfl ?ty3 ?_
      case ty3 => intro w hS; go_simp; first | done | with_reducible rfl
      simp only [Act.put]
      refine walkC_still _ ?t4 rfl rfl (by kernel_rfl) ?ty4 ?_
      case ty4 => intro w hS; go_simp; first | done | with_reducible rfl
      simp only [Act.put]
      refine walkC_still _ ?t5 rfl rfl (by kernel_rfl) ?ty5 ?_
      case ty5 => intro w hS; go_simp; first | done | with_reducible rfl
      simp only [Act.put]
      refine walkC_still _ ?t6 rfl rfl (by kernel_rfl) ?ty6 ?_
      case ty6 => intro w hS; go_simp; first | done | with_reducible rfl
      simp only [Act.put]
      refine walkC_still _ ?t7 rfl rfl (by kernel_rfl) ?ty7 ?_
      case ty7 => intro w hS; go_simp; first | done | with_reducible rfl
      simp only [Act.put]
      refine walkC_still _ ?t8 rfl rfl (by kernel_rfl) ?ty8 ?_
      case ty8 => intro w hS; go_simp; first | done | with_reducible rfl
      simp only [Act.put]
      refine walkC_still _ ?t9 rfl rfl (by kernel_rfl) ?ty9 ?_
      case ty9 => intro w hS; go_simp; first | done | with_reducible rfl
      simp only [Act.put]
      refine walkC_still _ ?t10 rfl rfl (by kernel_rfl) ?ty10 ?_
      case ty10 => intro w hS; go_simp; first | done | with_reducible rfl
      simp only [Act.put]
      refine walkC_still _ ?t11 rfl rfl (by kernel_rfl) ?ty11 ?_
      case ty11 => intro w hS; go_simp; first | done | with_reducible rfl
      simp only [Act.put]
      refine walkC_still _ ?t12 rfl rfl (by kernel_rfl) ?ty12 ?_
      case ty12 => intro w hS; go_simp; first | done | with_reducible rfl
      simp only [Act.put]
      refine walkC_still _ ?t13 rfl rfl (by kernel_rfl) ?ty13 ?_
      case ty13 => intro w hS; go_simp; first | done | with_reducible rfl
      simp only [Act.put]
      refine walkC_still _ ?t14 rfl rfl (by kernel_rfl) ?ty14 ?_
      case ty14 => intro w hS; go_simp; first | done | with_reducible rfl
      simp only [Act.put]
      refine walkC_still _ ?t18 rfl rfl rfl ?ty18 ?_
      case ty18 => intro w hS; go_simp; first | done | with_reducible rfl
      simp only [Act.put]
      try simp only [List.setIfInBounds_toArray, List.set_cons_zero, List.set_cons_succ]
      refine walkC_does _ rfl rfl ?_
      go_wp2_with fail
      refine (eqf_any _ _ _ ins (q.preds.getD a []) (RowAt.kept (HIN.out) (fun b o x h => InAt.keep (HB.out.drew) b o x h)) (HPI.out.keep (HB.out.drew))).mono ?_
      rintro e w3 ⟨rfl, hb⟩
      rw [HSF.out]
      have hb3 : Below W2.heap.size W2 w3 := (Below.refl _ _).drew.trans hb
      go_wp2
      refine behindC ⟨cell_keep hb3 (Nat.le_refl _) d0, cell_keep hb3 (Nat.le_refl _) d1, cell_keep hb3 (Nat.le_refl _) e0, cell_keep hb3 (Nat.le_refl _) e1, cell_keep hb3 (Nat.le_refl _) m3, cell_keep hb3 (Nat.le_refl _) m4⟩ ?_
      refine walkC_still _ ?t16 rfl rfl (by kernel_rfl) ?ty16 ?_
      case ty16 => intro w hS; go_simp; first | done | with_reducible rfl
      simp only [Act.put]
      refine walkC_still _ ?t17 rfl rfl rfl ?ty17 ?_
      case ty17 => intro w hS; go_simp; first | done | with_reducible rfl
      simp only [Act.put]
      try simp only [List.setIfInBounds_toArray, List.set_cons_zero, List.set_cons_succ]
      refine walkC_does _ rfl rfl ?_
      go_wp2_with fail
      refine (deny_y _ 16 (a : Int) p (by rfl)).mono ?_
      rintro e w' ⟨rfl, hb'⟩
      refine ⟨rfl, ?_⟩
      show Ends mb (phi2E bs q a p ins) _ w (.panicked _) w'
      rw [HE.out]
      exact ⟨rfl, But.of_below ((HB.out.trans (hb3.mono hz)).trans (hb'.mono (Nat.le_trans hz hb3.size)))⟩
    | true =>
      have HSF := Lib.hid hsf
      have HSE := Lib.hid (of_decide_eq_true hsf)
      clear hsf
      go_wp2_with fail
      refine region_heldC_wp (fun w' => w'.cell? ⟨w.heap.size, 0, none⟩ = some (.int .i64 (a : Int)) ∧ w'.cell? ⟨w.heap.size, 1, none⟩ = some (.int .i64 p) ∧ w'.cell? ⟨w.heap.size + 1, 0, none⟩ = some (.int .i64 dst) ∧ w'.cell? ⟨w.heap.size + 1, 1, none⟩ = some (.slice A ins.length cI) ∧ w'.cell? ⟨cb, 3, none⟩ = some (.slice (some ad) q.preds.length cP) ∧ w'.cell? (ad.add a) = some uP) [0, 1, 2, 3, 4, 5, 6, 7, 8, 9, 10, 11, 12, 13, 14, 16, 17, 18] [0, 1, 2, 3, 4, 5, 6, 7, 8, 9, 10, 11, 12, 13, 14, 18, 15, 16, 17, 19] (by kernel_rfl) (by kernel_rfl) (by kernel_rfl) rfl (by intro c a d v w h; cases d <;> exact h) ⟨d0, d1, e0, e1, m3, m4⟩ ?_
      refine walkC_still _ ?u0 rfl rfl rfl ?uy0 ?_
      case uy0 => intro w hS; go_simp; first | done | with_reducible rfl
      simp only [Act.put]
      refine walkC_still _ ?u1 rfl rfl rfl ?uy1 ?_
      case uy1 => intro w hS; go_simp; first | done | with_reducible rfl
      simp only [Act.put]
      refine walkC_still _ ?u2 rfl rfl rfl ?uy2 ?_
      case uy2 => intro w hS; go_simp; first | done | with_reducible rfl
      simp only [Act.put]
      refine walkC_still _ ?u3 rfl rfl rfl ?uy3 ?_
      case uy3 => intro w hS; go_simp; first | done | with_reducible rfl
      simp only [Act.put]
      refine walkC_still _ ?u4 rfl rfl (by kernel_rfl) ?uy4 ?_
      case uy4 => intro w hS; go_simp; first | done | with_reducible rfl
      simp only [Act.put]
      refine walkC_still _ ?u5 rfl rfl (by kernel_rfl) ?uy5 ?_
      case uy5 => intro w hS; go_simp; first | done | with_reducible rfl
      simp only [Act.put]
      refine walkC_still _ ?u6 rfl rfl (by kernel_rfl) ?uy6 ?_
      case uy6 => intro w hS; go_simp; first | done | with_reducible rfl
      simp only [Act.put]
      refine walkC_still _ ?u7 rfl rfl (by kernel_rfl) ?uy7 ?_
      case uy7 => intro w hS; go_simp; first | done | with_reducible rfl
      simp only [Act.put]
      refine walkC_still _ ?u8 rfl rfl (by kernel_rfl) ?uy8 ?_
      case uy8 => intro w hS; go_simp; first | done | with_reducible rfl
      simp only [Act.put]
      refine walkC_still _ ?u9 rfl rfl (by kernel_rfl) ?uy9 ?_
      case uy9 => intro w hS; go_simp; first | done | with_reducible rfl
      simp only [Act.put]
      refine walkC_still _ ?u10 rfl rfl (by kernel_rfl) ?uy10 ?_
      case uy10 => intro w hS; go_simp; first | done | with_reducible rfl
      simp only [Act.put]
      refine walkC_still _ ?u11 rfl rfl (by kernel_rfl) ?uy11 ?_
      case uy11 => intro w hS; go_simp; first | done | with_reducible rfl
      simp only [Act.put]
      refine walkC_still _ ?u12 rfl rfl (by kernel_rfl) ?uy12 ?_
      case uy12 => intro w hS; go_simp; first | done | with_reducible rfl
      simp only [Act.put]
      refine walkC_still _ ?u13 rfl rfl (by kernel_rfl) ?uy13 ?_
      case uy13 => intro w hS; go_simp; first | done | with_reducible rfl
      simp only [Act.put]
      refine walkC_still _ ?u14 rfl rfl (by kernel_rfl) ?uy14 ?_
      case uy14 => intro w hS; go_simp; first | done | with_reducible rfl
      simp only [Act.put]
      refine walkC_still _ ?u18 rfl rfl rfl ?uy18 ?_
      case uy18 => intro w hS; go_simp; first | done | with_reducible rfl
      simp only [Act.put]
      try simp only [List.setIfInBounds_toArray, List.set_cons_zero, List.set_cons_succ]
      refine walkC_does _ rfl rfl ?_
      go_wp2_with fail
      refine (eqf_any _ _ _ ins (q.preds.getD a []) (RowAt.kept (HIN.out) (fun b o x h => InAt.keep (HB.out.drew) b o x h)) (HPI.out.keep (HB.out.drew))).mono ?_
      rintro e w3 ⟨rfl, hb⟩
      rw [HSF.out]
      have hb3 : Below W2.heap.size W2 w3 := (Below.refl _ _).drew.trans hb
      go_wp2
      refine behindC ⟨cell_keep hb3 (Nat.le_refl _) d0, cell_keep hb3 (Nat.le_refl _) d1, cell_keep hb3 (Nat.le_refl _) e0, cell_keep hb3 (Nat.le_refl _) e1, cell_keep hb3 (Nat.le_refl _) m3, cell_keep hb3 (Nat.le_refl _) m4⟩ ?_
      refine walkC_still _ ?u16 rfl rfl (by kernel_rfl) ?uy16 ?_
      case uy16 => intro w hS; go_simp; first | done | with_reducible rfl
      simp only [Act.put]
      refine walkC_still _ ?u17 rfl rfl rfl ?uy17 ?_
      case uy17 => intro w hS; go_simp; first | done | with_reducible rfl
      simp only [Act.put]
      try simp only [List.setIfInBounds_toArray, List.set_cons_zero, List.set_cons_succ]
      refine walkC_does _ rfl rfl ?_
      go_wp2_with fail
      refine (deny_n _ 16 (a : Int) p (by rfl)).mono ?_
      rintro e w4 ⟨rfl, hb'⟩
      have hb4 : Below W2.heap.size W2 w4 := hb3.trans (hb'.mono hb3.size)
      have HB4 := Lib.hid (HB.out.trans (hb4.mono hz))
      have d0 := cell_keep hb4 (Nat.le_refl _) d0
      have d1 := cell_keep hb4 (Nat.le_refl _) d1
      have e0 := cell_keep hb4 (Nat.le_refl _) e0
      have e1 := cell_keep hb4 (Nat.le_refl _) e1
      have m3 := cell_keep hb4 (Nat.le_refl _) m3
      have m4 := cell_keep hb4 (Nat.le_refl _) m4
      clear hb hb' hb3 hb4
      go_wp2
      refine behindC ⟨d0, d1, e0, e1, m3, m4⟩ (walkC_nil ?_)
      clear e0 m3 m4
      go_wp2_with fail
      go_loopw [8, 9, 33] (fun _ _ i wr => ∃ k : Nat, k ≤ ins.length ∧ i = .int .i64 k ∧ (ins.take k).all (fun i => q.K i.2 i.1.toNat (insOf bs i.1)) = true ∧ Below w4.heap.size w4 wr) (fun _ _ i _ => ins.length - (intOf i).toNat)
      case atStart => exact ⟨0, by omega, rfl, by simp, Below.refl _ _⟩
      case round =>
        obtain ⟨k, hk, rfl, hall, hb⟩ := hrel
        obtain ⟨wo, rfl⟩ : ∃ wo : World, wo = wr := ⟨_, rfl⟩
        have HB5 := Lib.hid hb
        have HBwo := Lib.hid (HB4.out.trans (hb.mono HB4.out.size))
        have HALL := Lib.hid hall
        clear hall
        by_cases hlt : k < ins.length
        · obtain ⟨A', cI', bI, oI, e, i1, i2, i3, i4⟩ := RowAt.kept HIN.out (fun b o x h => InAt.keep HBwo.out b o x h)
          injection e with e1' _ e3'
          subst e1' e3'
          have e1' := i3 (by omega)
          subst e1'
          obtain ⟨x0, x1⟩ := i4 k hlt
          unfold maxLen at i2
          have HTS := Lib.hid (allP_take_succ hlt HALL.out)
          have HOT := Lib.hid (fun h => @allP_of_take _ ins (fun i => q.K i.2 i.1.toNat (insOf bs i.1)) (k + 1) h)
          have hxi := HII.out _ (List.getElem_mem hlt)
          have hfr : 0 ≤ ins[k].1 ∧ ins[k].1 < bs.length := HPR.out _ (by rw [← HSE.out]; exact List.mem_map_of_mem (List.getElem_mem hlt))
          generalize ins[k] = pr at *
          obtain ⟨pf, pv⟩ := pr
          simp only at x0 x1 HTS hxi hfr
          obtain ⟨fn, rfl⟩ : ∃ fn : Nat, pf = (fn : Int) := ⟨pf.toNat, by omega⟩
          have hfn : fn < bs.length := by omega
          obtain ⟨AB, cB, bB, oB, e, j1, j2, j3, j4⟩ := HBS.out.keep HBwo.out
          subst e
          have e2' := j3 (by omega)
          subst e2'
          obtain ⟨p0, c0, p1', c1, p3', c3, p4', c4, r0, r1, r2, r3, r4, r5⟩ := block_cells (j4 fn hfn)
          have HIO := Lib.hid (show insOf bs (fn : Int) = (bs[fn].ins.length : Int) by unfold insOf; rw [Int.toNat_natCast, List.getElem?_eq_getElem hfn]; rfl)
          unfold maxLen at j2
          generalize bs[fn].ins.length = nI at *
          have d0 := cell_keep hb (Nat.le_refl _) d0
          have d1 := cell_keep hb (Nat.le_refl _) d1
          have e1 := cell_keep hb (Nat.le_refl _) e1
          have b1 := (HQ.out.below HBwo.out).chk.c1
          have hbV : Below wo.heap.size wo (wo.alloc (.cells #[.int .i64 (fn : Int), .int .i64 pv] 72)) := (Below.refl _ _).alloc (Nat.le_refl _) _
          have hsV : Str (wo.alloc (.cells #[.int .i64 (fn : Int), .int .i64 pv] 72)) wo.heap.size 72 [.int .i64 (fn : Int), .int .i64 pv] := World.alloc_heap_new wo _
          have v0 := hsV.cell 0
          have v1 := hsV.cell 1
          have HBV := Lib.hid (HBwo.out.trans (hbV.mono HBwo.out.size))
          have HB5V := Lib.hid (HB5.out.trans (hbV.mono HB5.out.size))
          have d0 := cell_keep hbV (Nat.le_refl _) d0
          have d1 := cell_keep hbV (Nat.le_refl _) d1
          have b1 := cell_keep hbV (Nat.le_refl _) b1
          have r1 := cell_keep hbV (Nat.le_refl _) r1
          clear hb hbV hsV i3 i4 j3 j4 r0 r2 r3 r4 r5
          go_wp2_with fail
          obtain ⟨W6, hW6⟩ : ∃ W6, wo.alloc (.cells #[.int .i64 (fn : Int), .int .i64 pv] 72) = W6 := ⟨_, rfl⟩
          rw [hW6] at HBV HB5V d0 d1 b1 r1 v0 v1
          rw [hW6]
          clear hW6
          have hx6 := lt_of_cell v0
          simp only at hx6
          refine region_heldC_wp (fun w' => w'.cell? ⟨wo.heap.size, 0, none⟩ = some (.int .i64 (fn : Int)) ∧ w'.cell? ⟨cb, 1, none⟩ = some (.slice (some ⟨bB, oB, none⟩) bs.length cB) ∧ w'.cell? ⟨bB, oB + fn * 6 + 1, none⟩ = some (.slice p1' nI c1)) [0, 1, 2, 3, 4, 5, 6, 7, 8, 9, 10, 11, 12, 13] [0, 1, 2, 3, 4, 5, 6, 7, 8, 9, 10, 11, 12, 13, 14, 15] (by kernel_rfl) (by kernel_rfl) (by kernel_rfl) rfl (by intro c a d v w h; cases d <;> exact h) ⟨v0, b1, r1⟩ ?_
          refine walkC_still _ ?x0 rfl rfl rfl ?xy0 ?_
          case xy0 => intro w hS; go_simp; first | done | with_reducible rfl
          simp only [Act.put]
          refine walkC_still _ ?x1 rfl rfl rfl ?xy1 ?_
          case xy1 => intro w hS; go_simp; first | done | with_reducible rfl
          simp only [Act.put]
          refine walkC_still _ ?x2 rfl rfl rfl ?xy2 ?_
          case xy2 => intro w hS; go_simp; first | done | with_reducible rfl
          simp only [Act.put]
          refine walkC_still _ ?x3 rfl rfl rfl ?xy3 ?_
          case xy3 => intro w hS; go_simp; first | done | with_reducible rfl
          simp only [Act.put]
          refine walkC_still _ ?x4 rfl rfl rfl ?xy4 ?_
          case xy4 => intro w hS; go_simp; first | done | with_reducible rfl
          simp only [Act.put]
          refine walkC_still _ ?x5 rfl rfl rfl ?xy5 ?_
          case xy5 => intro w hS; go_simp; first | done | with_reducible rfl
          simp only [Act.put]
          refine walkC_still _ ?x6 rfl rfl rfl ?xy6 ?_
          case xy6 => intro w hS; go_simp; first | done | with_reducible rfl
          simp only [Act.put]
          refine walkC_still _ ?x7 rfl rfl rfl ?xy7 ?_
          case xy7 => intro w hS; go_simp; first | done | with_reducible rfl
          simp only [Act.put]
          refine walkC_still _ ?x8 rfl rfl rfl ?xy8 ?_
          case xy8 => intro w hS; go_simp; first | done | with_reducible rfl
          simp only [Act.put]
          refine walkC_still _ ?x9 rfl rfl rfl ?xy9 ?_
          case xy9 => intro w hS; go_simp; first | done | with_reducible rfl
          simp only [Act.put]
          refine walkC_still _ ?x10 rfl rfl rfl ?xy10 ?_
          case xy10 => intro w hS; go_simp; first | done | with_reducible rfl
          simp only [Act.put]
          refine walkC_still _ ?x11 rfl rfl rfl ?xy11 ?_
          case xy11 => intro w hS; go_simp; first | done | with_reducible rfl
          simp only [Act.put]
          refine walkC_still _ ?x12 rfl rfl rfl ?xy12 ?_
          case xy12 => intro w hS; go_simp; first | done | with_reducible rfl
          simp only [Act.put]
          refine walkC_still _ ?x13 rfl rfl rfl ?xy13 ?_
          case xy13 => intro w hS; go_simp; first | done | with_reducible rfl
          simp only [Act.put]
          try simp only [List.setIfInBounds_toArray, List.set_cons_zero, List.set_cons_succ]
          refine walkC_does _ rfl rfl ?_
          go_wp2
          obtain ⟨W7, hW7⟩ : ∃ W7, W6.drew.alloc (.cells #[.int .i64 0, .int .i64 0] 56) = W7 := ⟨_, rfl⟩
          have hb7 : Below W6.heap.size W6 W7 := by rw [← hW7]; exact (Below.refl _ _).drew.alloc (Nat.le_refl _) _
          have hs7 : Str W7 W6.heap.size 56 [.int .i64 0, .int .i64 0] := by rw [← hW7]; exact World.alloc_heap_new W6.drew _
          first | rw [hW7] | (change BehindC _ _ _ _ _ _ _ _ (W6.drew.alloc _); rw [hW7])
          clear hW7
          refine behindC ⟨cell_keep hb7 (Nat.le_refl _) v0, cell_keep hb7 (Nat.le_refl _) b1, cell_keep hb7 (Nat.le_refl _) r1⟩ ?_
          have s0 := hs7.cell 0
          have s1 := hs7.cell 1
          have sf0 := hs7.frozen 0
          have sf1 := hs7.frozen 1
          try simp only [List.setIfInBounds_toArray, List.set_cons_zero, List.set_cons_succ]
          refine walkC_does _ rfl rfl ?_
          go_wp2
          have hb8 := (hb7.setCell (p := ⟨W6.heap.size, 0, none⟩) (Nat.le_refl _) (.int .i64 (fn : Int))).setCell (p := ⟨W6.heap.size, 1, none⟩) (Nat.le_refl _) (.int .i64 nI)
          have hs8 := (hs7.set 0 (.int .i64 (fn : Int))).set 1 (.int .i64 nI)
          generalize (W7.setCell ⟨W6.heap.size, 0, none⟩ (.int .i64 (fn : Int))).setCell ⟨W6.heap.size, 1, none⟩ (.int .i64 nI) = W8 at *
          refine behindC ⟨cell_keep hb8 (Nat.le_refl _) v0, cell_keep hb8 (Nat.le_refl _) b1, cell_keep hb8 (Nat.le_refl _) r1⟩ (walkC_nil ?_)
          have v1 := cell_keep hb8 (Nat.le_refl _) v1
          have d0 := cell_keep hb8 (Nat.le_refl _) d0
          have d1 := cell_keep hb8 (Nat.le_refl _) d1
          have x0 : W8.cell? ⟨W6.heap.size, 0, none⟩ = some (.int .i64 (fn : Int)) := hs8.cell 0
          have x1 : W8.cell? ⟨W6.heap.size, 1, none⟩ = some (.int .i64 nI) := hs8.cell 1
          have HB8 := Lib.hid (HBV.out.trans (hb8.mono HBV.out.size))
          have HB58 := Lib.hid (HB5V.out.trans (hb8.mono HB5V.out.size))
          have HQ8 := Lib.hid (HQ.out.below HB8.out.drew)
          clear hs7 hs8 s0 s1 sf0 sf1 hb7 hb8 v0 b1 r1
          cases hkx : q.K pv fn nI with
          | false =>
            have HE := Lib.hid (show phi2E bs q a p ins = .error (13, (a : Int), p) by
              unfold phi2E
              rw [if_neg (by intro h; rcases h with h | h; exact HA0.out (by omega); exact h HSE.out), if_neg (by rw [HOT.out (by rw [HTS.out, HIO.out, Int.toNat_natCast]; exact hkx)]; exact Bool.false_ne_true)])
            have HKX := Lib.hid hkx
            clear hkx
            go_wp2_with fail
            refine region_heldC_wp (fun w' => w'.cell? ⟨wo.heap.size, 1, none⟩ = some (.int .i64 pv) ∧ w'.cell? ⟨W6.heap.size, 0, none⟩ = some (.int .i64 (fn : Int)) ∧ w'.cell? ⟨W6.heap.size, 1, none⟩ = some (.int .i64 nI) ∧ w'.cell? ⟨w.heap.size, 0, none⟩ = some (.int .i64 (a : Int)) ∧ w'.cell? ⟨w.heap.size, 1, none⟩ = some (.int .i64 p)) [0, 1, 2, 3, 5, 6] [0, 1, 2, 3, 6, 4, 5, 7] (by kernel_rfl) (by kernel_rfl) (by kernel_rfl) rfl (by intro c a d v w h; cases d <;> exact h) ⟨v1, x0, x1, d0, d1⟩ ?_
            refine walkC_still _ ?y0 rfl rfl rfl ?yy0 ?_
            case yy0 => intro w hS; go_simp; first | done | with_reducible rfl
            simp only [Act.put]
            refine walkC_still _ ?y1 rfl rfl rfl ?yy1 ?_
            case yy1 => intro w hS; go_simp; first | done | with_reducible rfl
            simp only [Act.put]
            refine walkC_still _ ?y2 rfl rfl rfl ?yy2 ?_
            case yy2 => intro w hS; go_simp; first | done | with_reducible rfl
            simp only [Act.put]
            refine walkC_still _ ?y3 rfl rfl rfl ?yy3 ?_
            case yy3 => intro w hS; go_simp; first | done | with_reducible rfl
            simp only [Act.put]
            refine walkC_still _ ?y6 rfl rfl rfl ?yy6 ?_
            case yy6 => intro w hS; go_simp; first | done | with_reducible rfl
            simp only [Act.put]
            try simp only [List.setIfInBounds_toArray, List.set_cons_zero, List.set_cons_succ]
            refine walkC_does _ rfl rfl ?_
            go_wp2_with fail
            refine (HQ8.out.knows hxi (by rw [HNB.out]; exact hfn) nI).mono ?_
            rintro e w9 ⟨rfl, hb⟩
            rw [HKX.out]
            have hb9 : Below W8.heap.size W8 w9 := (Below.refl _ _).drew.trans hb
            go_wp2
            refine behindC ⟨cell_keep hb9 (Nat.le_refl _) v1, cell_keep hb9 (Nat.le_refl _) x0, cell_keep hb9 (Nat.le_refl _) x1, cell_keep hb9 (Nat.le_refl _) d0, cell_keep hb9 (Nat.le_refl _) d1⟩ ?_
            refine walkC_still _ ?y5 rfl rfl rfl ?yy5 ?_
            case yy5 => intro w hS; go_simp; first | done | with_reducible rfl
            simp only [Act.put]
            try simp only [List.setIfInBounds_toArray, List.set_cons_zero, List.set_cons_succ]
            refine walkC_does _ rfl rfl ?_
            go_wp2_with fail
            refine (deny_y _ 13 (a : Int) p (by rfl)).mono ?_
            rintro e w' ⟨rfl, hb'⟩
            refine ⟨rfl, ?_⟩
            show Ends mb (phi2E bs q a p ins) _ w (.panicked _) w'
            rw [HE.out]
            exact ⟨rfl, But.of_below ((HB8.out.trans (hb9.mono HB8.out.size)).trans (hb'.mono (Nat.le_trans HB8.out.size hb9.size)))⟩
          | true =>
            have HO := Lib.hid (show (ins.take (k + 1)).all (fun i => q.K i.2 i.1.toNat (insOf bs i.1)) = true by rw [HTS.out, HIO.out, Int.toNat_natCast]; exact hkx)
            have HKX := Lib.hid hkx
            clear hkx
            go_wp2_with fail
            refine region_heldC_wp (fun w' => w'.cell? ⟨wo.heap.size, 1, none⟩ = some (.int .i64 pv) ∧ w'.cell? ⟨W6.heap.size, 0, none⟩ = some (.int .i64 (fn : Int)) ∧ w'.cell? ⟨W6.heap.size, 1, none⟩ = some (.int .i64 nI) ∧ w'.cell? ⟨w.heap.size, 0, none⟩ = some (.int .i64 (a : Int)) ∧ w'.cell? ⟨w.heap.size, 1, none⟩ = some (.int .i64 p)) [0, 1, 2, 3, 5, 6] [0, 1, 2, 3, 6, 4, 5, 7] (by kernel_rfl) (by kernel_rfl) (by kernel_rfl) rfl (by intro c a d v w h; cases d <;> exact h) ⟨v1, x0, x1, d0, d1⟩ ?_
            refine walkC_still _ ?z0 rfl rfl rfl ?zy0 ?_
            case zy0 => intro w hS; go_simp; first | done | with_reducible rfl
            simp only [Act.put]
            refine walkC_still _ ?z1 rfl rfl rfl ?zy1 ?_
            case zy1 => intro w hS; go_simp; first | done | with_reducible rfl
            simp only [Act.put]
            refine walkC_still _ ?z2 rfl rfl rfl ?zy2 ?_
            case zy2 => intro w hS; go_simp; first | done | with_reducible rfl
            simp only [Act.put]
            refine walkC_still _ ?z3 rfl rfl rfl ?zy3 ?_
            case zy3 => intro w hS; go_simp; first | done | with_reducible rfl
            simp only [Act.put]
            refine walkC_still _ ?z6 rfl rfl rfl ?zy6 ?_
            case zy6 => intro w hS; go_simp; first | done | with_reducible rfl
            simp only [Act.put]
            try simp only [List.setIfInBounds_toArray, List.set_cons_zero, List.set_cons_succ]
            refine walkC_does _ rfl rfl ?_
            go_wp2_with fail
            refine (HQ8.out.knows hxi (by rw [HNB.out]; exact hfn) nI).mono ?_
            rintro e w9 ⟨rfl, hb⟩
            rw [HKX.out]
            have hb9 : Below W8.heap.size W8 w9 := (Below.refl _ _).drew.trans hb
            go_wp2
            refine behindC ⟨cell_keep hb9 (Nat.le_refl _) v1, cell_keep hb9 (Nat.le_refl _) x0, cell_keep hb9 (Nat.le_refl _) x1, cell_keep hb9 (Nat.le_refl _) d0, cell_keep hb9 (Nat.le_refl _) d1⟩ ?_
            refine walkC_still _ ?z5 rfl rfl rfl ?zy5 ?_
            case zy5 => intro w hS; go_simp; first | done | with_reducible rfl
            simp only [Act.put]
            try simp only [List.setIfInBounds_toArray, List.set_cons_zero, List.set_cons_succ]
            refine walkC_does _ rfl rfl ?_
            go_wp2_with fail
            refine (deny_n _ 13 (a : Int) p (by rfl)).mono ?_
            rintro e w' ⟨rfl, hb'⟩
            have hbo : Below W8.heap.size W8 w' := hb9.trans (hb'.mono hb9.size)
            have HB9 := Lib.hid (HB58.out.trans (hbo.mono HB58.out.size))
            clear hb hb'
            go_wp2
            refine behindC ⟨cell_keep hbo (Nat.le_refl _) v1, cell_keep hbo (Nat.le_refl _) x0, cell_keep hbo (Nat.le_refl _) x1, cell_keep hbo (Nat.le_refl _) d0, cell_keep hbo (Nat.le_refl _) d1⟩ (walkC_nil ?_)
            clear hbo hb9 x0 x1 v1 d0 d1
            go_wp2
            go_roundw
            case rel => exact ⟨k + 1, by omega, by go_num, HO.out, HB9.out⟩
            case measure => simp [intOf]; omega
        · obtain rfl : k = ins.length := by omega
          rw [List.take_length] at HALL
          have HE := Lib.hid (show phi2E bs q a p ins = .ok () by
            unfold phi2E
            rw [if_neg (by intro h; rcases h with h | h; exact HA0.out (by omega); exact h HSE.out), if_pos HALL.out])
          clear hb
          go_wp2
          go_end0
          show Ends mb (phi2E bs q a p ins) _ w (.returned _) wo
          rw [HE.out]
          exact ⟨rfl, But.of_below HBwo.out, HQ.out.below HBwo.out⟩
end Go.Proofs.Ytdfehpcbcgbidaa.Kc
