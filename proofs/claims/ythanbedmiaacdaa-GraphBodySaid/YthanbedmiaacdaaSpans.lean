/- What package graph's spans answers: of each block the numbers of those that it dominates. -/
import Derived.Test.YthanbedmiaacdaaRepeatR
import Derived.Test.YthanbedmiaacdaaDoms
import Derived.Test.YthanbedmiaacdaaBackQ
namespace Go.Proofs.Ythanbedmiaacdaa.Gc
open Go.ChangeShapes Go.WideShapes Go.ChangeAt Go.RowKit Go.Shelf Go.Proofs.Ythanbedmiaacdaa.Mem Go.Proofs.Ythanbedmiaacdaa.Gr Go.Proofs.Ythanbedmiaacdaa.Gn Go.Proofs.Ythanbedmiaacdaa.Br Go.Proofs.Ythanbedmiaacdaa.Rp
set_option linter.unusedVariables false
attribute [local go_sem] Oper.semAt_some

def countL (idom : List Int) (l : List Nat) : List Nat := l.foldl (countStep idom) (List.replicate idom.length 0)
theorem countL_snoc (idom : List Int) (l : List Nat) (b : Nat) : countL idom (l ++ [b]) = countStep idom (countL idom l) b := by unfold countL; rw [List.foldl_append]; rfl
theorem countStep_len (idom : List Int) (c : List Nat) (b : Nat) : (countStep idom c b).length = c.length := by
  unfold countStep
  simp only
  split
  · rw [List.length_set]
  · rw [List.length_set, List.length_set]
theorem countL_len (idom : List Int) (l : List Nat) : (countL idom l).length = idom.length := by
  unfold countL
  have : ∀ (l : List Nat) (c : List Nat), (l.foldl (countStep idom) c).length = c.length := by
    intro l
    induction l with
    | nil => intro c; rfl
    | cons b l ih => intro c; rw [List.foldl_cons, ih, countStep_len]
  rw [this, List.length_replicate]
/-- The same, as the machine counts. -/
def cstep (idom : List Int) (c : List Int) (b : Nat) : List Int :=
  if b = 0 then c.set b (wrap64 (c.getD b 0 + 1))
  else (c.set b (wrap64 (c.getD b 0 + 1))).set (idom.getD b 0).toNat (wrap64 ((c.set b (wrap64 (c.getD b 0 + 1))).getD (idom.getD b 0).toNat 0 + (c.set b (wrap64 (c.getD b 0 + 1))).getD b 0))
def countW (idom : List Int) (l : List Nat) : List Int := l.foldl (cstep idom) (List.replicate idom.length 0)
theorem countW_snoc (idom : List Int) (l : List Nat) (b : Nat) : countW idom (l ++ [b]) = cstep idom (countW idom l) b := by unfold countW; rw [List.foldl_append]; rfl
theorem cstep_len (idom : List Int) (c : List Int) (b : Nat) : (cstep idom c b).length = c.length := by
  unfold cstep
  split
  · rw [List.length_set]
  · rw [List.length_set, List.length_set]
theorem countW_len (idom : List Int) (l : List Nat) : (countW idom l).length = idom.length := by
  unfold countW
  have : ∀ (l : List Nat) (c : List Int), (l.foldl (cstep idom) c).length = c.length := by
    intro l
    induction l with
    | nil => intro c; rfl
    | cons b l ih => intro c; rw [List.foldl_cons, ih, cstep_len]
  rw [this, List.length_replicate]
/-- What spans asks of its rows. -/
structure Spanned (came : List Nat) (idom : List Int) : Prop where
  lt : ∀ b ∈ came, b < idom.length
  up : ∀ b ∈ came, b ≠ 0 → ∃ a : Nat, idom.getD b 0 = (a : Int) ∧ a < idom.length
  count : ∀ l, l <+: came.reverse → ∀ b, (countL idom l).getD b 0 ≤ 1000
  next : ∀ j b, (spanTo came idom j).1.getD b 0 ≤ 1000
theorem li_getD (l : List Nat) (j : Nat) : (li l).getD j 0 = ((l.getD j 0 : Nat) : Int) := by
  unfold li
  rw [List.getD_eq_getElem?_getD, List.getD_eq_getElem?_getD, List.getElem?_map]
  cases l[j]? <;> rfl
theorem wrap_small {x : Int} (h0 : 0 ≤ x) (h1 : x ≤ 1000000) : wrap64 x = x := IntWalk.wrap64_in x (by omega)
theorem cstep_is (idom : List Int) (c : List Nat) (b : Nat) (hc : ∀ j, c.getD j 0 ≤ 1000) : cstep idom (li c) b = li (countStep idom c b) := by
  unfold cstep countStep
  have h1 : wrap64 ((li c).getD b 0 + 1) = ((c.getD b 0 + 1 : Nat) : Int) := by
    rw [li_getD, wrap_small (by omega) (by have := hc b; omega)]; rfl
  simp only [h1, ← li_set]
  by_cases hb : b = 0
  · rw [if_pos hb, if_pos hb]
  · rw [if_neg hb, if_neg hb, li_getD, li_getD]
    have hd : ∀ j, (c.set b (c.getD b 0 + 1)).getD j 0 ≤ 1001 := by
      intro j
      rw [getD_set]
      split
      · have := hc b; omega
      · have := hc j; omega
    have h2 := hd (idom.getD b 0).toNat
    have h3 := hd b
    generalize (c.set b (c.getD b 0 + 1)).getD (idom.getD b 0).toNat 0 = x at *
    generalize (c.set b (c.getD b 0 + 1)).getD b 0 = y at *
    rw [wrap_small (by omega) (by omega), show ((x : Int) + (y : Int)) = ((x + y : Nat) : Int) from by omega, li_set, li_set, li_set]
theorem countW_is {came : List Nat} {idom : List Int} (hs : Spanned came idom) : countW idom came.reverse = li (countN came idom) := by
  have : ∀ j, j ≤ came.reverse.length → countW idom (came.reverse.take j) = li (countL idom (came.reverse.take j)) := by
    intro j
    induction j with
    | zero =>
      intro _
      show List.replicate _ (0 : Int) = li (List.replicate _ 0)
      unfold li; rw [List.map_replicate]; rfl
    | succ j ih =>
      intro hj
      rw [List.take_succ_eq_append_getElem (by omega), countW_snoc, countL_snoc, ih (by omega)]
      exact cstep_is _ _ _ (hs.count _ (List.take_prefix _ _))
  have h := this _ (Nat.le_refl _)
  rw [List.take_length] at h
  exact h
theorem rgs_at (l : List (Int × Int)) : ∀ (b : Nat), (l.map rg).flatten[b * 2]? = (l[b]?).map (fun p => Value.int .i64 p.1) ∧ (l.map rg).flatten[b * 2 + 1]? = (l[b]?).map (fun p => Value.int .i64 p.2) := by
  induction l with
  | nil => intro b; simp
  | cons p l ih =>
    intro b
    rw [List.map_cons, List.flatten_cons]
    cases b with
    | zero => exact ⟨rfl, rfl⟩
    | succ b =>
      obtain ⟨h1, h2⟩ := ih b
      rw [show (b + 1) * 2 = b * 2 + 2 by omega]
      exact ⟨h1, h2⟩
theorem rgs_set (l : List (Int × Int)) (p : Int × Int) : ∀ (b : Nat), ((l.map rg).flatten.set (b * 2) (.int .i64 p.1)).set (b * 2 + 1) (.int .i64 p.2) = ((l.set b p).map rg).flatten := by
  induction l with
  | nil => intro b; simp
  | cons q l ih =>
    intro b
    rw [List.map_cons, List.flatten_cons]
    cases b with
    | zero => rfl
    | succ b =>
      rw [show (b + 1) * 2 = b * 2 + 2 by omega, List.set_cons_succ, List.map_cons, List.flatten_cons, ← ih b]
      rfl
theorem OwnRanges.put {B : Nat} {w : World} {g n c : Nat} {l : List (Int × Int)} (h : OwnRanges B w (.slice (some ⟨g, 0, none⟩) n c) l) (b : Nat) (p : Int × Int) :
    OwnRanges B ((w.setCell ⟨g, b * 2, none⟩ (.int .i64 p.1)).setCell ⟨g, b * 2 + 1, none⟩ (.int .i64 p.2)) (.slice (some ⟨g, 0, none⟩) n c) (l.set b p) := by
  have hn : n = l.length := by
    rcases h.2 with ⟨e, _⟩ | ⟨_, _, _, e, _⟩
    · cases e
    · injection e
  subst hn
  have h1 := (World.ownsRow.stored h (b * 2) (.int .i64 p.1)).1
  have h2 := (World.ownsRow.stored h1 (b * 2 + 1) (.int .i64 p.2)).1
  unfold OwnRanges
  rw [List.length_set, ← rgs_set]
  exact h2
theorem OwnRanges.cells {B : Nat} {w : World} {g n c : Nat} {l : List (Int × Int)} (h : OwnRanges B w (.slice (some ⟨g, 0, none⟩) n c) l) {b : Nat} (hb : b < l.length) :
    (w.cell? ⟨g, b * 2, none⟩ = some (.int .i64 l[b].1) ∧ w.cell? ⟨g, b * 2 + 1, none⟩ = some (.int .i64 l[b].2)) ∧ w.frozen? ⟨g, b * 2, none⟩ = false ∧ w.frozen? ⟨g, b * 2 + 1, none⟩ = false := by
  have hn : n = l.length := by
    rcases h.2 with ⟨e, _⟩ | ⟨_, _, _, e, _⟩
    · cases e
    · injection e
  subst hn
  obtain ⟨h1, h2⟩ := rgs_at l b
  rw [List.getElem?_eq_getElem hb] at h1 h2
  exact ⟨⟨by rw [World.ownsRow.cellAt h _ (by omega), h1]; rfl, by rw [World.ownsRow.cellAt h _ (by omega), h2]; rfl⟩, World.ownsRow.frozenAt h _, World.ownsRow.frozenAt h _⟩
theorem span_put {B : Nat} {w : World} {g h n c m d : Nat} {l : List Int} {r : List (Int × Int)} (hn : OwnInts B w (.slice (some ⟨g, 0, none⟩) n c) l) (hr : OwnRanges B w (.slice (some ⟨h, 0, none⟩) m d) r) (hgh : g ≠ h) (b : Nat) (p : Int × Int) (y : Int) :
    OwnInts B (((w.setCell ⟨h, b * 2, none⟩ (.int .i64 p.1)).setCell ⟨h, b * 2 + 1, none⟩ (.int .i64 p.2)).setCell ⟨g, b, none⟩ (.int .i64 y)) (.slice (some ⟨g, 0, none⟩) n c) (l.set b y) ∧
    OwnRanges B (((w.setCell ⟨h, b * 2, none⟩ (.int .i64 p.1)).setCell ⟨h, b * 2 + 1, none⟩ (.int .i64 p.2)).setCell ⟨g, b, none⟩ (.int .i64 y)) (.slice (some ⟨h, 0, none⟩) m d) (r.set b p) := by
  have e1 : (Value.slice (some ⟨g, 0, none⟩) n c).ownBlock = none ∨ (Value.slice (some ⟨g, 0, none⟩) n c).ownBlock ≠ some h := Or.inr (fun e => by injection e with e; exact hgh e)
  have e2 : (Value.slice (some ⟨h, 0, none⟩) m d).ownBlock = none ∨ (Value.slice (some ⟨h, 0, none⟩) m d).ownBlock ≠ some g := Or.inr (fun e => by injection e with e; exact hgh e.symm)
  have h1 := World.ownsRow.kept (World.ownsRow.kept hn (setCell_grownBy w ⟨h, b * 2, none⟩ (.int .i64 p.1)) e1) (setCell_grownBy _ ⟨h, b * 2 + 1, none⟩ (.int .i64 p.2)) e1
  exact ⟨(OwnInts.stored h1 b y).1, World.ownsRow.kept (OwnRanges.put hr b p) (setCell_grownBy _ ⟨g, b, none⟩ (.int .i64 y)) e2⟩
theorem spanTo_succ {came : List Nat} {idom : List Int} {j : Nat} (h : j < came.length) : spanTo came idom (j + 1) = spanStep idom (countN came idom) (spanTo came idom j) came[j] := by
  unfold spanTo
  rw [List.take_succ_eq_append_getElem h, List.foldl_append]; rfl
theorem spanStep_len (idom : List Int) (count : List Nat) (s : List Nat × List (Int × Int)) (b : Nat) : (spanStep idom count s b).1.length = s.1.length ∧ (spanStep idom count s b).2.length = s.2.length := by
  unfold spanStep
  refine ⟨?_, by simp⟩
  simp only [List.length_set]
  split
  · rfl
  · rw [List.length_set]
theorem spanTo_len (came : List Nat) (idom : List Int) (j : Nat) : (spanTo came idom j).1.length = idom.length ∧ (spanTo came idom j).2.length = idom.length := by
  unfold spanTo
  have : ∀ (l : List Nat) (s : List Nat × List (Int × Int)), (l.foldl (spanStep idom (countN came idom)) s).1.length = s.1.length ∧ (l.foldl (spanStep idom (countN came idom)) s).2.length = s.2.length := by
    intro l
    induction l with
    | nil => intro s; exact ⟨rfl, rfl⟩
    | cons b l ih => intro s; rw [List.foldl_cons]; obtain ⟨h1, h2⟩ := ih (spanStep idom (countN came idom) s b); obtain ⟨h3, h4⟩ := spanStep_len idom (countN came idom) s b; exact ⟨h1.trans h3, h2.trans h4⟩
  obtain ⟨h1, h2⟩ := this (came.take j) (List.replicate idom.length 0, List.replicate idom.length (-1, -1))
  exact ⟨by rw [h1]; simp, by rw [h2]; simp⟩
/-- The counts, their box and that of idom, on the way from W0 in the same round. -/
structure Counts (n x5 : Nat) (w : World) (vi : Value) (cb : Nat) (K : Nat → Prop) (W0 W : World) (c : List Int) : Prop where
  row : OwnInts (w.heap.size + 1) W (.slice (some ⟨cb, 0, none⟩) n n) c
  cbox : Boxed W x5 23 (.slice (some ⟨cb, 0, none⟩) n n)
  ibox : Boxed W w.heap.size 23 vi
  fr : Fr (fun j => j = cb) w W
  others : KeepsOthers W0 W
  kept : KeptP K W0 W
theorem Counts.drew {n x5 : Nat} {w : World} {vi : Value} {cb : Nat} {K : Nat → Prop} {W0 W : World} {c : List Int} (h : Counts n x5 w vi cb K W0 W c) : Counts n x5 w vi cb K W0 W.drew c :=
  ⟨h.row, h.cbox, h.ibox, ⟨h.fr.os, h.fr.tape, h.fr.output, h.fr.size, h.fr.block⟩, h.others.trans (KeepsOthers.drew _), h.kept⟩
theorem Counts.put {n x5 : Nat} {w : World} {vi : Value} {cb : Nat} {K : Nat → Prop} {W0 W : World} {c : List Int} (h : Counts n x5 w vi cb K W0 W c) (h5 : x5 ≠ cb) (h0 : w.heap.size ≠ cb) (hK : ¬ K cb) (j : Nat) (y : Int) :
    Counts n x5 w vi cb K W0 (W.setCell ⟨cb, j, none⟩ (.int .i64 y)) (c.set j y) := by
  have hg := setCell_grownBy W ⟨cb, j, none⟩ (.int .i64 y)
  refine ⟨(h.row.stored j y).1, (Below.heap_setCell _ _ _ _ h5).trans h.cbox, (Below.heap_setCell _ _ _ _ h0).trans h.ibox, ?_, h.others.trans (KeepsOthers.setCell _ _ _), ?_⟩
  · exact h.fr.trans (Fr.of_grown (S := fun j => j = cb) hg (fun k e _ => by injection e with e; exact e.symm)) (fun i _ e => e)
  · exact h.kept.trans fun i hi => Below.heap_setCell _ _ _ _ (by intro e; rw [e] at hi; exact hK hi)
set_option maxRecDepth 100000 in
set_option maxHeartbeats 8000000 in
theorem spans_any (w : World) (vc vi : Value) (came : List Nat) (idom : List Int) (hc : Ints w vc (li came)) (hi : Ints w vi idom) (hs : Spanned came idom) (hn : idom.length ≤ 1000) (hk : came.length ≤ 1000) :
    Calls Try.prog 61 #[vc, vi] w fun e w' => ∃ v, e = .returned v ∧ OwnRanges w.heap.size w' v (spansN came idom) ∧ Below w.heap.size w w' := by
  obtain ⟨Ac, cc, rfl, hc1, hc2, hc3⟩ := hc
  obtain ⟨Ai, ci, rfl, hi1, hi2, hi3⟩ := hi
  rw [li_len] at hc1 ⊢
  unfold maxLen at hc2 hi2
  have HC := Lib.hid hc3
  have HI := Lib.hid hi3
  have HS := Lib.hid hs
  obtain ⟨i0, hi0, hz0, hz1, hz2⟩ := info_parts info_int
  have HI0 := Lib.hid hi0
  have HZ0 := Lib.hid hz0
  have HZ1 := Lib.hid hz1
  have HZ2 := Lib.hid hz2
  clear hi0 hz0 hz1 hz2 hs hc3 hi3
  refine (callsIn_wide (n := 9)).1 ?_
  refine callsIn_of_wp_marks Try.func61 rfl trivial ?_ rfl
  simp only [Try.ntmps61, List.size_toArray, List.length_cons, List.length_nil, Nat.reduceAdd, Nat.reduceSub, Array.replicate_succ, Array.replicate_zero, List.push_toArray, List.append_toArray, List.nil_append, List.cons_append]
  have hb0 : Below w.heap.size w (w.alloc (.cells #[.slice Ai idom.length ci] 23)) := (Below.refl _ _).alloc (Nat.le_refl _) _
  have hx0 : Boxed (w.alloc (.cells #[.slice Ai idom.length ci] 23)) w.heap.size 23 (.slice Ai idom.length ci) := Boxed.new _ _ _
  have hz0 : (w.alloc (.cells #[.slice Ai idom.length ci] 23)).heap.size = w.heap.size + 1 := by simp
  gi_wp2_with (gi_at_make; refine wpListIn_make_full _ rfl _ _ 23 rfl (w.alloc (.cells #[.slice Ai idom.length ci] 23)).heap.size 3 i0 (.int .i64 0) 1 Try.underlying23 HI0.out HZ0.out HZ1.out .i64 .i64 _ _ idom.length rfl rfl rfl rfl (by rw [HZ2.out]; omega) (by unfold maxLen; omega) (Nat.le_refl _) ?_)
  intro w1 hown1 hgr1
  rw [toList_madeCells_one] at hown1
  have ho1 := zeros_own hown1
  have hb1 := hb0.grown hgr1 (by omega) (fun j hj => by cases hj)
  have hx1 := hx0.kept hgr1 (by simp)
  have hl1 := (ho1.lt _ rfl)
  have hl1 : w.heap.size + 1 ≤ w.heap.size + 1 ∧ w.heap.size + 1 < w1.heap.size := hl1

  have hfd : ∀ (k : Nat) (W : World), Below w.heap.size w W → True := fun _ _ _ => trivial
  obtain ⟨W2, hW2⟩ : ∃ W2, (w1.alloc (.cells #[.slice none 0 0] 23)).setCell ⟨w1.heap.size, 0, none⟩ (.slice (some ⟨w.heap.size + 1, 0, none⟩) idom.length idom.length) = W2 := ⟨_, rfl⟩
  have hal : Below w1.heap.size w1 W2 := by rw [← hW2]; exact ((Below.refl _ _).alloc (Nat.le_refl _) _).setCell (Nat.le_refl _) _
  have hx5 : Boxed W2 w1.heap.size 23 (.slice (some ⟨w.heap.size + 1, 0, none⟩) idom.length idom.length) := by rw [← hW2]; exact (Boxed.new _ _ _).set _
  have hz2 : w1.heap.size < W2.heap.size := by rw [← hW2]; simp [World.setCell]
  have hr2 := own_below ho1 hal
  have hb2 := hb1.trans (hal.mono (by omega))
  have hx2 := boxed_below hx1 hal
  have HR2 := Lib.hid hr2
  have HB2 := Lib.hid hb2
  have HX2 := Lib.hid hx2
  have HX5 := Lib.hid hx5
  clear hown1 hgr1 hx0 hr2 hb2 hx2 hx5 hb1 hx1 ho1 hal hb0
  gi_wp2_with fail
  refine ⟨trivial, ?_⟩
  refine (callsIn_wide.2 (backward_any _ Ac came.length cc)).mono ?_
  rintro e w3 ⟨rfl, rfl⟩
  gi_wp2
  obtain ⟨W3, hW3⟩ : ∃ W3, W2.alloc (.cells #[.slice Ac came.length cc] 23) = W3 := ⟨_, rfl⟩
  rw [hW3]
  have hA3 : Below W2.heap.size W2 W3 := by rw [← hW3]; exact (Below.refl _ _).alloc (Nat.le_refl _) _
  have hz3 : W3.heap.size = W2.heap.size + 1 := by rw [← hW3]; simp
  have hx3 : Boxed W3 W2.heap.size 23 (.slice Ac came.length cc) := by rw [← hW3]; exact Boxed.new _ _ _
  clear hW3
  have hIK : IntsK (fun j => j < w.heap.size ∨ j = W2.heap.size) W3 Ac came := by
    intro j hj
    obtain ⟨ad, rfl, hx⟩ := HC.out j (by rw [li_len]; exact hj)
    rw [li_at hj] at hx
    exact ⟨ad, rfl, Or.inl (lt_of_cell hx), cell_keep (HB2.out.trans (hA3.mono HB2.out.size)) (Nat.le_refl _) hx⟩
  have hww : w.heap.size ≤ W2.heap.size := HB2.out.size
  have hKlt : ∀ j, (j < w.heap.size ∨ j = W2.heap.size) → j < W3.heap.size := by
    rintro j (h | h) <;> omega
  have HCO := Lib.hid (show Counts idom.length w1.heap.size w (.slice Ai idom.length ci) (w.heap.size + 1) (fun j => j < w.heap.size ∨ j = W2.heap.size) W3 W3 (countW idom []) from
    ⟨by have h := own_below HR2.out hA3; unfold li at h; rw [List.map_replicate] at h; exact h, boxed_below HX5.out hA3, boxed_below HX2.out hA3, Fr.of_below (HB2.out.trans (hA3.mono hww)), KeepsOthers.refl _, KeptP.refl _ _⟩)
  have hlt : ∀ b ∈ came, b ∈ came := fun _ h => h
  refine wpIn_rangeFunc_ownF rfl (by omega) (gf := 83) (lb := #[.pointer (some ⟨W2.heap.size, 0, none⟩)]) rfl trivial (enters_of Try.func83 (by kernel_rfl) rfl)
    (backward_stopsQ Fence.wide 8 trivial rfl (by omega) (fun j => j < w.heap.size ∨ j = W2.heap.size) W3 Ac came cc W2.heap.size (fun b => b ∈ came) hIK hc1 (by unfold maxLen; omega) hlt hx3.cell (Or.inr rfl) hKlt (by omega)) KeptP.trans (keptP_b hKlt) (Below.refl _ _) (fun _ => rfl)
    (fun pre W => (OwnInts (w.heap.size + 1) W (.slice (some ⟨w.heap.size + 1, 0, none⟩) idom.length idom.length) (countW idom (pre.map (·.1.2))) ∧ Boxed W w1.heap.size 23 (.slice (some ⟨w.heap.size + 1, 0, none⟩) idom.length idom.length) ∧ Boxed W w.heap.size 23 (.slice Ai idom.length ci)) ∧ Fr (fun j => j = w.heap.size + 1) w W)
    (fun _ _ _ => False)
    (OwnFrom.and (Own.from (fun s W W' row hs hg hr => ⟨World.ownsRow.kept hs.1 hg (own_notcells hs.1 hr), boxed_cells hs.2.1 hg hr, boxed_cells hs.2.2 hg hr⟩) _) (ownFrom_fr (by omega)))
    (fun _ _ _ _ _ hs _ _ => hs)
    ⟨⟨HCO.out.row, HCO.out.cbox, HCO.out.ibox⟩, HCO.out.fr⟩
    (fun v => { tmps := #[.slice Ac came.length cc, .slice Ai idom.length ci, undef, .pointer (some ⟨w.heap.size, 0, none⟩), .slice none 0 0, .pointer (some ⟨w1.heap.size, 0, none⟩), undef, .int .i64 (v.1.2 : Nat), undef, undef, undef, undef, undef,
      .slice Ai idom.length ci, .int .i64 idom.length, .slice (some ⟨w.heap.size + 1, 0, none⟩) idom.length idom.length, .slice Ac came.length cc, .func (.func 83) #[] #[.pointer (some ⟨W2.heap.size, 0, none⟩)], .int .i64 (v.1.1 : Nat), .int .i64 (v.1.2 : Nat), undef, undef, undef, undef, undef, undef, undef, undef, undef, undef, undef, undef, undef, undef, undef, undef, undef, undef, undef, undef, undef, undef, undef, undef, undef, undef, undef, undef, undef, undef, undef, undef, undef, undef, undef, undef, undef, undef, undef, undef, undef, undef, undef, undef, undef, undef, undef, undef, undef, undef, undef, undef, undef, undef, undef, undef, undef, undef, undef, undef, undef, undef, undef, undef, undef, undef, undef, undef, undef, undef, undef, undef, undef, undef, undef], defers := [] }) ?assign ?body ?done ?stop
  case assign =>
    intro l v W K hK
    gi_wp2
    exact hK
  case body =>
    rintro l pre v W ⟨⟨hrd, hcb, hib⟩, hfr⟩ hlen
    obtain ⟨⟨j0, b⟩, hb⟩ := v
    have hbm : b ∈ came := hb
    have hbn := HS.out.lt b hbm
    have HSN := Lib.hid (show countW idom ((pre ++ [(⟨(j0, b), hb⟩ : BwQ (fun b => b ∈ came))]).map (·.1.2)) = cstep idom (countW idom (pre.map (·.1.2))) b by rw [List.map_append]; exact countW_snoc _ _ _)
    have hcl := countW_len idom (pre.map (·.1.2))
    generalize countW idom (pre.map (·.1.2)) = c at *
    have HCO := Lib.hid (show Counts idom.length w1.heap.size w (.slice Ai idom.length ci) (w.heap.size + 1) (fun j => j < w.heap.size ∨ j = W2.heap.size) W W c from ⟨hrd, hcb, hib, hfr, KeepsOthers.refl _, KeptP.refl _ _⟩)
    have hKc : ¬ (w.heap.size + 1 < w.heap.size ∨ w.heap.size + 1 = W2.heap.size) := by rintro (h | h) <;> omega
    obtain ⟨q1, qf⟩ := row_int hrd (j := b) (by rw [hcl]; exact hbn) 0
    have kc := hcb.cell
    clear hrd hcb hib hfr
    generalize hcbv : c.getD b 0 = x at *
    by_cases hb0 : b = 0
    · have hb1 : ((b : Int) != 0) = false := by rw [hb0]; rfl
      have HST := Lib.hid (show cstep idom c b = c.set b (wrap64 (x + 1)) by unfold cstep; rw [if_pos hb0, hcbv])
      have HC4 := Lib.hid (HCO.out.put (by omega) (by omega) hKc b (wrap64 (x + 1)))
      clear hb0
      gi_wp2
      exact ⟨HC4.out.others, HC4.out.kept, ⟨by rw [HSN.out, HST.out]; exact HC4.out.row, HC4.out.cbox, HC4.out.ibox⟩, HC4.out.fr⟩
    · obtain ⟨a, hia, han⟩ := HS.out.up b hbm hb0
      obtain ⟨ad, rfl, hic⟩ := HI.out b hbn
      have hie : idom[b] = (a : Int) := by rw [← hia, List.getD_eq_getElem?_getD, List.getElem?_eq_getElem hbn]; rfl
      rw [hie] at hic
      have HIC := Lib.hid hic
      have hb1 : (b : Int) ≠ 0 := by omega
      have hb2 : ((b : Int) != 0) = true := by rw [bne_iff_ne]; exact hb1
      have HST := Lib.hid (show cstep idom c b = (c.set b (wrap64 (x + 1))).set a (wrap64 ((c.set b (wrap64 (x + 1))).getD a 0 + (c.set b (wrap64 (x + 1))).getD b 0)) by unfold cstep; rw [if_neg hb0, hcbv, hia, Int.toNat_natCast])
      clear hie hic hb1
      gi_wp2
      obtain ⟨W5, hW5⟩ : ∃ W5, W.setCell ⟨w.heap.size + 1, b, none⟩ (.int .i64 (wrap64 (x + 1))) = W5 := ⟨_, rfl⟩
      have hc5 := HCO.out.put (by omega) (by omega) hKc b (wrap64 (x + 1))
      rw [hW5] at hc5
      rw [hW5]
      clear hW5 kc q1 qf
      have kc := hc5.cbox.cell
      have ki := hc5.ibox.cell
      have kx : W5.cell? (ad.add b) = some (.int .i64 a) := hc5.fr.cell HIC.out (by have := lt_of_cell HIC.out; omega)
      have hl5 : (c.set b (wrap64 (x + 1))).length = idom.length := by rw [List.length_set, hcl]
      obtain ⟨q1, qf⟩ := row_int hc5.row (j := a) (by rw [hl5]; exact han) 0
      obtain ⟨q2, _⟩ := row_int hc5.row (j := b) (by rw [hl5]; exact hbn) 0
      generalize (c.set b (wrap64 (x + 1))).getD a 0 = y at *
      generalize (c.set b (wrap64 (x + 1))).getD b 0 = z at *
      have HC5 := Lib.hid hc5
      clear hc5 hia hcbv
      refine region_tail (lets_round l) 13 (by kernel_rfl) (by kernel_rfl) (fun _ _ h => h) (by kernel_rfl) ?_
      simp only [List.take_succ_cons, List.take_zero, List.drop_succ_cons, List.drop_zero]
      repeat still_step
      refine wpStill_nil ?_
      go_wp2
      gi_wp2
      have HC6 := Lib.hid ((HC5.out.put (by omega) (by omega) hKc a (wrap64 (y + z))).drew)
      exact ⟨HC6.out.others, HC6.out.kept, ⟨by rw [HSN.out, HST.out]; exact HC6.out.row, HC6.out.cbox, HC6.out.ibox⟩, HC6.out.fr⟩
  case done =>
    rintro D xs W hD hxs ⟨⟨hrd, hcb, hib⟩, hfr⟩ hK
    rw [hxs, countW_is HS.out] at hrd
    have HRD := Lib.hid hrd
    have HCB := Lib.hid hcb
    have HIB := Lib.hid hib
    have HFR := Lib.hid hfr
    have HK := Lib.hid hK
    have ki := hib.cell
    have hwW := hfr.size
    have hcW := (hrd.lt _ rfl).2
    clear hrd hcb hib hfr hK
    gi_wp2_with (gi_at_make; refine wpListIn_make_full _ rfl _ _ 23 rfl W.heap.size 3 i0 (.int .i64 0) 1 Try.underlying23 HI0.out HZ0.out HZ1.out .i64 .i64 _ _ idom.length rfl rfl rfl rfl (by rw [HZ2.out]; omega) (by unfold maxLen; omega) (Nat.le_refl _) ?_)
    intro w7 hown7 hgr7
    rw [toList_madeCells_one] at hown7
    have ho7 := zeros_own hown7
    have hb7 : Below W.heap.size W w7 := (Below.refl _ _).grown hgr7 (Nat.le_refl _) (fun j hj => by cases hj)
    have hz7 : W.heap.size < w7.heap.size := (ho7.lt _ rfl).2
    obtain ⟨W8, hW8⟩ : ∃ W8, w7.alloc (.cells #[.int .i64 (-1), .int .i64 (-1)] 88) = W8 := ⟨_, rfl⟩
    have hb8 : Below w7.heap.size w7 W8 := by rw [← hW8]; exact (Below.refl _ _).alloc (Nat.le_refl _) _
    have hz8 : w7.heap.size < W8.heap.size := by rw [← hW8]; simp
    have hx8 : ∀ j v, (rg (-1, -1))[j]? = some v → W8.cell? ⟨w7.heap.size, j, none⟩ = some v := by
      have hs : Str W8 w7.heap.size 88 [.int .i64 (-1), .int .i64 (-1)] := by rw [← hW8]; exact World.alloc_heap_new w7 _
      exact fun j v hj => (hs.cell j).trans hj
    have ki8 : W8.cell? ⟨w.heap.size, 0, none⟩ = some (.slice Ai idom.length ci) := cell_keep hb8 (Nat.le_refl _) (cell_keep hb7 (Nat.le_refl _) ki)
    clear hown7 hgr7
    have HO7 := Lib.hid ho7
    have HB7 := Lib.hid hb7
    have HB8 := Lib.hid hb8
    clear ho7 hb7 hb8
    gi_wp2_with fail
    refine ⟨trivial, (callsIn_wide.2 (repeatR_any W8 w7.heap.size idom.length (-1, -1) hx8 (by omega))).mono ?_⟩
    rintro e w9 ⟨rfl, ho9, hb9⟩
    have hz9 : W8.heap.size < w9.heap.size := (ho9.lt _ rfl).2
    have hbW : Below W.heap.size W w9 := (HB7.out.trans (HB8.out.mono HB7.out.size)).trans (hb9.mono (by omega))
    have HBW := Lib.hid hbW
    have HN9 := Lib.hid (own_below (own_below HO7.out HB8.out) hb9)
    have HA9 := Lib.hid ho9
    clear ho9 hb9 hx8 ki8 hbW hW8
    gi_wp2
    gi_loopw [51] (fun i wr => ∃ j : Nat, j ≤ came.length ∧ i = .int .i64 j ∧ OwnInts W.heap.size wr (.slice (some ⟨W.heap.size, 0, none⟩) idom.length idom.length) (li (spanTo came idom j).1) ∧
      OwnRanges W.heap.size wr (.slice (some ⟨W8.heap.size, 0, none⟩) idom.length idom.length) (spanTo came idom j).2 ∧ Below W.heap.size W wr) (fun i _ => came.length - (intOf i).toNat)
    case atStart => exact ⟨0, Nat.zero_le _, rfl, HN9.out, own_base HA9.out (by omega), HBW.out⟩
    case round =>
      obtain ⟨j, hj, rfl, hrn, hra, hbw⟩ := hrel
      obtain ⟨wo, rfl⟩ : ∃ wo : World, wo = wr := ⟨_, rfl⟩
      by_cases hlt : j < came.length
      · obtain ⟨ad, rfl, hcj⟩ := HC.out j (by rw [li_len]; exact hlt)
        rw [li_at hlt] at hcj
        have hbm : came[j] ∈ came := List.getElem_mem hlt
        have HSS := Lib.hid (spanTo_succ (idom := idom) hlt)
        generalize came[j] = b at *
        have hbn := HS.out.lt b hbm
        have hcW2 : wo.cell? (ad.add j) = some (.int .i64 b) := cell_keep hbw (by have := lt_of_cell hcj; omega) (cell_keep (HFR.out.below (B := w.heap.size) (Nat.le_refl _) (fun k hk e => by omega)) (Nat.le_refl _) hcj)
        have hcn : (countN came idom).length = idom.length := countL_len _ _
        have hrc := own_below HRD.out hbw
        obtain ⟨hcc, _⟩ := row_nat hrc (j := b) (by rw [hcn]; exact hbn)
        have hcb := HS.out.count came.reverse (List.prefix_refl _) b
        change (countN came idom).getD b 0 ≤ 1000 at hcb
        have hnl := (spanTo_len came idom j).1
        have hal := (spanTo_len came idom j).2
        obtain ⟨hnc, hnf⟩ := row_nat hrn (j := b) (by rw [hnl]; exact hbn)
        obtain ⟨⟨ha1, ha2⟩, ha3, ha4⟩ := OwnRanges.cells hra (b := b) (by rw [hal]; exact hbn)
        have kc := (boxed_below HCB.out hbw).cell
        have ki := (boxed_below HIB.out hbw).cell
        have HRN := Lib.hid hrn
        have HRA := Lib.hid hra
        have HBF := Lib.hid hbw
        have hnx := HS.out.next j
        generalize hst : spanTo came idom j = st at *
        generalize hxe : (countN came idom).getD b 0 = x at *
        have HXE := Lib.hid hxe
        generalize hy1 : st.2[b].1 = y1 at *
        generalize hy2 : st.2[b].2 = y2 at *
        clear hy1 hy2 hrn hra hbw hrc hxe
        by_cases hb0 : b = 0
        · have hb1 : ((b : Int) != 0) = false := by rw [hb0]; rfl
          have HSB := Lib.hid (show spanTo came idom (j + 1) = (st.1.set b 1, st.2.set b (0, (x : Int))) by
            rw [HSS.out]; unfold spanStep; simp only [if_pos hb0, Nat.zero_add, HXE.out]; rfl)
          clear hb0
          generalize st.1.getD b 0 = z at *
          gi_wp2
          go_roundw
          case rel =>
            obtain ⟨h1, h2⟩ := span_put HRN.out HRA.out (by omega) b (0, (x : Int)) 1
            refine ⟨j + 1, by omega, by go_num, by rw [HSB.out]; show OwnInts _ _ _ (li (st.1.set b 1)); rw [li_set]; exact h1, by rw [HSB.out]; exact h2, ?_⟩
            exact ((HBF.out.setCell (p := ⟨W8.heap.size, b * 2, none⟩) (by show W.heap.size ≤ W8.heap.size; omega) _).setCell (p := ⟨W8.heap.size, b * 2 + 1, none⟩) (by show W.heap.size ≤ W8.heap.size; omega) _).setCell (p := ⟨W.heap.size, b, none⟩) (Nat.le_refl _) _
          case measure => simp [intOf]; omega
        · obtain ⟨a, hia, han⟩ := HS.out.up b hbm hb0
          obtain ⟨ad2, rfl, hic⟩ := HI.out b hbn
          have hie : idom[b] = (a : Int) := by rw [← hia, List.getD_eq_getElem?_getD, List.getElem?_eq_getElem hbn]; rfl
          rw [hie] at hic
          have hic2 : wo.cell? (ad2.add b) = some (.int .i64 a) := cell_keep HBF.out (by have := lt_of_cell hic; omega) (cell_keep (HFR.out.below (B := w.heap.size) (Nat.le_refl _) (fun k hk e => by omega)) (Nat.le_refl _) hic)
          have HIC := Lib.hid hic2
          have hb1 : ((b : Int) != 0) = true := by rw [bne_iff_ne]; omega
          have HSB := Lib.hid (show spanTo came idom (j + 1) = ((st.1.set a (st.1.getD a 0 + x)).set b (st.1.getD a 0 + 1), st.2.set b ((st.1.getD a 0 : Int), ((st.1.getD a 0 + x : Nat) : Int))) by
            rw [HSS.out]; unfold spanStep; simp only [if_neg hb0, hia, Int.toNat_natCast, HXE.out])
          obtain ⟨hnc2, hnf2⟩ := row_nat HRN.out (j := a) (by rw [hnl]; exact han)
          have hnx2 := hnx a
          generalize st.1.getD a 0 = f at *
          generalize st.1.getD b 0 = z at *
          clear hie hic hb0 hia
          gi_wp2
          refine region_tail lets_wide 13 (by kernel_rfl) (by kernel_rfl) (fun _ W0 h => by obtain ⟨_, e, _⟩ := (show ∃ v, Ending.outgrown = .returned v ∧ OwnRanges w.heap.size W0 v (spansN came idom) ∧ Below w.heap.size w W0 from h); cases e) (by kernel_rfl) ?_
          simp only [List.take_succ_cons, List.take_zero, List.drop_succ_cons, List.drop_zero]
          repeat still_step
          refine wpStill_nil ?_
          go_wp2
          obtain ⟨W6, hW6⟩ : ∃ W6, (wo.setCell ⟨W.heap.size, a, none⟩ (.int .i64 ((f : Int) + (x : Int)))).drew = W6 := ⟨_, rfl⟩
          rw [hW6]
          have hb6 : Below W.heap.size W W6 := by rw [← hW6]; exact (HBF.out.setCell (p := ⟨W.heap.size, a, none⟩) (Nat.le_refl _) _).drew
          have hn6 : OwnInts W.heap.size W6 (.slice (some ⟨W.heap.size, 0, none⟩) idom.length idom.length) (li (st.1.set a (f + x))) := by
            rw [← hW6, li_set, show (((f + x : Nat)) : Int) = (f : Int) + (x : Int) from rfl]
            exact World.ownsRow.drew (OwnInts.stored HRN.out a _).1
          have ha6 : OwnRanges W.heap.size W6 (.slice (some ⟨W8.heap.size, 0, none⟩) idom.length idom.length) st.2 := by
            rw [← hW6]
            exact World.ownsRow.drew (World.ownsRow.kept HRA.out (setCell_grownBy _ ⟨W.heap.size, a, none⟩ _) (Or.inr (fun e => by injection e with e; dsimp only at e; omega)))
          clear hW6 hnc hnf ha1 ha2 ha3 ha4 kc ki hnc2 hnf2 hcc
          have hrc := own_below HRD.out hb6
          have hcc := (row_nat hrc (j := b) (by rw [hcn]; exact hbn)).1
          rw [HXE.out] at hcc
          obtain ⟨hnc, hnf⟩ := row_nat hn6 (j := b) (by rw [List.length_set, hnl]; exact hbn)
          obtain ⟨⟨ha1, ha2⟩, ha3, ha4⟩ := OwnRanges.cells ha6 (b := b) (by rw [hal]; exact hbn)
          have kc := (boxed_below HCB.out hb6).cell
          have ki := (boxed_below HIB.out hb6).cell
          have HN6 := Lib.hid hn6
          have HA6 := Lib.hid ha6
          have HB6 := Lib.hid hb6
          generalize (st.1.set a (f + x)).getD b 0 = z2 at *
          generalize st.2[b].1 = y3 at *
          generalize st.2[b].2 = y4 at *
          clear hn6 ha6 hb6 hrc
          gi_wp2
          go_roundw
          case rel =>
            obtain ⟨h1, h2⟩ := span_put HN6.out HA6.out (by omega) b ((f : Int), ((f + x : Nat) : Int)) ((f : Int) + 1)
            refine ⟨j + 1, by omega, by go_num, by rw [HSB.out]; show OwnInts _ _ _ (li ((st.1.set a (f + x)).set b (f + 1))); rw [li_set]; exact h1, by rw [HSB.out]; exact h2, ?_⟩
            exact ((HB6.out.setCell (p := ⟨W8.heap.size, b * 2, none⟩) (by show W.heap.size ≤ W8.heap.size; omega) _).setCell (p := ⟨W8.heap.size, b * 2 + 1, none⟩) (by show W.heap.size ≤ W8.heap.size; omega) _).setCell (p := ⟨W.heap.size, b, none⟩) (Nat.le_refl _) _
          case measure => simp [intOf]; omega
      · obtain rfl : j = came.length := by omega
        have HRA := Lib.hid hra
        have HBF := Lib.hid hbw
        clear hrn hra hbw
        gi_wp2
        have hDl : D < W.heap.size := (Array.getElem?_eq_some_iff.1 HK.out).1
        have hK2 := (HBF.out.block D hDl).trans HK.out
        have hg := grownBy_putObj' wo D (.deferred none)
        refine ⟨by simp, .inl ⟨_, _, rfl, run_takeDeferred hK2, ?_⟩⟩
        refine ⟨_, results_tmp rfl _ _ _, _, rfl, ?_, ?_⟩
        · have h := World.ownsRow.kept HRA.out hg (own_notcells HRA.out (fun r e => by cases e; exact ⟨_, hK2, rfl⟩))
          exact own_base h hwW
        · have h1 : Below w.heap.size w wo := (HFR.out.below (B := w.heap.size) (Nat.le_refl _) (fun k hk e => by omega)).trans (HBF.out.mono hwW)
          exact h1.grown hg h1.size (fun k hk => by injection hk with hk; omega)
  case stop =>
    rintro D c pre W _ _ h _
    exact h.elim
end Go.Proofs.Ythanbedmiaacdaa.Gc
