/- The plain mathematics of graphs: ways, dominators, spans of a dominator tree. -/
import Derived.Test.YtdfehpcbcgbidaaIdomC
import Derived.Test.YtdfehpcbcgbidaaOfC
import Derived.Test.YtdfehpcbcgbidaaBackQ
namespace Go.Proofs.Ytdfehpcbcgbidaa.Br
end Go.Proofs.Ytdfehpcbcgbidaa.Br
namespace Go.Proofs.Ytdfehpcbcgbidaa.Gc
end Go.Proofs.Ytdfehpcbcgbidaa.Gc
namespace Go.Proofs.Ytdfehpcbcgbidaa.Gn
end Go.Proofs.Ytdfehpcbcgbidaa.Gn
namespace Go.Proofs.Ytdfehpcbcgbidaa.Gr
end Go.Proofs.Ytdfehpcbcgbidaa.Gr
namespace Go.Proofs.Ytdfehpcbcgbidaa.Mem
end Go.Proofs.Ytdfehpcbcgbidaa.Mem
namespace Go.Proofs.Ytdfehpcbcgbidaa.Rp
end Go.Proofs.Ytdfehpcbcgbidaa.Rp
section
namespace Go.Proofs.Ytdfehpcbcgbidaa.Rp
open Go.ChangeShapes Go.WideShapes Go.ChangeAt Go.RowKit Go.Proofs.Ytdfehpcbcgbidaa.Mem Go.Proofs.Ytdfehpcbcgbidaa.Br
set_option linter.unusedVariables false
/-- A range's two cells. -/
def rg (p : Int × Int) : List Value := [.int .i64 p.1, .int .i64 p.2]
/-- A row of ranges of the call's own. -/
def OwnRanges (B : Nat) (w : World) (v : Value) (l : List (Int × Int)) : Prop := w.ownsRow B 121 2 v l.length (l.map rg).flatten
theorem rep_rg (n : Nat) (p : Int × Int) : rep n (rg p) = ((List.replicate n p).map rg).flatten := by unfold rep; rw [List.map_replicate]
theorem toList_madeCells_two (v : Value) (n : Nat) : (madeCells #[v, v] (n * 2)).toList = rep n [v, v] := by
  have h1 : rep n [v, v] = List.replicate (n * 2) v := by
    unfold rep
    induction n with
    | zero => rfl
    | succ n ih => rw [List.replicate_succ, List.flatten_cons, ih, show (n + 1) * 2 = n * 2 + 1 + 1 by omega, List.replicate_succ, List.replicate_succ]; rfl
  rw [h1]
  apply List.ext_getElem?
  intro j
  by_cases hj : j < n * 2
  · rw [List.getElem?_replicate, if_pos hj]
    have h2 : j % 2 = 0 ∨ j % 2 = 1 := by omega
    rcases h2 with h2 | h2 <;> simp [madeCells, hj, h2]
  · simp [madeCells, hj]
theorem info_range2 : (Try.prog.info? 121).map (fun i => (i.zero, i.size, i.bytes)) = some (some (.agg #[.int .i64 0, .int .i64 0]), 2, 16) := by kernel_rfl
end Go.Proofs.Ytdfehpcbcgbidaa.Rp
end
section
namespace Go.Proofs.Ytdfehpcbcgbidaa.Gc
open Go.ChangeShapes Go.WideShapes Go.ChangeAt Go.RowKit Go.Shelf Go.Proofs.Ytdfehpcbcgbidaa.Mem Go.Proofs.Ytdfehpcbcgbidaa.Gr Go.Proofs.Ytdfehpcbcgbidaa.Gn Go.Proofs.Ytdfehpcbcgbidaa.Br Go.Proofs.Ytdfehpcbcgbidaa.Rp
set_option linter.unusedVariables false
attribute [local go_sem] Oper.semAt_some
def countL (idom : List Int) (l : List Nat) : List Nat := l.foldl (countStep idom) (List.replicate idom.length 0)
theorem countL_snoc (idom : List Int) (l : List Nat) (b : Nat) : countL idom (l ++ [b]) = countStep idom (countL idom l) b := by unfold countL; rw [List.foldl_append]; rfl
theorem countStep_len (idom : List Int) (c : List Nat) (b : Nat) : (countStep idom c b).length = c.length := by
  unfold countStep
  simp only
  split
  · rw [List.length_set]
  · rw [List.length_set, List.length_set]
theorem countL_len (idom : List Int) (l : List Nat) : (countL idom l).length = idom.length := by
  unfold countL
  have : ∀ (l : List Nat) (c : List Nat), (l.foldl (countStep idom) c).length = c.length := by
    intro l
    induction l with
    | nil => intro c; rfl
    | cons b l ih => intro c; rw [List.foldl_cons, ih, countStep_len]
  rw [this, List.length_replicate]
/-- The same, as the machine counts. -/
def cstep (idom : List Int) (c : List Int) (b : Nat) : List Int :=
  if b = 0 then c.set b (wrap64 (c.getD b 0 + 1))
  else (c.set b (wrap64 (c.getD b 0 + 1))).set (idom.getD b 0).toNat (wrap64 ((c.set b (wrap64 (c.getD b 0 + 1))).getD (idom.getD b 0).toNat 0 + (c.set b (wrap64 (c.getD b 0 + 1))).getD b 0))
def countW (idom : List Int) (l : List Nat) : List Int := l.foldl (cstep idom) (List.replicate idom.length 0)
theorem countW_snoc (idom : List Int) (l : List Nat) (b : Nat) : countW idom (l ++ [b]) = cstep idom (countW idom l) b := by unfold countW; rw [List.foldl_append]; rfl
theorem cstep_len (idom : List Int) (c : List Int) (b : Nat) : (cstep idom c b).length = c.length := by
  unfold cstep
  split
  · rw [List.length_set]
  · rw [List.length_set, List.length_set]
theorem countW_len (idom : List Int) (l : List Nat) : (countW idom l).length = idom.length := by
  unfold countW
  have : ∀ (l : List Nat) (c : List Int), (l.foldl (cstep idom) c).length = c.length := by
    intro l
    induction l with
    | nil => intro c; rfl
    | cons b l ih => intro c; rw [List.foldl_cons, ih, cstep_len]
  rw [this, List.length_replicate]
/-- What spans asks of its rows. -/
structure Spanned (came : List Nat) (idom : List Int) : Prop where
  lt : ∀ b ∈ came, b < idom.length
  up : ∀ b ∈ came, b ≠ 0 → ∃ a : Nat, idom.getD b 0 = (a : Int) ∧ a < idom.length
  count : ∀ l, l <+: came.reverse → ∀ b, (countL idom l).getD b 0 ≤ 1000
  next : ∀ j b, (spanTo came idom j).1.getD b 0 ≤ 1000
theorem li_getD (l : List Nat) (j : Nat) : (li l).getD j 0 = ((l.getD j 0 : Nat) : Int) := by
  unfold li
  rw [List.getD_eq_getElem?_getD, List.getD_eq_getElem?_getD, List.getElem?_map]
  cases l[j]? <;> rfl
theorem wrap_small {x : Int} (h0 : 0 ≤ x) (h1 : x ≤ 1000000) : wrap64 x = x := IntWalk.wrap64_in x (by omega)
theorem cstep_is (idom : List Int) (c : List Nat) (b : Nat) (hc : ∀ j, c.getD j 0 ≤ 1000) : cstep idom (li c) b = li (countStep idom c b) := by
  unfold cstep countStep
  have h1 : wrap64 ((li c).getD b 0 + 1) = ((c.getD b 0 + 1 : Nat) : Int) := by
    rw [li_getD, wrap_small (by omega) (by have := hc b; omega)]; rfl
  simp only [h1, ← li_set]
  by_cases hb : b = 0
  · rw [if_pos hb, if_pos hb]
  · rw [if_neg hb, if_neg hb, li_getD, li_getD]
    have hd : ∀ j, (c.set b (c.getD b 0 + 1)).getD j 0 ≤ 1001 := by
      intro j
      rw [getD_set]
      split
      · have := hc b; omega
      · have := hc j; omega
    have h2 := hd (idom.getD b 0).toNat
    have h3 := hd b
    generalize (c.set b (c.getD b 0 + 1)).getD (idom.getD b 0).toNat 0 = x at *
    generalize (c.set b (c.getD b 0 + 1)).getD b 0 = y at *
    rw [wrap_small (by omega) (by omega), show ((x : Int) + (y : Int)) = ((x + y : Nat) : Int) from by omega, li_set, li_set, li_set]
theorem countW_is {came : List Nat} {idom : List Int} (hs : Spanned came idom) : countW idom came.reverse = li (countN came idom) := by
  have : ∀ j, j ≤ came.reverse.length → countW idom (came.reverse.take j) = li (countL idom (came.reverse.take j)) := by
    intro j
    induction j with
    | zero =>
      intro _
      show List.replicate _ (0 : Int) = li (List.replicate _ 0)
      unfold li; rw [List.map_replicate]; rfl
    | succ j ih =>
      intro hj
      rw [List.take_succ_eq_append_getElem (by omega), countW_snoc, countL_snoc, ih (by omega)]
      exact cstep_is _ _ _ (hs.count _ (List.take_prefix _ _))
  have h := this _ (Nat.le_refl _)
  rw [List.take_length] at h
  exact h
theorem rgs_at (l : List (Int × Int)) : ∀ (b : Nat), (l.map rg).flatten[b * 2]? = (l[b]?).map (fun p => Value.int .i64 p.1) ∧ (l.map rg).flatten[b * 2 + 1]? = (l[b]?).map (fun p => Value.int .i64 p.2) := by
  induction l with
  | nil => intro b; simp
  | cons p l ih =>
    intro b
    rw [List.map_cons, List.flatten_cons]
    cases b with
    | zero => exact ⟨rfl, rfl⟩
    | succ b =>
      obtain ⟨h1, h2⟩ := ih b
      rw [show (b + 1) * 2 = b * 2 + 2 by omega]
      exact ⟨h1, h2⟩
theorem rgs_set (l : List (Int × Int)) (p : Int × Int) : ∀ (b : Nat), ((l.map rg).flatten.set (b * 2) (.int .i64 p.1)).set (b * 2 + 1) (.int .i64 p.2) = ((l.set b p).map rg).flatten := by
  induction l with
  | nil => intro b; simp
  | cons q l ih =>
    intro b
    rw [List.map_cons, List.flatten_cons]
    cases b with
    | zero => rfl
    | succ b =>
      rw [show (b + 1) * 2 = b * 2 + 2 by omega, List.set_cons_succ, List.map_cons, List.flatten_cons, ← ih b]
      rfl
theorem OwnRanges.put {B : Nat} {w : World} {g n c : Nat} {l : List (Int × Int)} (h : OwnRanges B w (.slice (some ⟨g, 0, none⟩) n c) l) (b : Nat) (p : Int × Int) :
    OwnRanges B ((w.setCell ⟨g, b * 2, none⟩ (.int .i64 p.1)).setCell ⟨g, b * 2 + 1, none⟩ (.int .i64 p.2)) (.slice (some ⟨g, 0, none⟩) n c) (l.set b p) := by
  have hn : n = l.length := by
    rcases h.2 with ⟨e, _⟩ | ⟨_, _, _, e, _⟩
    · cases e
    · injection e
  subst hn
  have h1 := (World.ownsRow.stored h (b * 2) (.int .i64 p.1)).1
  have h2 := (World.ownsRow.stored h1 (b * 2 + 1) (.int .i64 p.2)).1
  unfold OwnRanges
  rw [List.length_set, ← rgs_set]
  exact h2
theorem OwnRanges.cells {B : Nat} {w : World} {g n c : Nat} {l : List (Int × Int)} (h : OwnRanges B w (.slice (some ⟨g, 0, none⟩) n c) l) {b : Nat} (hb : b < l.length) :
    (w.cell? ⟨g, b * 2, none⟩ = some (.int .i64 l[b].1) ∧ w.cell? ⟨g, b * 2 + 1, none⟩ = some (.int .i64 l[b].2)) ∧ w.frozen? ⟨g, b * 2, none⟩ = false ∧ w.frozen? ⟨g, b * 2 + 1, none⟩ = false := by
  have hn : n = l.length := by
    rcases h.2 with ⟨e, _⟩ | ⟨_, _, _, e, _⟩
    · cases e
    · injection e
  subst hn
  obtain ⟨h1, h2⟩ := rgs_at l b
  rw [List.getElem?_eq_getElem hb] at h1 h2
  exact ⟨⟨by rw [World.ownsRow.cellAt h _ (by omega), h1]; rfl, by rw [World.ownsRow.cellAt h _ (by omega), h2]; rfl⟩, World.ownsRow.frozenAt h _, World.ownsRow.frozenAt h _⟩
theorem span_put {B : Nat} {w : World} {g h n c m d : Nat} {l : List Int} {r : List (Int × Int)} (hn : OwnInts B w (.slice (some ⟨g, 0, none⟩) n c) l) (hr : OwnRanges B w (.slice (some ⟨h, 0, none⟩) m d) r) (hgh : g ≠ h) (b : Nat) (p : Int × Int) (y : Int) :
    OwnInts B (((w.setCell ⟨h, b * 2, none⟩ (.int .i64 p.1)).setCell ⟨h, b * 2 + 1, none⟩ (.int .i64 p.2)).setCell ⟨g, b, none⟩ (.int .i64 y)) (.slice (some ⟨g, 0, none⟩) n c) (l.set b y) ∧
    OwnRanges B (((w.setCell ⟨h, b * 2, none⟩ (.int .i64 p.1)).setCell ⟨h, b * 2 + 1, none⟩ (.int .i64 p.2)).setCell ⟨g, b, none⟩ (.int .i64 y)) (.slice (some ⟨h, 0, none⟩) m d) (r.set b p) := by
  have e1 : (Value.slice (some ⟨g, 0, none⟩) n c).ownBlock = none ∨ (Value.slice (some ⟨g, 0, none⟩) n c).ownBlock ≠ some h := Or.inr (fun e => by injection e with e; exact hgh e)
  have e2 : (Value.slice (some ⟨h, 0, none⟩) m d).ownBlock = none ∨ (Value.slice (some ⟨h, 0, none⟩) m d).ownBlock ≠ some g := Or.inr (fun e => by injection e with e; exact hgh e.symm)
  have h1 := World.ownsRow.kept (World.ownsRow.kept hn (setCell_grownBy w ⟨h, b * 2, none⟩ (.int .i64 p.1)) e1) (setCell_grownBy _ ⟨h, b * 2 + 1, none⟩ (.int .i64 p.2)) e1
  exact ⟨(OwnInts.stored h1 b y).1, World.ownsRow.kept (OwnRanges.put hr b p) (setCell_grownBy _ ⟨g, b, none⟩ (.int .i64 y)) e2⟩
theorem spanTo_succ {came : List Nat} {idom : List Int} {j : Nat} (h : j < came.length) : spanTo came idom (j + 1) = spanStep idom (countN came idom) (spanTo came idom j) came[j] := by
  unfold spanTo
  rw [List.take_succ_eq_append_getElem h, List.foldl_append]; rfl
theorem spanStep_len (idom : List Int) (count : List Nat) (s : List Nat × List (Int × Int)) (b : Nat) : (spanStep idom count s b).1.length = s.1.length ∧ (spanStep idom count s b).2.length = s.2.length := by
  unfold spanStep
  refine ⟨?_, by simp⟩
  simp only [List.length_set]
  split
  · rfl
  · rw [List.length_set]
theorem spanTo_len (came : List Nat) (idom : List Int) (j : Nat) : (spanTo came idom j).1.length = idom.length ∧ (spanTo came idom j).2.length = idom.length := by
  unfold spanTo
  have : ∀ (l : List Nat) (s : List Nat × List (Int × Int)), (l.foldl (spanStep idom (countN came idom)) s).1.length = s.1.length ∧ (l.foldl (spanStep idom (countN came idom)) s).2.length = s.2.length := by
    intro l
    induction l with
    | nil => intro s; exact ⟨rfl, rfl⟩
    | cons b l ih => intro s; rw [List.foldl_cons]; obtain ⟨h1, h2⟩ := ih (spanStep idom (countN came idom) s b); obtain ⟨h3, h4⟩ := spanStep_len idom (countN came idom) s b; exact ⟨h1.trans h3, h2.trans h4⟩
  obtain ⟨h1, h2⟩ := this (came.take j) (List.replicate idom.length 0, List.replicate idom.length (-1, -1))
  exact ⟨by rw [h1]; simp, by rw [h2]; simp⟩
/-- The counts, their box and that of idom, on the way from W0 in the same round. -/
structure Counts (n x5 : Nat) (w : World) (vi : Value) (cb : Nat) (K : Nat → Prop) (W0 W : World) (c : List Int) : Prop where
  row : OwnInts (w.heap.size + 1) W (.slice (some ⟨cb, 0, none⟩) n n) c
  cbox : Boxed W x5 28 (.slice (some ⟨cb, 0, none⟩) n n)
  ibox : Boxed W w.heap.size 28 vi
  fr : Fr (fun j => j = cb) w W
  others : KeepsOthers W0 W
  kept : KeptP K W0 W
theorem Counts.drew {n x5 : Nat} {w : World} {vi : Value} {cb : Nat} {K : Nat → Prop} {W0 W : World} {c : List Int} (h : Counts n x5 w vi cb K W0 W c) : Counts n x5 w vi cb K W0 W.drew c :=
  ⟨h.row, h.cbox, h.ibox, ⟨h.fr.os, h.fr.tape, h.fr.output, h.fr.size, h.fr.block⟩, h.others.trans (KeepsOthers.drew _), h.kept⟩
theorem Counts.put {n x5 : Nat} {w : World} {vi : Value} {cb : Nat} {K : Nat → Prop} {W0 W : World} {c : List Int} (h : Counts n x5 w vi cb K W0 W c) (h5 : x5 ≠ cb) (h0 : w.heap.size ≠ cb) (hK : ¬ K cb) (j : Nat) (y : Int) :
    Counts n x5 w vi cb K W0 (W.setCell ⟨cb, j, none⟩ (.int .i64 y)) (c.set j y) := by
  have hg := setCell_grownBy W ⟨cb, j, none⟩ (.int .i64 y)
  refine ⟨(h.row.stored j y).1, (Below.heap_setCell _ _ _ _ h5).trans h.cbox, (Below.heap_setCell _ _ _ _ h0).trans h.ibox, ?_, h.others.trans (KeepsOthers.setCell _ _ _), ?_⟩
  · exact h.fr.trans (Fr.of_grown (S := fun j => j = cb) hg (fun k e _ => by injection e with e; exact e.symm)) (fun i _ e => e)
  · exact h.kept.trans fun i hi => Below.heap_setCell _ _ _ _ (by intro e; rw [e] at hi; exact hK hi)
end Go.Proofs.Ytdfehpcbcgbidaa.Gc
end
section
namespace Go.Proofs.Ytdfehpcbcgbidaa.Gr
open Go.ChangeShapes Go.WideShapes Go.ChangeAt Go.RowKit Go.Proofs.Ytdfehpcbcgbidaa.Mem
set_option linter.unusedVariables false
/-- Does an edge go from a to b? -/
def edgeB (g : List (List Int)) (a b : Int) : Bool := decide (0 ≤ a ∧ a < g.length ∧ 0 ≤ b ∧ b < g.length) && (g.getD a.toNat []).contains b
end Go.Proofs.Ytdfehpcbcgbidaa.Gr
end
section
namespace Go.Proofs.Ytdfehpcbcgbidaa.Gr
open Go.ChangeShapes Go.WideShapes Go.ChangeAt Go.RowKit Go.Proofs.Ytdfehpcbcgbidaa.Mem
set_option linter.unusedVariables false
/-- The blocks below k that edges go to from a. -/
def nextTo (g : List (List Int)) (a : Int) (k : Nat) : List Int := ((List.range k).filter fun b : Nat => edgeB g a b).map fun b : Nat => (b : Int)
def nextL (g : List (List Int)) (a : Int) : List Int := nextTo g a g.length
end Go.Proofs.Ytdfehpcbcgbidaa.Gr
end
section
namespace Go.Proofs.Ytdfehpcbcgbidaa.Gr
open Go.ChangeShapes Go.WideShapes Go.ChangeAt Go.RowKit Go.Proofs.Ytdfehpcbcgbidaa.Mem
set_option linter.unusedVariables false
/-- One block that is come to. -/
def mark (gone : Int) (o : List Bool) (b : Int) : List Bool := o.set b.toNat (o.getD b.toNat false || b != gone)
def marks (g : List (List Int)) (gone a : Int) (o : List Bool) (k : Nat) : List Bool := ((nextL g a).take k).foldl (mark gone) o
def sweepAt (g : List (List Int)) (gone : Int) (o : List Bool) (a : Nat) : List Bool := if o.getD a false then marks g gone a o (nextL g a).length else o
def sweep (g : List (List Int)) (gone : Int) (o : List Bool) (k : Nat) : List Bool := (List.range k).foldl (sweepAt g gone) o
def sweeps (g : List (List Int)) (gone : Int) : Nat → List Bool
  | 0 => (List.replicate g.length false).set 0 true
  | k + 1 => sweep g gone (sweeps g gone k) g.length
def withoutL (g : List (List Int)) (gone : Int) : List Bool := if g.length = 0 ∨ gone = 0 then List.replicate g.length false else sweeps g gone g.length
theorem mark_len (gone : Int) (o : List Bool) (b : Int) : (mark gone o b).length = o.length := by unfold mark; rw [List.length_set]
theorem foldl_len {α : Type} (f : List Bool → α → List Bool) (h : ∀ o a, (f o a).length = o.length) : ∀ (l : List α) (o : List Bool), (l.foldl f o).length = o.length
  | [], o => rfl
  | a :: l, o => by rw [List.foldl_cons, foldl_len f h l, h]
theorem marks_len (g : List (List Int)) (gone a : Int) (o : List Bool) (k : Nat) : (marks g gone a o k).length = o.length := foldl_len _ (mark_len gone) _ _
theorem sweepAt_len (g : List (List Int)) (gone : Int) (o : List Bool) (a : Nat) : (sweepAt g gone o a).length = o.length := by
  unfold sweepAt; split
  · exact marks_len _ _ _ _ _
  · rfl
theorem sweep_len (g : List (List Int)) (gone : Int) (o : List Bool) (k : Nat) : (sweep g gone o k).length = o.length := foldl_len _ (sweepAt_len g gone) _ _
theorem sweep_succ (g : List (List Int)) (gone : Int) (o : List Bool) (k : Nat) : sweep g gone o (k + 1) = sweepAt g gone (sweep g gone o k) k := by
  unfold sweep; rw [List.range_succ, List.foldl_append]; rfl
theorem sweeps_len (g : List (List Int)) (gone : Int) : ∀ k, (sweeps g gone k).length = g.length
  | 0 => by simp [sweeps]
  | k + 1 => by rw [sweeps, sweep_len, sweeps_len g gone k]
end Go.Proofs.Ytdfehpcbcgbidaa.Gr
end
section
namespace Go.Proofs.Ytdfehpcbcgbidaa.Gc
open Go.ChangeShapes Go.WideShapes Go.ChangeAt Go.RowKit Go.Shelf Go.Proofs.Ytdfehpcbcgbidaa.Mem Go.Proofs.Ytdfehpcbcgbidaa.Gr Go.Proofs.Ytdfehpcbcgbidaa.Gn Go.Proofs.Ytdfehpcbcgbidaa.Br Go.Proofs.Ytdfehpcbcgbidaa.Rp
set_option linter.unusedVariables false
end Go.Proofs.Ytdfehpcbcgbidaa.Gc
end
section
namespace Go.Proofs.Ytdfehpcbcgbidaa.Gc
open Go.ChangeShapes Go.WideShapes Go.ChangeAt Go.RowKit Go.Shelf Go.Proofs.Ytdfehpcbcgbidaa.Mem Go.Proofs.Ytdfehpcbcgbidaa.Gr Go.Proofs.Ytdfehpcbcgbidaa.Gn Go.Proofs.Ytdfehpcbcgbidaa.Br Go.Proofs.Ytdfehpcbcgbidaa.Rp
set_option linter.unusedVariables false
theorem domTo_len (s : St) (half : List Nat) : ∀ j, (domTo s half j).2.length = s.number.length
  | 0 => by unfold domTo; simp
  | j + 1 => by rw [domTo_succ]; show ((domTo s half j).2.set _ _).length = _; rw [List.length_set]; exact domTo_len s half j
end Go.Proofs.Ytdfehpcbcgbidaa.Gc
end
section
namespace Go.Proofs.Ytdfehpcbcgbidaa.Gc
open Go.ChangeShapes Go.WideShapes Go.ChangeAt Go.RowKit Go.Proofs.Ytdfehpcbcgbidaa.Mem Go.Proofs.Ytdfehpcbcgbidaa.Gr Go.Proofs.Ytdfehpcbcgbidaa.Gn
set_option linter.unusedVariables false
end Go.Proofs.Ytdfehpcbcgbidaa.Gc
end
section
namespace Go.Proofs.Ytdfehpcbcgbidaa.Gc
open Go.ChangeShapes Go.WideShapes Go.ChangeAt Go.RowKit Go.Shelf Go.Proofs.Ytdfehpcbcgbidaa.Mem Go.Proofs.Ytdfehpcbcgbidaa.Gr Go.Proofs.Ytdfehpcbcgbidaa.Gn Go.Proofs.Ytdfehpcbcgbidaa.Br Go.Proofs.Ytdfehpcbcgbidaa.Rp
set_option linter.unusedVariables false
theorem getD_at {α : Type} {l : List α} {i : Nat} (h : i < l.length) (d : α) : l.getD i d = l[i] := by rw [List.getD_eq_getElem?_getD, List.getElem?_eq_getElem h]; rfl
end Go.Proofs.Ytdfehpcbcgbidaa.Gc
end
section
namespace Go.Proofs.Ytdfehpcbcgbidaa.Gc
open Go.ChangeShapes Go.WideShapes Go.ChangeAt Go.RowKit Go.Shelf Go.Proofs.Ytdfehpcbcgbidaa.Mem Go.Proofs.Ytdfehpcbcgbidaa.Gr Go.Proofs.Ytdfehpcbcgbidaa.Gn Go.Proofs.Ytdfehpcbcgbidaa.Br Go.Proofs.Ytdfehpcbcgbidaa.Rp
set_option linter.unusedVariables false
attribute [local go_sem] Oper.semAt_some
end Go.Proofs.Ytdfehpcbcgbidaa.Gc
end
section
namespace Go.Proofs.Ytdfehpcbcgbidaa.Gc
open Go.ChangeShapes Go.WideShapes Go.ChangeAt Go.RowKit Go.Shelf Go.Proofs.Ytdfehpcbcgbidaa.Mem Go.Proofs.Ytdfehpcbcgbidaa.Gr Go.Proofs.Ytdfehpcbcgbidaa.Gn Go.Proofs.Ytdfehpcbcgbidaa.Br Go.Proofs.Ytdfehpcbcgbidaa.Rp
set_option linter.unusedVariables false
attribute [local go_sem] Oper.semAt_some
def pr (e : Nat × Nat) : Int × Int := ((e.1 : Int), (e.2 : Int))
end Go.Proofs.Ytdfehpcbcgbidaa.Gc
end
section
namespace Go.Proofs.Ytdfehpcbcgbidaa.Gc
open Go.ChangeShapes Go.WideShapes Go.ChangeAt Go.RowKit Go.Shelf Go.Proofs.Ytdfehpcbcgbidaa.Mem Go.Proofs.Ytdfehpcbcgbidaa.Gr Go.Proofs.Ytdfehpcbcgbidaa.Gn Go.Proofs.Ytdfehpcbcgbidaa.Br Go.Proofs.Ytdfehpcbcgbidaa.Rp
set_option linter.unusedVariables false
attribute [local go_sem] Oper.semAt_some
end Go.Proofs.Ytdfehpcbcgbidaa.Gc
end
section
namespace Go.Proofs.Ytdfehpcbcgbidaa.Gc
open Go.ChangeShapes Go.WideShapes Go.ChangeAt Go.RowKit Go.Shelf Go.Proofs.Ytdfehpcbcgbidaa.Mem Go.Proofs.Ytdfehpcbcgbidaa.Gr Go.Proofs.Ytdfehpcbcgbidaa.Gn Go.Proofs.Ytdfehpcbcgbidaa.Br Go.Proofs.Ytdfehpcbcgbidaa.Rp
set_option linter.unusedVariables false
end Go.Proofs.Ytdfehpcbcgbidaa.Gc
end
section
namespace Go.Proofs.Ytdfehpcbcgbidaa.Gc
open Go.ChangeShapes Go.WideShapes Go.ChangeAt Go.RowKit Go.Shelf Go.Proofs.Ytdfehpcbcgbidaa.Mem Go.Proofs.Ytdfehpcbcgbidaa.Gr Go.Proofs.Ytdfehpcbcgbidaa.Gn Go.Proofs.Ytdfehpcbcgbidaa.Br Go.Proofs.Ytdfehpcbcgbidaa.Rp
set_option linter.unusedVariables false
end Go.Proofs.Ytdfehpcbcgbidaa.Gc
end
section
namespace Go.Proofs.Ytdfehpcbcgbidaa.Gc
open Go.ChangeShapes Go.WideShapes Go.ChangeAt Go.RowKit Go.Shelf Go.Proofs.Ytdfehpcbcgbidaa.Mem Go.Proofs.Ytdfehpcbcgbidaa.Gr Go.Proofs.Ytdfehpcbcgbidaa.Gn Go.Proofs.Ytdfehpcbcgbidaa.Br Go.Proofs.Ytdfehpcbcgbidaa.Rp
set_option linter.unusedVariables false
/-- What spans asks, reckoned. -/
def spannedB (came : List Nat) (idom : List Int) : Bool :=
  (came.all fun b => decide (b < idom.length)) && (came.all fun b => b == 0 || (decide (0 ≤ idom.getD b 0) && decide ((idom.getD b 0).toNat < idom.length))) &&
  ((List.range (came.length + 1)).all fun j => (countL idom (came.reverse.take j)).all fun x => decide (x ≤ 1000)) &&
  ((List.range (came.length + 1)).all fun j => (spanTo came idom j).1.all fun x => decide (x ≤ 1000))
theorem getD_all {l : List Nat} (h : l.all (fun x => decide (x ≤ 1000)) = true) (b : Nat) : l.getD b 0 ≤ 1000 := by
  rw [List.getD_eq_getElem?_getD]
  rcases hb : l[b]? with _ | x
  · exact Nat.zero_le _
  · exact of_decide_eq_true (List.all_eq_true.1 h x (List.mem_of_getElem? hb))
theorem spanned_of {came : List Nat} {idom : List Int} (h : spannedB came idom = true) : Spanned came idom := by
  unfold spannedB at h
  rw [Bool.and_eq_true, Bool.and_eq_true, Bool.and_eq_true] at h
  obtain ⟨⟨⟨h1, h2⟩, h3⟩, h4⟩ := h
  refine ⟨fun b hb => of_decide_eq_true (List.all_eq_true.1 h1 b hb), fun b hb h0 => ?_, fun l hl b => ?_, fun j b => ?_⟩
  · have := List.all_eq_true.1 h2 b hb
    rw [Bool.or_eq_true, Bool.and_eq_true, beq_iff_eq, decide_eq_true_eq, decide_eq_true_eq] at this
    rcases this with h | ⟨h, k⟩
    · exact absurd h h0
    · exact ⟨(idom.getD b 0).toNat, by omega, k⟩
  · have e : l = came.reverse.take l.length := List.prefix_iff_eq_take.1 hl
    have hle : l.length ≤ came.length := by have := hl.length_le; rw [List.length_reverse] at this; exact this
    rw [e]
    exact getD_all (List.all_eq_true.1 h3 _ (List.mem_range.2 (by omega))) b
  · rcases Nat.lt_or_ge came.length j with hj | hj
    · have e : spanTo came idom j = spanTo came idom came.length := by
        unfold spanTo
        rw [List.take_of_length_le (Nat.le_of_lt hj), List.take_length]
      rw [e]
      exact getD_all (List.all_eq_true.1 h4 _ (List.mem_range.2 (by omega))) b
    · exact getD_all (List.all_eq_true.1 h4 _ (List.mem_range.2 (by omega))) b
end Go.Proofs.Ytdfehpcbcgbidaa.Gc
end
section
namespace Go.Proofs.Ytdfehpcbcgbidaa.Gr
open Go.ChangeShapes Go.WideShapes Go.ChangeAt Go.RowKit Go.Proofs.Ytdfehpcbcgbidaa.Mem
set_option linter.unusedVariables false
end Go.Proofs.Ytdfehpcbcgbidaa.Gr
end
section
namespace Go.Proofs.Ytdfehpcbcgbidaa.Gl
open Go.ChangeShapes Go.WideShapes Go.ChangeAt Go.RowKit Go.Proofs.Ytdfehpcbcgbidaa.Mem Go.Proofs.Ytdfehpcbcgbidaa.Gr Go.Proofs.Ytdfehpcbcgbidaa.Gn Go.Proofs.Ytdfehpcbcgbidaa.Gc
set_option linter.unusedVariables false
end Go.Proofs.Ytdfehpcbcgbidaa.Gl
end
section
namespace Go.Proofs.Ytdfehpcbcgbidaa.Gr
open Go.ChangeShapes Go.WideShapes Go.ChangeAt Go.RowKit Go.Proofs.Ytdfehpcbcgbidaa.Mem
set_option linter.unusedVariables false
/-- The blocks below k from which edges go to b. -/
def fromTo (g : List (List Int)) (b : Int) (k : Nat) : List Int := ((List.range k).filter fun a : Nat => edgeB g a b).map fun a : Nat => (a : Int)
def predsTo (g : List (List Int)) (k : Nat) : List (List Int) := (List.range k).map fun b : Nat => fromTo g b g.length
def predsL (g : List (List Int)) : List (List Int) := predsTo g g.length
end Go.Proofs.Ytdfehpcbcgbidaa.Gr
end
section
namespace Go.Proofs.Ytdfehpcbcgbidaa.Gr
open Go.ChangeShapes Go.WideShapes Go.ChangeAt Go.RowKit Go.Proofs.Ytdfehpcbcgbidaa.Mem
set_option linter.unusedVariables false
end Go.Proofs.Ytdfehpcbcgbidaa.Gr
end
section
namespace Go.Proofs.Ytdfehpcbcgbidaa.Gl
open Go.ChangeShapes Go.WideShapes Go.ChangeAt Go.RowKit Go.Proofs.Ytdfehpcbcgbidaa.Mem Go.Proofs.Ytdfehpcbcgbidaa.Gr Go.Proofs.Ytdfehpcbcgbidaa.Gn Go.Proofs.Ytdfehpcbcgbidaa.Gc
set_option linter.unusedVariables false
theorem contains_li {l : List Nat} {b : Nat} : (li l).contains (b : Int) = l.contains b := by
  unfold li
  rw [Bool.eq_iff_iff, List.contains_iff_mem, List.contains_iff_mem, List.mem_map]
  constructor
  · rintro ⟨x, hx, e⟩
    have : x = b := Int.ofNat.inj e
    exact this ▸ hx
  · intro h; exact ⟨b, h, rfl⟩
theorem lii_getD (T : G) (a : Nat) : (lii T).getD a [] = li (T.getD a []) := by
  unfold lii
  rw [List.getD_eq_getElem?_getD, List.getD_eq_getElem?_getD, List.getElem?_map]
  cases T[a]? <;> rfl
/-- An edge between numbers of blocks. -/
theorem edgeB_nat (g : List (List Int)) (a b : Nat) : edgeB g a b = (decide (a < g.length ∧ b < g.length) && (g.getD a []).contains (b : Int)) := by
  unfold edgeB
  rw [Int.toNat_natCast]
  congr 1
  exact decide_eq_decide.2 ⟨fun h => by omega, fun h => by omega⟩
theorem edgeB_lii (T : G) (a b : Nat) : edgeB (lii T) a b = (decide (a < T.length ∧ b < T.length) && (T.getD a []).contains b) := by
  rw [edgeB_nat, lii_getD, contains_li, lii_len]
theorem edge_lii_tidy (g : List (List Int)) (a b : Nat) : edgeB (lii (tidyN g)) a b = edgeB g a b := by
  rw [edgeB_lii, edgeB_nat, tidyN_len]
  by_cases h : a < g.length ∧ b < g.length
  · rw [decide_eq_true h, Bool.true_and, Bool.true_and, List.getD_eq_getElem?_getD, tidyN_get h.1, Option.getD_some, Bool.eq_iff_iff, List.contains_iff_mem, List.mem_filter, List.mem_range]
    exact ⟨fun x => x.2, fun x => ⟨h.2, x⟩⟩
  · rw [decide_eq_false h]; rfl
end Go.Proofs.Ytdfehpcbcgbidaa.Gl
end
section
namespace Go.Proofs.Ytdfehpcbcgbidaa.Gr
open Go.ChangeShapes Go.WideShapes Go.ChangeAt Go.RowKit Go.Proofs.Ytdfehpcbcgbidaa.Mem
set_option linter.unusedVariables false
/-- Is block a there, by a row of bools? -/
def has (l : List Bool) (a : Int) : Bool := decide (0 ≤ a ∧ a < l.length) && l.getD a.toNat false
def domB (g : List (List Int)) (a b : Int) : Bool := has (withoutL g (-1)) a && has (withoutL g (-1)) b && (a == b || !has (withoutL g a) b)
end Go.Proofs.Ytdfehpcbcgbidaa.Gr
end
section
namespace Go.Proofs.Ytdfehpcbcgbidaa.Gr
open Go.ChangeShapes Go.WideShapes Go.ChangeAt Go.RowKit Go.Proofs.Ytdfehpcbcgbidaa.Mem
set_option linter.unusedVariables false
end Go.Proofs.Ytdfehpcbcgbidaa.Gr
end
section
namespace Go.Proofs.Ytdfehpcbcgbidaa.Gl
open Go.ChangeShapes Go.WideShapes Go.ChangeAt Go.RowKit Go.Proofs.Ytdfehpcbcgbidaa.Mem Go.Proofs.Ytdfehpcbcgbidaa.Gr Go.Proofs.Ytdfehpcbcgbidaa.Gn Go.Proofs.Ytdfehpcbcgbidaa.Gc
set_option linter.unusedVariables false
/-- What ways from 0 come to that leave a block out. -/
inductive Way (g : List (List Int)) (gone : Int) : Nat → Prop
  | root : 0 < g.length → gone ≠ 0 → Way g gone 0
  | step {a b : Nat} : Way g gone a → edgeB g a b = true → (b : Int) ≠ gone → Way g gone b
theorem edge_lt {g : List (List Int)} {a b : Nat} (h : edgeB g a b = true) : a < g.length ∧ b < g.length := by
  rw [edgeB_nat, Bool.and_eq_true, decide_eq_true_eq] at h; exact h.1
theorem Way.lt {g : List (List Int)} {gone : Int} {b : Nat} (h : Way g gone b) : b < g.length := by
  cases h with
  | root h _ => exact h
  | step _ h _ => exact (edge_lt h).2
theorem Way.ne {g : List (List Int)} {gone : Int} {b : Nat} (h : Way g gone b) : (b : Int) ≠ gone := by
  cases h with
  | root _ h => exact fun e => h (by rw [← e]; rfl)
  | step _ _ h => exact h
theorem mem_nextL {g : List (List Int)} {a : Nat} {x : Int} : x ∈ nextL g a ↔ ∃ b : Nat, x = (b : Int) ∧ edgeB g a b = true := by
  unfold nextL nextTo
  rw [List.mem_map]
  constructor
  · rintro ⟨b, hb, rfl⟩
    exact ⟨b, rfl, (List.mem_filter.1 hb).2⟩
  · rintro ⟨b, rfl, h⟩
    exact ⟨b, List.mem_filter.2 ⟨List.mem_range.2 (edge_lt h).2, h⟩, rfl⟩
abbrev In (o : List Bool) (b : Nat) : Prop := o.getD b false = true
theorem mark_in {gone : Int} {o : List Bool} {b c : Nat} (hb : b < o.length) : In (Go.Proofs.Ytdfehpcbcgbidaa.Gr.mark gone o (b : Int)) c ↔ In o c ∨ (c = b ∧ (b : Int) ≠ gone) := by
  unfold In Go.Proofs.Ytdfehpcbcgbidaa.Gr.mark
  rw [Int.toNat_natCast, getD_set]
  by_cases h : b = c
  · subst h
    rw [if_pos ⟨rfl, hb⟩, Bool.or_eq_true, bne_iff_ne]
    exact ⟨fun h => h.elim Or.inl (fun h => Or.inr ⟨rfl, h⟩), fun h => h.elim Or.inl (fun h => Or.inr h.2)⟩
  · rw [if_neg (fun x => h x.1)]
    exact ⟨Or.inl, fun h' => h'.elim id (fun x => absurd x.1.symm h)⟩
theorem marks_in {g : List (List Int)} {gone : Int} {c : Nat} : ∀ (l : List Int) (o : List Bool), (∀ x ∈ l, ∃ b : Nat, x = (b : Int) ∧ b < o.length) → (In (l.foldl (Go.Proofs.Ytdfehpcbcgbidaa.Gr.mark gone) o) c ↔ In o c ∨ ((c : Int) ∈ l ∧ (c : Int) ≠ gone))
  | [], o, _ => ⟨Or.inl, fun h => h.elim id (fun x => by cases x.1)⟩
  | x :: l, o, h => by
    obtain ⟨b, rfl, hb⟩ := h x List.mem_cons_self
    rw [List.foldl_cons, marks_in (g := g) l _ (fun y hy => by
      obtain ⟨d, e, hd⟩ := h y (List.mem_cons_of_mem _ hy)
      exact ⟨d, e, by rw [mark_len]; exact hd⟩), mark_in hb]
    constructor
    · rintro ((h1 | ⟨rfl, h2⟩) | ⟨h1, h2⟩)
      · exact Or.inl h1
      · exact Or.inr ⟨List.mem_cons_self, h2⟩
      · exact Or.inr ⟨List.mem_cons_of_mem _ h1, h2⟩
    · rintro (h1 | ⟨h1, h2⟩)
      · exact Or.inl (Or.inl h1)
      · rcases List.mem_cons.1 h1 with h3 | h3
        · have : c = b := Int.ofNat.inj h3
          subst this
          exact Or.inl (Or.inr ⟨rfl, h2⟩)
        · exact Or.inr ⟨h3, h2⟩
theorem sweepAt_in {g : List (List Int)} {gone : Int} {o : List Bool} {a c : Nat} (ho : o.length = g.length) : In (sweepAt g gone o a) c ↔ In o c ∨ (In o a ∧ edgeB g a c = true ∧ (c : Int) ≠ gone) := by
  unfold sweepAt
  by_cases ha : o.getD a false = true
  · rw [if_pos ha]
    unfold marks
    rw [List.take_length, marks_in (g := g) (nextL g a) o (fun x hx => by
      obtain ⟨b, e, hb⟩ := mem_nextL.1 hx
      exact ⟨b, e, by rw [ho]; exact (edge_lt hb).2⟩)]
    constructor
    · rintro (h | ⟨h, h2⟩)
      · exact Or.inl h
      · obtain ⟨b, e, hb⟩ := mem_nextL.1 h
        have : c = b := Int.ofNat.inj e
        subst this
        exact Or.inr ⟨ha, hb, h2⟩
    · rintro (h | ⟨_, h, h2⟩)
      · exact Or.inl h
      · exact Or.inr ⟨mem_nextL.2 ⟨c, rfl, h⟩, h2⟩
  · rw [if_neg ha]
    exact ⟨Or.inl, fun h => h.elim id (fun x => absurd x.1 ha)⟩
/-- A sweep keeps within what is closed, and takes in what is one edge further on. -/
theorem sweep_keep {g : List (List Int)} {gone : Int} {P : Nat → Prop} (hP : ∀ a c : Nat, P a → edgeB g a c = true → (c : Int) ≠ gone → P c) : ∀ (k : Nat) (o : List Bool), o.length = g.length → (∀ c, In o c → P c) → ∀ c, In (sweep g gone o k) c → P c
  | 0, o, _, h, c, hc => h c hc
  | k + 1, o, ho, h, c, hc => by
    have ih := sweep_keep hP k o ho h
    rw [sweep_succ, sweepAt_in (by rw [sweep_len, ho])] at hc
    rcases hc with hc | ⟨h1, h2, h3⟩
    · exact ih c hc
    · exact hP _ _ (ih _ h1) h2 h3
theorem sweep_mono {g : List (List Int)} {gone : Int} {o : List Bool} (ho : o.length = g.length) : ∀ (k : Nat) {c : Nat}, In o c → In (sweep g gone o k) c
  | 0, c, h => h
  | k + 1, c, h => by
    rw [sweep_succ, sweepAt_in (by rw [sweep_len, ho])]
    exact Or.inl (sweep_mono ho k h)
theorem sweep_goes {g : List (List Int)} {gone : Int} {o : List Bool} (ho : o.length = g.length) {a c : Nat} (ha : In o a) (he : edgeB g a c = true) (hc : (c : Int) ≠ gone) : ∀ k, a < k → In (sweep g gone o k) c
  | 0, h => absurd h (Nat.not_lt_zero _)
  | k + 1, h => by
    rw [sweep_succ, sweepAt_in (by rw [sweep_len, ho])]
    by_cases h1 : a < k
    · exact Or.inl (sweep_goes ho ha he hc k h1)
    · obtain rfl : a = k := by omega
      exact Or.inr ⟨sweep_mono ho _ ha, he, hc⟩
theorem count_le {p q : Nat → Bool} : ∀ n, (∀ i, i < n → p i = true → q i = true) → ((List.range n).filter p).length ≤ ((List.range n).filter q).length
  | 0, _ => Nat.le_refl _
  | n + 1, h => by
    have ih := count_le n (fun i hi => h i (by omega))
    rw [List.range_succ, List.filter_append, List.filter_append, List.length_append, List.length_append]
    have : ([n].filter p).length ≤ ([n].filter q).length := by
      rcases hp : p n with _ | _
      · simp [hp]
      · simp [hp, h n (by omega) hp]
    omega
theorem count_lt {p q : Nat → Bool} : ∀ n, (∀ i, i < n → p i = true → q i = true) → (∃ b, b < n ∧ p b = false ∧ q b = true) → ((List.range n).filter p).length < ((List.range n).filter q).length
  | 0, _, ⟨b, h, _⟩ => absurd h (Nat.not_lt_zero _)
  | n + 1, h, ⟨b, hb, h1, h2⟩ => by
    rw [List.range_succ, List.filter_append, List.filter_append, List.length_append, List.length_append]
    by_cases hbn : b < n
    · have ih := count_lt n (fun i hi => h i (by omega)) ⟨b, hbn, h1, h2⟩
      have : ([n].filter p).length ≤ ([n].filter q).length := by
        rcases hp : p n with _ | _
        · simp [hp]
        · simp [hp, h n (by omega) hp]
      omega
    · obtain rfl : b = n := by omega
      have ih := count_le (p := p) (q := q) b (fun i hi => h i (by omega))
      have : ([b].filter p).length < ([b].filter q).length := by simp [h1, h2]
      omega
def closed (g : List (List Int)) (gone : Int) (o : List Bool) : Prop := ∀ a c : Nat, In o a → edgeB g a c = true → (c : Int) ≠ gone → In o c
theorem sweeps_grow {g : List (List Int)} {gone : Int} (hg : 0 < g.length) : ∀ k, closed g gone (sweeps g gone k) ∨ k + 1 ≤ ((List.range g.length).filter fun i => (sweeps g gone k).getD i false).length
  | 0 => by
    right
    have := count_lt (p := fun _ => false) (q := fun i => (sweeps g gone 0).getD i false) g.length (fun i _ h => by cases h) ⟨0, hg, rfl, by
      show ((List.replicate g.length false).set 0 true).getD 0 false = true
      rw [getD_set, if_pos ⟨rfl, by rw [List.length_replicate]; exact hg⟩]⟩
    omega
  | k + 1 => by
    have hl := sweeps_len g gone k
    rcases sweeps_grow hg k with h | h
    · left
      have hin : ∀ c, In (sweeps g gone (k + 1)) c → In (sweeps g gone k) c := sweep_keep (P := fun c => In (sweeps g gone k) c) (fun a c ha he hc => h a c ha he hc) g.length _ hl (fun c hc => hc)
      intro a c ha he hc
      exact sweep_mono hl _ (h a c (hin a ha) he hc)
    · by_cases hcl : closed g gone (sweeps g gone k)
      · left
        have hin : ∀ c, In (sweeps g gone (k + 1)) c → In (sweeps g gone k) c := sweep_keep (P := fun c => In (sweeps g gone k) c) (fun a c ha he hc => hcl a c ha he hc) g.length _ hl (fun c hc => hc)
        intro a c ha he hc
        exact sweep_mono hl _ (hcl a c (hin a ha) he hc)
      · right
        have : ∃ a c : Nat, In (sweeps g gone k) a ∧ edgeB g a c = true ∧ (c : Int) ≠ gone ∧ ¬ In (sweeps g gone k) c := by
          apply Classical.byContradiction
          intro hno
          exact hcl fun a c ha he hc => Classical.byContradiction fun hn => hno ⟨a, c, ha, he, hc, hn⟩
        obtain ⟨a, c, ha, he, hc, hn⟩ := this
        have hc1 : In (sweeps g gone (k + 1)) c := sweep_goes hl ha he hc g.length (edge_lt he).1
        have := count_lt (p := fun i => (sweeps g gone k).getD i false) (q := fun i => (sweeps g gone (k + 1)).getD i false) g.length (fun i _ hi => sweep_mono hl _ hi) ⟨c, (edge_lt he).2, by simpa [In] using hn, hc1⟩
        omega
theorem sweeps_way {g : List (List Int)} {gone : Int} (hg : 0 < g.length) (h0 : gone ≠ 0) : ∀ k c, In (sweeps g gone k) c → Way g gone c
  | 0, c, h => by
    have h' : ((List.replicate g.length false).set 0 true).getD c false = true := h
    rw [getD_set] at h'
    by_cases hc : 0 = c
    · subst hc; exact .root hg h0
    · rw [if_neg (fun x => hc x.1), List.getD_eq_getElem?_getD, List.getElem?_replicate] at h'
      split at h' <;> cases h'
  | k + 1, c, h => sweep_keep (P := Way g gone) (fun a c ha he hc => .step ha he hc) g.length _ (sweeps_len g gone k) (sweeps_way hg h0 k) c h
theorem without_iff {g : List (List Int)} {gone : Int} {c : Nat} : In (withoutL g gone) c ↔ Way g gone c := by
  unfold withoutL
  by_cases h : g.length = 0 ∨ gone = 0
  · rw [if_pos h]
    constructor
    · intro hc
      unfold In at hc
      rw [List.getD_eq_getElem?_getD, List.getElem?_replicate] at hc
      split at hc <;> cases hc
    · intro hw
      exfalso
      rcases h with h | h
      · have := hw.lt; omega
      · subst h
        have : ∀ c, Way g 0 c → False := by
          intro c hw
          induction hw with
          | root _ h => exact h rfl
          | step _ _ _ ih => exact ih
        exact this c hw
  · rw [if_neg h]
    have hg : 0 < g.length := by omega
    have h0 : gone ≠ 0 := fun e => h (Or.inr e)
    refine ⟨sweeps_way hg h0 _ c, fun hw => ?_⟩
    have hcl : closed g gone (sweeps g gone g.length) := by
      rcases sweeps_grow (gone := gone) hg g.length with h1 | h1
      · exact h1
      · have := List.length_filter_le (fun i => (sweeps g gone g.length).getD i false) (List.range g.length)
        rw [List.length_range] at this
        omega
    have hz : ∀ k, In (sweeps g gone k) 0 := by
      intro k
      induction k with
      | zero =>
        show ((List.replicate g.length false).set 0 true).getD 0 false = true
        rw [getD_set, if_pos ⟨rfl, by rw [List.length_replicate]; exact hg⟩]
      | succ k ih => exact sweep_mono (sweeps_len g gone k) _ ih
    induction hw with
    | root _ _ => exact hz _
    | step _ he hc ih => exact hcl _ _ ih he hc
theorem has_nat {l : List Bool} {a : Nat} : has l a = true ↔ In l a := by
  unfold has In
  rw [Int.toNat_natCast]
  by_cases h : a < l.length
  · rw [decide_eq_true ⟨by omega, by omega⟩]; simp
  · rw [decide_eq_false (by omega)]
    have : l.getD a false = false := by rw [List.getD_eq_getElem?_getD, List.getElem?_eq_none (by omega)]; rfl
    rw [this]; simp
/-- Who dominates whom, by ways. -/
theorem domB_iff {g : List (List Int)} {a b : Nat} : domB g a b = true ↔ Way g (-1) a ∧ Way g (-1) b ∧ (a = b ∨ ¬ Way g a b) := by
  unfold domB
  rw [Bool.and_eq_true, Bool.and_eq_true, has_nat, has_nat, without_iff, without_iff, Bool.or_eq_true, beq_iff_eq, Bool.not_eq_true', ← Bool.not_eq_true, has_nat, without_iff]
  constructor
  · rintro ⟨⟨h1, h2⟩, h3⟩
    exact ⟨h1, h2, h3.elim (fun h => Or.inl (Int.ofNat.inj h)) Or.inr⟩
  · rintro ⟨h1, h2, h3⟩
    exact ⟨⟨h1, h2⟩, h3.elim (fun h => Or.inl (by rw [h])) Or.inr⟩
end Go.Proofs.Ytdfehpcbcgbidaa.Gl
end
section
namespace Go.Proofs.Ytdfehpcbcgbidaa.Gl
open Go.ChangeShapes Go.WideShapes Go.ChangeAt Go.RowKit Go.Proofs.Ytdfehpcbcgbidaa.Mem Go.Proofs.Ytdfehpcbcgbidaa.Gr Go.Proofs.Ytdfehpcbcgbidaa.Gn Go.Proofs.Ytdfehpcbcgbidaa.Gc
set_option linter.unusedVariables false
theorem edge_T {g : List (List Int)} {a b : Nat} : edgeB g a b = true ↔ b ∈ (tidyN g).getD a [] := by
  rw [← edge_lii_tidy, edgeB_lii, Bool.and_eq_true, decide_eq_true_eq, List.contains_iff_mem]
  refine ⟨fun h => h.2, fun h => ⟨⟨by have := Neat.src h; rw [tidyN_len] at this ⊢; exact this, ((tidyN_neat g).row a).2 b h⟩, h⟩⟩
section
variable {g : List (List Int)} {s : St}
theorem Know.num {T : G} (h : Know T s) {i : Nat} (hi : i < s.came.length) : s.number.getD (s.came.getD i 0) (-1) = (i : Int) := (h.came i hi).2
theorem way_came (h : Dfs (tidyN g) s) (h0 : 0 < g.length) {b : Nat} : Way g (-1) b ↔ ∃ i, i < s.came.length ∧ s.came.getD i 0 = b := by
  constructor
  · intro hw
    induction hw with
    | root _ _ => exact ⟨0, h.some, h.zero⟩
    | step _ he _ ih =>
      obtain ⟨i, hi, rfl⟩ := ih
      obtain ⟨j, hj, _, e, _⟩ := h.goes i hi _ (edge_T.1 he)
      exact ⟨j, hj, e⟩
  · rintro ⟨i, hi, rfl⟩
    induction i using Nat.strongRecOn with
    | ind i ih =>
      by_cases hi0 : i = 0
      · subst hi0; rw [h.zero]; exact .root h0 (by decide)
      · obtain ⟨q, _, hq, he, _⟩ := h.up i (by omega) hi
        exact .step (ih q hq (by omega)) (edge_T.2 he) (by omega)
/-- A way down the tree leaves out what does not stand above. -/
theorem way_avoid (h : Dfs (tidyN g) s) (h0 : 0 < g.length) {c : Nat} (hc : c < s.came.length) {i : Nat} : i < s.came.length → ¬ Anc s.parent c i → Way g (s.came.getD c 0 : Nat) (s.came.getD i 0) := by
  induction i using Nat.strongRecOn with
  | ind i ih =>
    intro hi hn
    have hne : ∀ {j : Nat}, j < s.came.length → c ≠ j → ((s.came.getD j 0 : Nat) : Int) ≠ ((s.came.getD c 0 : Nat) : Int) := fun hj hcj e => hcj (h.know.inj hc hj (by omega))
    by_cases hi0 : i = 0
    · subst hi0
      have hc0 : c ≠ 0 := fun e => hn (by rw [e]; exact .refl _)
      have := hne hi hc0
      rw [h.zero] at this ⊢
      exact .root h0 (fun e => this (by rw [e]; rfl))
    · obtain ⟨q, hq1, hq, he, _⟩ := h.up i (by omega) hi
      have hnq : ¬ Anc s.parent c q := fun a => hn (.step hq1 a)
      exact .step (ih q hq (by omega) hnq) (edge_T.2 he) (hne hi (fun e => hn (by rw [e]; exact .refl _)))
theorem dom_anc (h : Dfs (tidyN g) s) (h0 : 0 < g.length) {c i : Nat} (hc : c < s.came.length) (hi : i < s.came.length) (hd : domB g (s.came.getD c 0 : Nat) (s.came.getD i 0 : Nat) = true) : Anc s.parent c i := by
  obtain ⟨_, _, h3⟩ := domB_iff.1 hd
  rcases h3 with h3 | h3
  · rw [h.know.inj hc hi h3]; exact .refl _
  · exact Classical.byContradiction fun hn => h3 (way_avoid h h0 hc hi hn)
theorem before_irrefl {x y : Nat} (hb : Before s x y) : x ≠ y := by
  obtain ⟨i, j, h1, h2, hne, _⟩ := hb
  intro e
  subst e
  rw [h1] at h2
  exact hne (by omega)
theorem left_nodup (h : Dfs (tidyN g) s) : s.left.Nodup := h.left.2.imp fun hb => before_irrefl hb
/-- How many are reached. -/
theorem left_count (h : Dfs (tidyN g) s) (h0 : 0 < g.length) : s.left.length = ((List.range g.length).filter fun i => (withoutL g (-1)).getD i false).length := by
  refine List.Perm.length_eq ((List.perm_ext_iff_of_nodup (left_nodup h) (List.Pairwise.filter _ List.nodup_range)).2 fun b => ?_)
  rw [h.left.1 b, ← way_came h h0, List.mem_filter, List.mem_range, ← without_iff]
  exact ⟨fun hb => ⟨(without_iff.1 hb).lt, hb⟩, fun hb => hb.2⟩
theorem pairwise_get {α : Type} {R : α → α → Prop} {l : List α} (h : l.Pairwise R) {i j : Nat} (hij : i < j) (hj : j < l.length) : R (l[i]'(by omega)) l[j] := List.pairwise_iff_getElem.1 h i j (by omega) hj hij
theorem anc_zero (h : Dfs (tidyN g) s) : ∀ {i : Nat}, i < s.came.length → Anc s.parent 0 i := by
  intro i
  induction i using Nat.strongRecOn with
  | ind i ih =>
    intro hi
    by_cases hi0 : i = 0
    · subst hi0; exact .refl _
    · obtain ⟨q, hq1, hq, _⟩ := h.up i (by omega) hi
      exact .step hq1 (ih q hq (by omega))
theorem rev_before (h : Dfs (tidyN g) s) {k i : Nat} (hk : k < i) (hi : i < s.left.reverse.length) : Before s s.left.reverse[i] (s.left.reverse[k]'(by omega)) := by
  have hl : s.left.reverse.length = s.left.length := List.length_reverse
  rw [List.getElem_reverse, List.getElem_reverse]
  exact pairwise_get h.left.2 (by omega) (by omega)
theorem rev_came (h : Dfs (tidyN g) s) {i : Nat} (hi : i < s.left.reverse.length) : ∃ c, c < s.came.length ∧ s.came.getD c 0 = s.left.reverse[i] :=
  (h.left.1 _).1 (List.mem_reverse.1 (List.getElem_mem hi))
theorem rev_at (h : Dfs (tidyN g) s) {c : Nat} (hc : c < s.came.length) : ∃ i, ∃ hi : i < s.left.reverse.length, s.left.reverse[i] = s.came.getD c 0 := by
  obtain ⟨i, hi, e⟩ := List.mem_iff_getElem.1 (List.mem_reverse.2 ((h.left.1 _).2 ⟨c, hc, rfl⟩))
  exact ⟨i, hi, e⟩
/-- What is left later does not stand below. -/
theorem rev_anc (h : Dfs (tidyN g) s) {k i : Nat} (hk : k < i) (hi : i < s.left.reverse.length) {c d : Nat} (hc : c < s.came.length) (hd : d < s.came.length) (ec : s.came.getD c 0 = s.left.reverse[i]) (ed : s.came.getD d 0 = s.left.reverse[k]'(by omega)) : c ≠ d ∧ ¬ Anc s.parent c d := by
  obtain ⟨x, y, h1, h2, hne, _, h4⟩ := rev_before h hk hi
  have e1 := Know.num h.know hc
  have e2 := Know.num h.know hd
  rw [ec, h1] at e1
  rw [ed, h2] at e2
  have : x = c := by omega
  subst this
  have : y = d := by omega
  subst this
  refine ⟨hne, fun ha => h4 ?_ ha⟩
  have := ha.le h.know.ups
  omega
theorem rev_ne (h : Dfs (tidyN g) s) {k i : Nat} (hk : k < i) (hi : i < s.left.reverse.length) : s.left.reverse[k]'(by omega) ≠ s.left.reverse[i] := fun e => before_irrefl (rev_before h hk hi) e.symm
theorem rev_dom (h : Dfs (tidyN g) s) (h0 : 0 < g.length) {k i : Nat} (hk : k < i) (hi : i < s.left.reverse.length) : domB g (s.left.reverse[i] : Nat) (s.left.reverse[k]'(by omega) : Nat) = false := by
  obtain ⟨c, hc, ec⟩ := rev_came h hi
  obtain ⟨d, hd, ed⟩ := rev_came (i := k) h (by omega)
  obtain ⟨_, hn⟩ := rev_anc h hk hi hc hd ec ed
  rw [← Bool.not_eq_true]
  intro hdom
  rw [← ec, ← ed] at hdom
  exact hn (dom_anc h h0 hc hd hdom)
theorem rev_zero (h : Dfs (tidyN g) s) : ∃ hi : 0 < s.left.reverse.length, s.left.reverse[0] = 0 := by
  obtain ⟨i, hi, e⟩ := rev_at h h.some
  rw [h.zero] at e
  by_cases hi0 : i = 0
  · subst hi0; exact ⟨hi, e⟩
  · exfalso
    obtain ⟨d, hd, ed⟩ := rev_came (i := 0) h (by omega)
    exact (rev_anc h (k := 0) (by omega) hi h.some hd (by rw [h.zero, e]) ed).2 (anc_zero h hd)
end
end Go.Proofs.Ytdfehpcbcgbidaa.Gl
end
section
/- Plain mathematics: what the climber's halves are: reached by a way over greater numbers alone, and as low as any that leads there. -/
namespace Go.Proofs.Ytdfehpcbcgbidaa.Gl
open Go.ChangeShapes Go.WideShapes Go.ChangeAt Go.RowKit Go.Proofs.Ytdfehpcbcgbidaa.Mem Go.Proofs.Ytdfehpcbcgbidaa.Gr Go.Proofs.Ytdfehpcbcgbidaa.Gn Go.Proofs.Ytdfehpcbcgbidaa.Gc
set_option linter.unusedVariables false
theorem anc_comp {u : List Int} (hu : Ups u) {a b x : Nat} (ha : Anc u a x) (hb : Anc u b x) (hab : a ≤ b) : Anc u a b := by
  induction hb with
  | refl => exact ha
  | @step y z e hbz ih =>
    have h1 := hbz.le hu
    have h2 := ups_lt hu e
    cases ha with
    | refl => omega
    | @step _ z' e' haz =>
      rw [e] at e'
      have : z = z' := by omega
      subst this
      exact ih haz
theorem anc_between {T : G} {s : St} (h : Dfs T s) {c n : Nat} : ∀ {m : Nat}, Anc s.parent c m → c ≤ n → n ≤ m → m < s.came.length → Anc s.parent c n := by
  intro m
  induction m with
  | zero => intro ha h1 h2 _; have : n = 0 := by omega
            subst this; exact ha
  | succ m ih =>
    intro ha h1 h2 h3
    by_cases hn : n = m + 1
    · subst hn; exact ha
    · obtain ⟨q, hq, _, _, hp⟩ := h.up (m + 1) (by omega) h3
      cases ha with
      | refl => omega
      | @step _ z e haz =>
        rw [hq] at e
        have : q = z := by omega
        subst this
        exact ih (haz.trans hp) h1 (by omega) (by omega)
/-- What the climber's rows say while number n is reckoned. -/
structure Kp (s : St) (n : Nat) (c : Cl) : Prop where
  inr : InR s.came.length c
  fresh : ∀ x, x ≤ n → x < s.came.length → c.up.getD x (-1) = s.parent.getD x (-1) ∧ c.best.getD x 0 = x
  above : ∀ x, 0 < x → x < s.came.length → ∃ z : Nat, c.up.getD x (-1) = (z : Int) ∧ Anc s.parent z x ∧ z < x
  range : ∀ x, x < s.came.length → ∀ u, Anc s.parent u x → c.up.getD x (-1) < u → u = x ∨ n < u
  bestA : ∀ x, x < s.came.length → Anc s.parent (c.best.getD x 0) x ∧ c.up.getD x (-1) < c.best.getD x 0
  bestL : ∀ x, x < s.came.length → ∀ u, Anc s.parent u x → c.up.getD x (-1) < u → c.half.getD (c.best.getD x 0) 0 ≤ c.half.getD u 0
theorem kp_squash {s : St} {n : Nat} {c : Cl} (hu : Ups s.parent) (h : Kp s n c) {m b : Nat} (hb : b < s.came.length) (hm : n < m) (e : c.up.getD b (-1) = (m : Int)) (hb0 : 0 < b) : Kp s n (squash c m b) := by
  have hmk : m < s.came.length ∧ m < b ∧ Anc s.parent m b := by
    obtain ⟨z, e1, e2, e3⟩ := h.above b hb0 hb
    rw [e] at e1
    have : m = z := by omega
    subst this
    exact ⟨by omega, e3, e2⟩
  obtain ⟨hmk, hmb, hmA⟩ := hmk
  have hul : b < c.up.length := by rw [h.inr.up]; exact hb
  have hbl : b < c.best.length := by rw [h.inr.best]; exact hb
  have hup : ∀ x, (squash c m b).up.getD x (-1) = if b = x then c.up.getD m (-1) else c.up.getD x (-1) := fun x => by
    show (c.up.set b _).getD x (-1) = _
    rw [getD_set]
    by_cases hx : b = x
    · rw [if_pos ⟨hx, hul⟩, if_pos hx]
    · rw [if_neg (fun y => hx y.1), if_neg hx]
  have hbo : ∀ x, b ≠ x → (squash c m b).best.getD x 0 = c.best.getD x 0 := fun x hx => by
    show (if _ then _ else _ : List Nat).getD x 0 = _
    split
    · rw [getD_set, if_neg (fun y => hx y.1)]
    · rfl
  have hbb : ((squash c m b).best.getD b 0 = c.best.getD m 0 ∧ c.half.getD (c.best.getD m 0) 0 < c.half.getD (c.best.getD b 0) 0) ∨ ((squash c m b).best.getD b 0 = c.best.getD b 0 ∧ c.half.getD (c.best.getD b 0) 0 ≤ c.half.getD (c.best.getD m 0) 0) := by
    by_cases hlt : c.half.getD (c.best.getD m 0) 0 < c.half.getD (c.best.getD b 0) 0
    · left
      refine ⟨?_, hlt⟩
      show (if _ then _ else _ : List Nat).getD b 0 = _
      rw [if_pos hlt, getD_set, if_pos ⟨rfl, hbl⟩]
    · right
      refine ⟨?_, by omega⟩
      show (if _ then _ else _ : List Nat).getD b 0 = _
      rw [if_neg hlt]
  have hh : (squash c m b).half = c.half := rfl
  have hum : c.up.getD m (-1) < (m : Int) := by
    obtain ⟨z, e1, _, e3⟩ := h.above m (by omega) hmk
    rw [e1]; omega
  refine ⟨h.inr.squash hmk hb, fun x hx hxk => ?_, fun x hx0 hxk => ?_, fun x hxk u hA hlt => ?_, fun x hxk => ?_, fun x hxk u hA hlt => ?_⟩
  · have hne : b ≠ x := by omega
    rw [hup, if_neg hne, hbo x hne]
    exact h.fresh x hx hxk
  · rw [hup]
    by_cases hx : b = x
    · subst hx
      rw [if_pos rfl]
      obtain ⟨z, e1, e2, e3⟩ := h.above m (by omega) hmk
      exact ⟨z, e1, e2.trans hmA, by omega⟩
    · rw [if_neg hx]; exact h.above x hx0 hxk
  · rw [hup] at hlt
    by_cases hx : b = x
    · subst hx
      rw [if_pos rfl] at hlt
      by_cases hum' : m < u
      · exact h.range b hxk u hA (by rw [e]; omega)
      · rcases h.range m hmk u (anc_comp hu hA hmA (by omega)) hlt with h1 | h1
        · right; omega
        · right; exact h1
    · rw [if_neg hx] at hlt; exact h.range x hxk u hA hlt
  · rw [hup]
    by_cases hx : b = x
    · subst hx
      rw [if_pos rfl]
      rcases hbb with ⟨e1, _⟩ | ⟨e1, _⟩
      · rw [e1]
        obtain ⟨h1, h2⟩ := h.bestA m hmk
        exact ⟨h1.trans hmA, h2⟩
      · rw [e1]
        obtain ⟨h1, h2⟩ := h.bestA b hxk
        rw [e] at h2
        exact ⟨h1, by omega⟩
    · rw [if_neg hx, hbo x hx]; exact h.bestA x hxk
  · rw [hup] at hlt
    rw [hh]
    by_cases hx : b = x
    · subst hx
      rw [if_pos rfl] at hlt
      by_cases hum' : m < u
      · have h1 := h.bestL b hxk u hA (by rw [e]; omega)
        rcases hbb with ⟨e1, h2⟩ | ⟨e1, h2⟩
        · rw [e1]; omega
        · rw [e1]; exact h1
      · have h1 := h.bestL m hmk u (anc_comp hu hA hmA (by omega)) hlt
        rcases hbb with ⟨e1, h2⟩ | ⟨e1, h2⟩
        · rw [e1]; exact h1
        · rw [e1]; omega
    · rw [if_neg hx] at hlt
      rw [hbo x hx]; exact h.bestL x hxk u hA hlt
theorem climb_kp {s : St} {n : Nat} {c : Cl} (hu : Ups s.parent) (h : Kp s n c) : ∀ (f m : Nat), m < s.came.length → n < m → m ≤ f →
    (squashes (climb c.up n f m).1.reverse c (climb c.up n f m).2).2 = m ∧ Kp s n (squashes (climb c.up n f m).1.reverse c (climb c.up n f m).2).1 ∧
    (squashes (climb c.up n f m).1.reverse c (climb c.up n f m).2).1.up.getD m (-1) ≤ n ∧ (∀ x, m < x → (squashes (climb c.up n f m).1.reverse c (climb c.up n f m).2).1.up.getD x (-1) = c.up.getD x (-1))
  | 0, m, _, h1, h2 => by omega
  | f + 1, m, hm, h1, h2 => by
    unfold climb
    by_cases hlt : (n : Int) < c.up.getD m (-1)
    · rw [if_pos hlt]
      obtain ⟨z, e1, e2, e3⟩ := h.above m (by omega) hm
      have hz : (c.up.getD m (-1)).toNat = z := by rw [e1]; rfl
      rw [hz]
      obtain ⟨i1, i2, i3, i4⟩ := climb_kp hu h f z (by omega) (by rw [e1] at hlt; omega) (by omega)
      simp only [List.reverse_cons]
      rw [squashes_snoc, i1]
      have e4 := i4 m e3
      have hsq := kp_squash hu i2 (m := z) (b := m) hm (by rw [e1] at hlt; omega) (by rw [e4, e1]) (by omega)
      refine ⟨rfl, hsq, ?_, fun x hx => ?_⟩
      · show (List.set _ m _).getD m (-1) ≤ _
        rw [getD_set, if_pos ⟨rfl, by rw [i2.inr.up]; exact hm⟩]
        exact i3
      · show (List.set _ m _).getD x (-1) = _
        rw [getD_set, if_neg (fun y => by omega)]
        exact i4 x (by omega)
    · rw [if_neg hlt]
      exact ⟨rfl, h, by simpa [squashes] using Int.not_lt.1 hlt, fun _ _ => rfl⟩
/-- What least does to a number above n. -/
theorem least_kp {s : St} {n : Nat} {c : Cl} (hu : Ups s.parent) (h : Kp s n c) {m : Nat} (hm : m < s.came.length) (hn : n < m) :
    Kp s n (leastC c m n) ∧ leastM c m n = m ∧ Anc s.parent (leastV c m n) m ∧ n < leastV c m n ∧ ∀ u, Anc s.parent u m → n < u → c.half.getD (leastV c m n) 0 ≤ c.half.getD u 0 := by
  obtain ⟨h1, h2, h3, _⟩ := climb_kp hu h m m hm hn (Nat.le_refl _)
  have hM : leastM c m n = m := h1
  have hV : leastV c m n = (leastC c m n).best.getD m 0 := by unfold leastV; rw [hM]
  have hup : (leastC c m n).up.getD m (-1) ≤ n := h3
  have hK : Kp s n (leastC c m n) := h2
  obtain ⟨h4, h5⟩ := hK.bestA m hm
  refine ⟨hK, hM, by rw [hV]; exact h4, ?_, fun u hA hlt => ?_⟩
  · rw [hV]
    rcases hK.range m hm _ h4 h5 with h6 | h6
    · rw [h6]; exact hn
    · exact h6
  · have := hK.bestL m hm u hA (by omega)
    rw [← hV, leastC_half] at this
    exact this
theorem least_low {s : St} {n : Nat} {c : Cl} (hu : Ups s.parent) (h : Kp s n c) {m : Nat} (hm : m < s.came.length) (hn : m ≤ n) : leastC c m n = c ∧ leastM c m n = m ∧ leastV c m n = m := by
  obtain ⟨e1, e2⟩ := h.fresh m hn hm
  have hup : c.up.getD m (-1) < (m : Int) ∨ m = 0 := by
    by_cases h0 : m = 0
    · exact Or.inr h0
    · obtain ⟨z, e3, _, e4⟩ := h.above m (by omega) hm
      left; rw [e3]; omega
  have hc : climb c.up n m m = ([], m) := by
    cases m with
    | zero => rfl
    | succ m =>
      unfold climb
      rw [if_neg (by omega)]
  have h1 : leastC c m n = c := by unfold leastC; rw [hc]; rfl
  have h2 : leastM c m n = m := by unfold leastM; rw [hc]; rfl
  refine ⟨h1, h2, ?_⟩
  unfold leastV
  rw [h1, h2, e2]
end Go.Proofs.Ytdfehpcbcgbidaa.Gl
/- Plain mathematics: what halves are. -/
namespace Go.Proofs.Ytdfehpcbcgbidaa.Gl
open Go.ChangeShapes Go.WideShapes Go.ChangeAt Go.RowKit Go.Proofs.Ytdfehpcbcgbidaa.Mem Go.Proofs.Ytdfehpcbcgbidaa.Gr Go.Proofs.Ytdfehpcbcgbidaa.Gn Go.Proofs.Ytdfehpcbcgbidaa.Gc
set_option linter.unusedVariables false
/-- There is a way from v to n, by numbers, with none but greater ones than n in between. -/
inductive Hop (T : G) (s : St) (n : Nat) : Nat → Prop
  | edge {v : Nat} : v < s.came.length → s.came.getD n 0 ∈ T.getD (s.came.getD v 0) [] → Hop T s n v
  | step {v x : Nat} : v < s.came.length → s.came.getD x 0 ∈ T.getD (s.came.getD v 0) [] → x < s.came.length → n < x → Hop T s n x → Hop T s n v
theorem Hop.trans {T : G} {s : St} {n v x : Nat} (h : Hop T s v x) (hv : v < s.came.length) (hn : n < v) (k : Hop T s n v) : Hop T s n x := by
  induction h with
  | edge hx he => exact .step hx he hv hn k
  | step hx he hy hvy _ ih => exact .step hx he hy (by omega) ih
theorem hop_up {T : G} {s : St} (h : Dfs T s) {n v m : Nat} (ha : Anc s.parent v m) (hm : m < s.came.length) (hn : n < v) (k : Hop T s n m) : Hop T s n v := by
  induction ha with
  | refl => exact k
  | @step y z e hvz ih =>
    have hle := hvz.le h.know.ups
    have hzy := ups_lt h.know.ups e
    obtain ⟨q, hq, _, he, _⟩ := h.up y (by omega) hm
    rw [e] at hq
    have : z = q := by omega
    subst this
    exact ih (by omega) (.step (by omega) he hm (by omega) k)
structure Fin (T P : G) (s : St) (c : Cl) (w : Nat) : Prop where
  lt : c.half.getD w 0 < w
  hop : Hop T s w (c.half.getD w 0)
  anc : Anc s.parent (c.half.getD w 0) w
  le1 : ∀ a ∈ P.getD (s.came.getD w 0) [], ∀ m : Nat, s.number.getD a (-1) = (m : Int) → m < w → c.half.getD w 0 ≤ m
  le2 : ∀ a ∈ P.getD (s.came.getD w 0) [], ∀ m : Nat, s.number.getD a (-1) = (m : Int) → w < m → ∀ u, Anc s.parent u m → w < u → c.half.getD w 0 ≤ c.half.getD u 0
structure Row (T : G) (s : St) (c : Cl) (n : Nat) (l : List Nat) : Prop where
  kp : Kp s n c
  fresh : ∀ x, x < n → x < s.came.length → c.half.getD x 0 = x
  low : c.half.getD n 0 ≤ n
  att : c.half.getD n 0 = n ∨ (Hop T s n (c.half.getD n 0) ∧ Anc s.parent (c.half.getD n 0) n ∧ c.half.getD n 0 < n)
  le1 : ∀ a ∈ l, ∀ m : Nat, s.number.getD a (-1) = (m : Int) → m < n → c.half.getD n 0 ≤ m
  le2 : ∀ a ∈ l, ∀ m : Nat, s.number.getD a (-1) = (m : Int) → n < m → ∀ u, Anc s.parent u m → n < u → c.half.getD n 0 ≤ c.half.getD u 0
theorem half_set {c : Cl} {n v x : Nat} (h : n < c.half.length) : (c.half.set n v).getD x 0 = if n = x then v else c.half.getD x 0 := by
  rw [getD_set]
  by_cases hx : n = x
  · rw [if_pos ⟨hx, h⟩, if_pos hx]
  · rw [if_neg (fun y => hx y.1), if_neg hx]
theorem kp_set {s : St} {n v : Nat} {c : Cl} (hu : Ups s.parent) (h : Kp s n c) (hn : n < s.came.length) : Kp s n { c with half := c.half.set n v } := by
  have hl : n < c.half.length := by rw [h.inr.half]; exact hn
  refine ⟨h.inr.setHalf n v, h.fresh, h.above, h.range, h.bestA, fun x hx u hA hlt => ?_⟩
  obtain ⟨h1, h2⟩ := h.bestA x hx
  have h3 := h.range x hx _ h1 h2
  have h4 := h.range x hx u hA hlt
  have h5 := h.bestL x hx u hA hlt
  have h6 := h1.le hu
  have h7 := hA.le hu
  show (c.half.set n v).getD (c.best.getD x 0) 0 ≤ (c.half.set n v).getD u 0
  rw [half_set hl, half_set hl]
  by_cases hxn : x = n
  · have e1 : c.best.getD x 0 = n := by omega
    have e2 : u = n := by omega
    rw [if_pos e1.symm, if_pos e2.symm]; exact Nat.le_refl _
  · rw [if_neg (by omega), if_neg (by omega)]; exact h5
theorem fin_set {T P : G} {s : St} {c c' : Cl} {n w : Nat} (h : Fin T P s c w) (hw : n < w) (he : ∀ x, n < x → c'.half.getD x 0 = c.half.getD x 0) : Fin T P s c' w := by
  have e := he w hw
  refine ⟨by rw [e]; exact h.lt, by rw [e]; exact h.hop, by rw [e]; exact h.anc, fun a ha m hm hlt => by rw [e]; exact h.le1 a ha m hm hlt, fun a ha m hm hlt u hA hu => ?_⟩
  rw [e, he u (by omega)]
  exact h.le2 a ha m hm hlt u hA hu
theorem halfOne_row {T P : G} {s : St} {c : Cl} {n : Nat} {l : List Nat} (h : Dfs T s) (hr : Row T s c n l) (hf : ∀ w, n < w → w < s.came.length → Fin T P s c w) (hn : n < s.came.length) {a : Nat} (hedge : s.came.getD n 0 ∈ T.getD a []) :
    Row T s (halfOne s.number n c a) n (l ++ [a]) ∧ (∀ x, n < x → (halfOne s.number n c a).half.getD x 0 = c.half.getD x 0) := by
  have hu := h.know.ups
  have hl : n < c.half.length := by rw [hr.kp.inr.half]; exact hn
  by_cases h1 : s.number.getD a (-1) = -1
  · have e : halfOne s.number n c a = c := if_pos h1
    rw [e]
    refine ⟨⟨hr.kp, hr.fresh, hr.low, hr.att, fun b hb m hm hlt => ?_, fun b hb m hm hlt => ?_⟩, fun _ _ => rfl⟩
    · rcases List.mem_append.1 hb with hb | hb
      · exact hr.le1 b hb m hm hlt
      · rw [List.mem_singleton.1 hb, h1] at hm; omega
    · rcases List.mem_append.1 hb with hb | hb
      · exact hr.le2 b hb m hm hlt
      · rw [List.mem_singleton.1 hb, h1] at hm; omega
  · obtain ⟨_, m, hm, em, ea⟩ := h.know.at h1
    have htn : (s.number.getD a (-1)).toNat = m := by rw [em]; rfl
    have e : halfOne s.number n c a = { leastC c m n with half := c.half.set n (min (c.half.getD n 0) (c.half.getD (leastV c m n) 0)) } := by
      unfold halfOne; rw [if_neg h1, htn]
    have hedge' : s.came.getD n 0 ∈ T.getD (s.came.getD m 0) [] := by rw [ea]; exact hedge
    -- the new value v, and what is asked of it
    have main : ∀ (c1 : Cl) (v : Nat), Kp s n c1 → c1.half = c.half → (v = c.half.getD n 0 ∨ (v < c.half.getD n 0 ∧ Hop T s n v ∧ Anc s.parent v n)) → v ≤ c.half.getD n 0 → (m < n → v ≤ m) → (n < m → ∀ u, Anc s.parent u m → n < u → v ≤ c.half.getD u 0) →
        Row T s { c1 with half := c.half.set n v } n (l ++ [a]) ∧ (∀ x, n < x → ({ c1 with half := c.half.set n v } : Cl).half.getD x 0 = c.half.getD x 0) := by
      intro c1 v hk1 hh1 hv hle hl1 hl2
      have hg : ∀ x, ({ c1 with half := c.half.set n v } : Cl).half.getD x 0 = if n = x then v else c.half.getD x 0 := fun x => half_set hl
      have hgn : ({ c1 with half := c.half.set n v } : Cl).half.getD n 0 = v := by rw [hg, if_pos rfl]
      have hlow := hr.low
      refine ⟨⟨?_, fun x hx hxk => ?_, ?_, ?_, fun b hb q hq hlt => ?_, fun b hb q hq hlt u hA hnu => ?_⟩, fun x hx => by rw [hg, if_neg (by omega)]⟩
      · have := kp_set (v := v) hu hk1 hn
        rw [hh1] at this; exact this
      · rw [hg, if_neg (by omega)]; exact hr.fresh x hx hxk
      · rw [hgn]; omega
      · rw [hgn]
        rcases hv with hv | ⟨h2, h3, h4⟩
        · rw [hv]; exact hr.att
        · exact Or.inr ⟨h3, h4, by omega⟩
      · rw [hgn]
        rcases List.mem_append.1 hb with hb | hb
        · have := hr.le1 b hb q hq hlt; omega
        · rw [List.mem_singleton.1 hb, em] at hq
          have : m = q := by omega
          subst this
          exact hl1 hlt
      · rw [hgn, hg, if_neg (by omega)]
        rcases List.mem_append.1 hb with hb | hb
        · have := hr.le2 b hb q hq hlt u hA hnu; omega
        · rw [List.mem_singleton.1 hb, em] at hq
          have : m = q := by omega
          subst this
          exact hl2 hlt u hA hnu
    rw [e]
    by_cases hmn : n < m
    · obtain ⟨k1, _, k3, k4, k5⟩ := least_kp hu hr.kp hm hmn
      refine main _ _ k1 (leastC_half _ _ _) ?_ (Nat.min_le_left _ _) (fun hlt => by omega) (fun _ u hA hnu => Nat.le_trans (Nat.min_le_right _ _) (k5 u hA hnu))
      have hVk : leastV c m n < s.came.length := by have := k3.le hu; omega
      have hF := hf _ k4 hVk
      by_cases hlt : c.half.getD (leastV c m n) 0 < c.half.getD n 0
      · rw [Nat.min_eq_right (Nat.le_of_lt hlt)]
        have hlow := hr.low
        exact Or.inr ⟨hlt, hF.hop.trans hVk k4 (hop_up h k3 hm k4 (.edge hm hedge')), anc_between h (hF.anc.trans k3) (by omega) (by omega) hm⟩
      · rw [Nat.min_eq_left (by omega)]; exact Or.inl rfl
    · obtain ⟨k1, _, k3⟩ := least_low hu hr.kp hm (by omega)
      rw [k1, k3]
      refine main _ _ hr.kp rfl ?_ (Nat.min_le_left _ _) (fun hlt => Nat.le_trans (Nat.min_le_right _ _) (by rw [hr.fresh m hlt hm]; exact Nat.le_refl _)) (fun hlt => absurd hlt hmn)
      by_cases hlt : c.half.getD m 0 < c.half.getD n 0
      · rw [Nat.min_eq_right (Nat.le_of_lt hlt)]
        have hne : m ≠ n := fun x => by rw [x] at hlt; omega
        rw [hr.fresh m (by omega) hm] at hlt ⊢
        refine Or.inr ⟨hlt, .edge hm hedge', ?_⟩
        obtain ⟨j, hj, ej, _, hA⟩ := h.goes m hm _ hedge'
        rw [Know.num h.know hn] at ej
        have : n = j := by omega
        subst this
        exact hA (by omega)
      · rw [Nat.min_eq_left (by omega)]; exact Or.inl rfl
theorem halfRow_row {T P : G} {s : St} {n : Nat} (h : Dfs T s) (hn : n < s.came.length) : ∀ (r l : List Nat) (c : Cl), Row T s c n l → (∀ w, n < w → w < s.came.length → Fin T P s c w) → (∀ a ∈ r, s.came.getD n 0 ∈ T.getD a []) →
    Row T s (halfRow s.number n r c) n (l ++ r) ∧ (∀ w, n < w → w < s.came.length → Fin T P s (halfRow s.number n r c) w)
  | [], l, c, hr, hf, _ => by rw [List.append_nil]; exact ⟨hr, hf⟩
  | a :: r, l, c, hr, hf, he => by
    obtain ⟨h1, h2⟩ := halfOne_row h hr hf hn (he a List.mem_cons_self)
    have := halfRow_row h hn r (l ++ [a]) _ h1 (fun w hw hwk => fin_set (hf w hw hwk) hw h2) (fun b hb => he b (List.mem_cons_of_mem _ hb))
    rw [List.append_assoc] at this
    exact this
theorem kp_down {s : St} {n : Nat} {c : Cl} (h : Kp s (n + 1) c) : Kp s n c :=
  ⟨h.inr, fun x hx hk => h.fresh x (by omega) hk, h.above, fun x hx u hA hlt => (h.range x hx u hA hlt).elim Or.inl (fun y => Or.inr (by omega)), h.bestA, h.bestL⟩
theorem halfDown_fin {T : G} {s : St} (h : Dfs T s) (hT : Neat T) : ∀ (n : Nat) (c : Cl), n < s.came.length → Kp s n c → (∀ x, x ≤ n → x < s.came.length → c.half.getD x 0 = x) → (∀ w, n < w → w < s.came.length → Fin T (turnN T) s c w) →
    ∀ w, 0 < w → w < s.came.length → Fin T (turnN T) s (halfDown s (turnN T) n c) w
  | 0, c, _, _, _, hf, w, h1, h2 => hf w h1 h2
  | n + 1, c, hn, hk, hfr, hf, w, h1, h2 => by
    have hrow0 : Row T s c (n + 1) [] := ⟨hk, fun x hx hxk => hfr x (by omega) hxk, by rw [hfr _ (Nat.le_refl _) hn]; exact Nat.le_refl _, Or.inl (hfr _ (Nat.le_refl _) hn), fun a ha => (by cases ha), fun a ha => (by cases ha)⟩
    obtain ⟨hr, hf'⟩ := halfRow_row (P := turnN T) h hn ((turnN T).getD (s.came.getD (n + 1) 0) []) [] c hrow0 hf (fun a ha => (mem_turnN hT).1 ha)
    rw [List.nil_append] at hr
    refine halfDown_fin h hT n _ (by omega) (kp_down hr.kp) (fun x hx hxk => hr.fresh x (by omega) hxk) (fun v hv hvk => ?_) w h1 h2
    by_cases hvn : v = n + 1
    · subst hvn
      obtain ⟨q, hq, hq2, he, _⟩ := h.up (n + 1) (by omega) hn
      have hle := hr.le1 (s.came.getD q 0) ((mem_turnN hT).2 he) q (Know.num h.know (by omega)) hq2
      have hatt : Hop T s (n + 1) _ ∧ Anc s.parent _ (n + 1) ∧ _ < n + 1 := hr.att.resolve_left (by omega)
      exact ⟨hatt.2.2, hatt.1, hatt.2.1, hr.le1, hr.le2⟩
    · exact hf' v (by omega) hvk
/-- What all halves are. -/
theorem halves_fin {T : G} (hT : Neat T) (h0 : 0 < T.length) {w : Nat} (h1 : 0 < w) (h2 : w < (walkN T).came.length) : Fin T (turnN T) (walkN T) (halvesC (walkN T) (turnN T)) w := by
  have h := walkN_dfs hT.ok h0
  have hk := h.some
  have hpl := h.know.inv.parent
  have hb : ∀ x, x < (walkN T).came.length → (halfInit (walkN T)).best.getD x 0 = x := fun x hx => by
    show (List.range _).getD x 0 = x
    rw [List.getD_eq_getElem?_getD, List.getElem?_range hx]; rfl
  have hrng : ∀ x, x < (walkN T).came.length → ∀ u, Anc (walkN T).parent u x → (walkN T).parent.getD x (-1) < (u : Int) → u = x := fun x hx u hA hlt => by
    cases hA with
    | refl => rfl
    | @step _ z e hz => have := hz.le h.know.ups; omega
  have hlow : ∀ x, x < (walkN T).came.length → (walkN T).parent.getD x (-1) < (x : Int) := fun x hx => by
    have := h.know.ups x (by rw [hpl]; exact hx); omega
  unfold halvesC
  refine halfDown_fin h hT _ _ (by omega) ⟨⟨hpl, by show (List.range _).length = _; rw [List.length_range], by show (List.range _).length = _; rw [List.length_range], fun i hi => ⟨h.know.low i, by have := hlow i hi; show (walkN T).parent.getD i (-1) < _; omega⟩, fun i hi => by rw [hb i hi]; exact hi⟩,
    fun x _ hx => ⟨rfl, hb x hx⟩, fun x hx0 hx => ?_, fun x hx u hA hlt => Or.inl (hrng x hx u hA hlt), fun x hx => by rw [hb x hx]; exact ⟨.refl _, hlow x hx⟩, fun x hx u hA hlt => by rw [hb x hx, hrng x hx u hA hlt]; exact Nat.le_refl _⟩
    (fun x _ hx => by
      show (List.range _).getD x 0 = x
      rw [List.getD_eq_getElem?_getD, List.getElem?_range hx]; rfl) (fun v hv hvk => by omega) w h1 h2
  obtain ⟨q, e, hq, _, _⟩ := h.up x hx0 hx
  exact ⟨q, e, .step e (.refl _), hq⟩
end Go.Proofs.Ytdfehpcbcgbidaa.Gl
/- Plain mathematics: what stands above by Idom is what dominates. -/
namespace Go.Proofs.Ytdfehpcbcgbidaa.Gl
open Go.ChangeShapes Go.WideShapes Go.ChangeAt Go.RowKit Go.Proofs.Ytdfehpcbcgbidaa.Mem Go.Proofs.Ytdfehpcbcgbidaa.Gr Go.Proofs.Ytdfehpcbcgbidaa.Gn Go.Proofs.Ytdfehpcbcgbidaa.Gc
set_option linter.unusedVariables false
/-- x is y, or comes of it by going above. -/
inductive DA (D : List Nat) : Nat → Nat → Prop
  | refl (x : Nat) : DA D x x
  | step {x y : Nat} : 0 < y → DA D x (D.getD y 0) → DA D x y
theorem DA.trans {D : List Nat} {x y z : Nat} (h : DA D x y) (k : DA D y z) : DA D x z := by
  induction k with
  | refl => exact h
  | step h0 _ ih => exact .step h0 ih
theorem DA.zero {D : List Nat} {x : Nat} (h : DA D x 0) : x = 0 := by
  cases h with
  | refl => rfl
  | step h0 _ => omega
theorem DA.le {D : List Nat} (hf : Falls D) {x : Nat} : ∀ {y : Nat}, y < D.length → DA D x y → x ≤ y := by
  intro y
  induction y using Nat.strongRecOn with
  | ind y ih =>
    intro hy h
    cases h with
    | refl => exact Nat.le_refl _
    | step h0 h => have h1 := hf y h0 hy; have := ih _ h1 (by omega) h; omega
theorem DA.congr {D D' : List Nat} (hf : Falls D) {x : Nat} : ∀ {y : Nat}, y < D.length → (∀ z, z ≤ y → D.getD z 0 = D'.getD z 0) → DA D x y → DA D' x y := by
  intro y
  induction y using Nat.strongRecOn with
  | ind y ih =>
    intro hy he h
    cases h with
    | refl => exact .refl _
    | step h0 h =>
      have h1 := hf y h0 hy
      refine .step h0 ?_
      rw [← he y (Nat.le_refl _)]
      exact ih _ h1 (by omega) (fun z hz => he z (by omega)) h
theorem common_da {l : List Nat} (hf : Falls l) : ∀ (f a b : Nat), a < l.length → b < l.length → a + b ≤ f → DA l (commonN l f a b) a ∧ DA l (commonN l f a b) b ∧ ∀ x, DA l x a → DA l x b → DA l x (commonN l f a b)
  | 0, a, b, ha, hb, hfl => by
    have : a = 0 := by omega
    have : b = 0 := by omega
    subst a b
    exact ⟨.refl _, .refl _, fun x h _ => h⟩
  | f + 1, a, b, ha, hb, hfl => by
    unfold commonN
    by_cases h : b < a
    · rw [if_pos h]
      have hfa := hf a (by omega) ha
      obtain ⟨h1, h2, h3⟩ := common_da hf f (l.getD a 0) b (by omega) hb (by omega)
      refine ⟨.step (by omega) h1, h2, fun x hx hxb => h3 x ?_ hxb⟩
      have := hxb.le hf hb
      cases hx with
      | refl => omega
      | step _ hx => exact hx
    · rw [if_neg h]
      by_cases h' : a < b
      · rw [if_pos h']
        have hfb := hf b (by omega) hb
        obtain ⟨h1, h2, h3⟩ := common_da hf f a (l.getD b 0) ha (by omega) (by omega)
        refine ⟨h1, .step (by omega) h2, fun x hx hxb => h3 x hx ?_⟩
        have := hx.le hf ha
        cases hxb with
        | refl => omega
        | step _ hxb => exact hxb
      · rw [if_neg h']
        have : a = b := by omega
        subst this
        exact ⟨.refl _, .refl _, fun x hx _ => hx⟩
/-- What stands above a number: the last in common of its parent and its half. -/
structure Nca (s : St) (half : List Nat) (D : List Nat) (w : Nat) : Prop where
  one : DA D (D.getD w 0) (s.parent.getD w 0).toNat
  two : DA D (D.getD w 0) (half.getD w 0)
  all : ∀ x, DA D x (s.parent.getD w 0).toNat → DA D x (half.getD w 0) → DA D x (D.getD w 0)
/-- What has been laid of the rows above and idom after so many numbers. -/
structure Laid (s : St) (half : List Nat) (d : List Nat × List Int) (j : Nat) : Prop where
  ab : Above s d
  nca : ∀ w, 0 < w → w ≤ j → w < s.came.length → Nca s half d.1 w
  idom : ∀ w, 0 < w → w ≤ j → w < s.came.length → d.2.getD (s.came.getD w 0) (-1) = (s.came.getD (d.1.getD w 0) 0 : Nat)
  rest : ∀ b, b < s.number.length → (∀ w, 0 < w → w ≤ j → w < s.came.length → s.came.getD w 0 ≠ b) → d.2.getD b (-1) = -1
theorem laid_step {T : G} {s : St} {half : List Nat} {d : List Nat × List Int} {j : Nat} (h : Dfs T s) (hl : ∀ i, half.getD i 0 ≤ i) (hlt : ∀ w, 0 < w → w < s.came.length → half.getD w 0 < w) (hd : Laid s half d j) (hj : j + 1 < s.came.length) : Laid s half (domStep s half d (j + 1)) (j + 1) := by
  have hp := h.know.inv.parent
  have hr : Rooted s := fun n h1 h2 => by obtain ⟨q, hq, _⟩ := h.up n h1 h2; rw [hq]; omega
  obtain ⟨hab, hcl⟩ := domStep_above (n := j + 1) hd.ab hp h.know.ups hr hl (by omega) hj
  obtain ⟨hpq, hpl⟩ := parent_nat (n := j + 1) hp h.know.ups hr (by omega) hj
  have hhl := hlt (j + 1) (by omega) hj
  have hlen := hd.ab.above
  obtain ⟨c1, c2, c3⟩ := common_da hd.ab.falls ((s.parent.getD (j + 1) 0).toNat + half.getD (j + 1) 0) (s.parent.getD (j + 1) 0).toNat (half.getD (j + 1) 0) (by omega) (by omega) (Nat.le_refl _)
  obtain ⟨a, ha⟩ : ∃ a, commonN d.1 ((s.parent.getD (j + 1) 0).toNat + half.getD (j + 1) 0) (s.parent.getD (j + 1) 0).toNat (half.getD (j + 1) 0) = a := ⟨_, rfl⟩
  have e1 : (domStep s half d (j + 1)).1 = d.1.set (j + 1) a := by rw [← ha]; rfl
  have e2 : (domStep s half d (j + 1)).2 = d.2.set (s.came.getD (j + 1) 0) (s.came.getD a 0 : Nat) := by rw [← ha]; rfl
  rw [ha] at c1 c2 c3 hcl
  have g1 : ∀ z, (domStep s half d (j + 1)).1.getD z 0 = if j + 1 = z then a else d.1.getD z 0 := fun z => by
    rw [e1, getD_set]
    by_cases hz : j + 1 = z
    · rw [if_pos ⟨hz, by omega⟩, if_pos hz]
    · rw [if_neg (fun y => hz y.1), if_neg hz]
  have old : ∀ {x y}, y ≤ j → DA d.1 x y → DA (domStep s half d (j + 1)).1 x y := fun hy hx => hx.congr hd.ab.falls (by omega) (fun z hz => by rw [g1, if_neg (by omega)])
  have new : ∀ {x y}, y ≤ j → DA (domStep s half d (j + 1)).1 x y → DA d.1 x y := fun hy hx => hx.congr hab.falls (by rw [hab.above]; omega) (fun z hz => by rw [g1, if_neg (by omega)])
  have hinj : ∀ w, w ≤ j → w < s.came.length → s.came.getD (j + 1) 0 ≠ s.came.getD w 0 := fun w hw hwk e => by have := h.know.inj hj hwk e; omega
  have hcn : s.came.getD (j + 1) 0 < d.2.length := by rw [hd.ab.idom, h.know.inv.number]; exact (h.know.came (j + 1) hj).1
  refine ⟨hab, fun w h0 hw hwk => ?_, fun w h0 hw hwk => ?_, fun b hb hno => ?_⟩
  · by_cases hwj : w = j + 1
    · subst hwj
      refine ⟨?_, ?_, fun x hx hx2 => ?_⟩
      · rw [g1, if_pos rfl]; exact old (by omega) c1
      · rw [g1, if_pos rfl]; exact old (by omega) c2
      · rw [g1, if_pos rfl]
        exact old (by omega) (c3 x (new (by omega) hx) (new (by omega) hx2))
    · have hn := hd.nca w h0 (by omega) hwk
      obtain ⟨_, hpw⟩ := parent_nat hp h.know.ups hr h0 hwk
      have hhw := hlt w h0 hwk
      have hdw := hd.ab.falls w h0 (by omega)
      refine ⟨?_, ?_, fun x hx hx2 => ?_⟩
      · rw [g1, if_neg (by omega)]; exact old (by omega) hn.one
      · rw [g1, if_neg (by omega)]; exact old (by omega) hn.two
      · rw [g1, if_neg (by omega)]; exact old (by omega) (hn.all x (new (by omega) hx) (new (by omega) hx2))
  · by_cases hwj : w = j + 1
    · subst hwj
      rw [e2, getD_set, if_pos ⟨rfl, hcn⟩, g1, if_pos rfl]
    · rw [e2, getD_set, if_neg (fun y => hinj w (by omega) hwk y.1), g1, if_neg (by omega)]
      exact hd.idom w h0 (by omega) hwk
  · rw [e2, getD_set, if_neg (fun y => hno (j + 1) (by omega) (Nat.le_refl _) hj y.1)]
    exact hd.rest b hb (fun w h0 hw hwk => hno w h0 (by omega) hwk)
theorem laid_all {T : G} {s : St} {half : List Nat} (h : Dfs T s) (hl : ∀ i, half.getD i 0 ≤ i) (hlt : ∀ w, 0 < w → w < s.came.length → half.getD w 0 < w) : ∀ j, j < s.came.length → Laid s half (domTo s half j) j
  | 0, hj => by
    have hp := h.know.inv.parent
    have hr : Rooted s := fun n h1 h2 => by obtain ⟨q, hq, _⟩ := h.up n h1 h2; rw [hq]; omega
    refine ⟨domTo_above hp h.know.ups hr hl 0 (Or.inr rfl), fun w h0 hw => by omega, fun w h0 hw => by omega, fun b hb _ => ?_⟩
    show (List.replicate s.number.length (-1 : Int)).getD b (-1) = -1
    rw [List.getD_eq_getElem?_getD, List.getElem?_replicate]
    split <;> rfl
  | j + 1, hj => by
    rw [domTo_succ]
    exact laid_step h hl hlt (laid_all h hl hlt j (by omega)) hj
section
variable {g : List (List Int)} {half D : List Nat}
/-- All that is known of a walk, its halves, and what stands above. -/
structure Tree2 (g : List (List Int)) (s : St) (half D : List Nat) : Prop where
  dfs : Dfs (tidyN g) s
  pos : 0 < g.length
  falls : Falls D
  len : D.length = s.came.length
  nca : ∀ w, 0 < w → w < s.came.length → Nca s half D w
  lt : ∀ w, 0 < w → w < s.came.length → half.getD w 0 < w
  hop : ∀ w, 0 < w → w < s.came.length → Hop (tidyN g) s w (half.getD w 0)
  anc : ∀ w, 0 < w → w < s.came.length → Anc s.parent (half.getD w 0) w
  le1 : ∀ v w, 0 < w → w < s.came.length → v < s.came.length → s.came.getD w 0 ∈ (tidyN g).getD (s.came.getD v 0) [] → v < w → half.getD w 0 ≤ v
  le2 : ∀ v w, 0 < w → w < s.came.length → v < s.came.length → s.came.getD w 0 ∈ (tidyN g).getD (s.came.getD v 0) [] → w < v → ∀ u, Anc s.parent u v → w < u → half.getD w 0 ≤ half.getD u 0
variable {s : St}
theorem par_nat {T : G} (h : Dfs T s) {w q : Nat} (e : s.parent.getD w (-1) = (q : Int)) : (s.parent.getD w 0).toNat = q := by
  have : w < s.parent.length := getD_lt (by rw [e]; omega)
  rw [List.getD_eq_getElem?_getD, List.getElem?_eq_getElem this] at e ⊢
  simp only [Option.getD_some] at e ⊢
  rw [e]; rfl
theorem anc_cases {u : List Int} {x y q : Nat} (h : Anc u x y) (hne : x ≠ y) (e : u.getD y (-1) = (q : Int)) : Anc u x q := by
  cases h with
  | refl => exact absurd rfl hne
  | @step _ z e' hz =>
    rw [e] at e'
    have : q = z := by omega
    subst this
    exact hz
theorem da_cases {x y : Nat} (h : DA D x y) (hne : x ≠ y) : 0 < y ∧ DA D x (D.getD y 0) := by
  cases h with
  | refl => exact absurd rfl hne
  | step h0 h => exact ⟨h0, h⟩
/-- What stands above y, and not below z on the way down the tree to it, stands above z. -/
theorem da_up (t : Tree2 g s half D) {x z y : Nat} (hA : Anc s.parent z y) : y < s.came.length → DA D x y → x ≤ z → DA D x z := by
  induction hA with
  | refl => intro _ h _; exact h
  | @step y q e hzq ih =>
    intro hy h hxz
    have hq := ups_lt t.dfs.know.ups e
    have hz := hzq.le t.dfs.know.ups
    obtain ⟨h0, h1⟩ := da_cases h (by omega)
    have hn := (t.nca y h0 hy).one
    rw [par_nat t.dfs e] at hn
    exact ih (by omega) (h1.trans hn) hxz
theorem da_parent (t : Tree2 g s half D) {v w : Nat} (h0 : 0 < w) (hw : w < s.came.length) (hv : v < s.came.length) (he : s.came.getD w 0 ∈ (tidyN g).getD (s.came.getD v 0) []) : DA D (D.getD w 0) v := by
  have hu := t.dfs.know.ups
  have hn := t.nca w h0 hw
  have hd : D.getD w 0 ≤ half.getD w 0 := hn.two.le t.falls (by have := t.lt w h0 hw; have := t.len; omega)
  obtain ⟨q, hq, hqw, _⟩ := t.dfs.up w h0 hw
  have hn1 := hn.one
  rw [par_nat t.dfs hq] at hn1
  have hself : DA D (D.getD w 0) w := .step h0 (.refl _)
  rcases Nat.lt_trichotomy v w with hvw | hvw | hvw
  · have h1 := t.le1 v w h0 hw hv he hvw
    obtain ⟨j, hj, ej, _, hA⟩ := t.dfs.goes v hv _ he
    rw [Know.num t.dfs.know hw] at ej
    have : w = j := by omega
    subst this
    exact da_up t (anc_cases (hA hvw) (by omega) hq) (by omega) hn1 (by omega)
  · subst hvw; exact hself
  · have key : ∀ u, Anc s.parent u v → D.getD w 0 ≤ u → DA D (D.getD w 0) u := by
      intro u
      induction u using Nat.strongRecOn with
      | ind u ih =>
        intro hA hdu
        have huv := hA.le hu
        by_cases huw : u ≤ w
        · have hAw := anc_between t.dfs hA huw (by omega) hv
          by_cases hue : u = w
          · subst hue; exact hself
          · exact da_up t (anc_cases hAw hue hq) (by omega) hn1 hdu
        · obtain ⟨z, hz, hzu, _⟩ := t.dfs.up u (by omega) (by omega)
          have hnu := t.nca u (by omega) (by omega)
          have h2 := t.le2 v w h0 hw hv he hvw u hA (by omega)
          have hA2 := anc_cases (t.anc u (by omega) (by omega)) (by have := t.lt u (by omega) (by omega); omega) hz
          have hle := hA2.le hu
          have hAz : Anc s.parent z v := (Anc.step hz (.refl _)).trans hA
          have hz1 := ih z hzu hAz (by omega)
          refine .step (by omega) (hnu.all _ ?_ ?_)
          · rw [par_nat t.dfs hz]; exact hz1
          · exact da_up t hA2 (by omega) hz1 (by omega)
    have := t.lt w h0 hw
    exact key v (.refl _) (by omega)
/-- What stands above dominates. -/
theorem da_sound (t : Tree2 g s half D) {x : Nat} (hx : x < s.came.length) {b : Nat} (hw : Way g (s.came.getD x 0 : Nat) b) : ∀ i, i < s.came.length → s.came.getD i 0 = b → ¬ DA D x i := by
  induction hw with
  | root _ hne =>
    intro i hi e hd
    have : i = 0 := t.dfs.know.inj hi t.dfs.some (by rw [e, t.dfs.zero])
    subst this
    have := hd.zero
    subst this
    exact hne (by rw [t.dfs.zero]; rfl)
  | step ha he hne ih =>
    intro w hw e hd
    obtain ⟨v, hv, ev⟩ := (way_came t.dfs t.pos).1 (by
      have : ∀ {b}, Way g (s.came.getD x 0 : Nat) b → Way g (-1) b := by
        intro b hb
        induction hb with
        | root h _ => exact .root h (by decide)
        | step _ h _ ih => exact .step ih h (by omega)
      exact this ha)
    have hxw : x ≠ w := fun e' => hne (by rw [← e, e'])
    obtain ⟨h0, h1⟩ := da_cases hd hxw
    have hp := da_parent t h0 hw hv (by rw [e, ev]; exact edge_T.1 he)
    exact ih v hv ev (h1.trans hp)
theorem hop_way (t : Tree2 g s half D) {x w v : Nat} (hx : x < s.came.length) (hw : w < s.came.length) (hxw : x < w) (hh : Hop (tidyN g) s w v) (hv : Way g (s.came.getD x 0 : Nat) (s.came.getD v 0)) : Way g (s.came.getD x 0 : Nat) (s.came.getD w 0) := by
  have hne : ∀ {y}, y < s.came.length → x < y → ((s.came.getD y 0 : Nat) : Int) ≠ ((s.came.getD x 0 : Nat) : Int) := fun hy hxy e => by have := t.dfs.know.inj hx hy (by omega); omega
  induction hh with
  | edge _ he => exact .step hv (edge_T.2 he) (hne hw hxw)
  | step _ he hy hwy _ ih => exact ih (.step hv (edge_T.2 he) (hne hy (by omega)))
/-- What dominates stands above. -/
theorem da_complete (t : Tree2 g s half D) {x : Nat} (hx : x < s.came.length) : ∀ {w : Nat}, w < s.came.length → (x = w ∨ ¬ Way g (s.came.getD x 0 : Nat) (s.came.getD w 0)) → DA D x w := by
  intro w
  induction w using Nat.strongRecOn with
  | ind w ih =>
    intro hw h
    by_cases hxw : x = w
    · subst hxw; exact .refl _
    · have hnw := h.resolve_left hxw
      have hA : Anc s.parent x w := Classical.byContradiction fun hn => hnw (way_avoid t.dfs t.pos hx hw hn)
      have hle := hA.le t.dfs.know.ups
      have h0 : 0 < w := by omega
      obtain ⟨q, hq, hqw, he, _⟩ := t.dfs.up w h0 hw
      have hne : ((s.came.getD w 0 : Nat) : Int) ≠ ((s.came.getD x 0 : Nat) : Int) := fun e => by have := t.dfs.know.inj hx hw (by omega); omega
      have hn := t.nca w h0 hw
      refine .step h0 (hn.all x ?_ ?_)
      · rw [par_nat t.dfs hq]
        refine ih q hqw (by omega) (Or.inr fun hway => hnw (.step hway (edge_T.2 he) hne))
      · have hlt := t.lt w h0 hw
        refine ih _ hlt (by omega) (Or.inr fun hway => hnw (hop_way t hx hw (by omega) (t.hop w h0 hw) hway))
theorem da_dom (t : Tree2 g s half D) {x w : Nat} (hx : x < s.came.length) (hw : w < s.came.length) : DA D x w ↔ domB g (s.came.getD x 0 : Nat) (s.came.getD w 0 : Nat) = true := by
  rw [domB_iff]
  constructor
  · intro h
    refine ⟨(way_came t.dfs t.pos).2 ⟨x, hx, rfl⟩, (way_came t.dfs t.pos).2 ⟨w, hw, rfl⟩, Or.inr fun hway => da_sound t hx hway w hw rfl h⟩
  · rintro ⟨_, _, h⟩
    refine da_complete t hx hw (h.elim (fun e => Or.inl (t.dfs.know.inj hx hw e)) Or.inr)
end
end Go.Proofs.Ytdfehpcbcgbidaa.Gl
/- Plain mathematics: chains of Idom tell just who dominates. -/
namespace Go.Proofs.Ytdfehpcbcgbidaa.Gl
open Go.ChangeShapes Go.WideShapes Go.ChangeAt Go.RowKit Go.Proofs.Ytdfehpcbcgbidaa.Mem Go.Proofs.Ytdfehpcbcgbidaa.Gr Go.Proofs.Ytdfehpcbcgbidaa.Gn Go.Proofs.Ytdfehpcbcgbidaa.Gc
set_option linter.unusedVariables false
/-- What stands above each number, in the walk of a graph. -/
def aboveN (T : G) : List Nat := (domTo (walkN T) (halvesN (walkN T) (turnN T)) ((walkN T).came.length - 1)).1
theorem laid_walk {g : List (List Int)} (h0 : 0 < g.length) : Laid (walkN (tidyN g)) (halvesN (walkN (tidyN g)) (turnN (tidyN g))) (domTo (walkN (tidyN g)) (halvesN (walkN (tidyN g)) (turnN (tidyN g))) ((walkN (tidyN g)).came.length - 1)) ((walkN (tidyN g)).came.length - 1) := by
  have hT := tidyN_neat g
  have hp : 0 < (tidyN g).length := by rw [tidyN_len]; exact h0
  have h := walkN_dfs hT.ok hp
  have hs := h.some
  exact laid_all h (fun i => halves_low _ _ i) (fun w h1 h2 => (halves_fin hT hp h1 h2).lt) _ (by omega)
theorem tree2 {g : List (List Int)} (h0 : 0 < g.length) : Tree2 g (walkN (tidyN g)) (halvesN (walkN (tidyN g)) (turnN (tidyN g))) (aboveN (tidyN g)) := by
  have hT := tidyN_neat g
  have hp : 0 < (tidyN g).length := by rw [tidyN_len]; exact h0
  have h := walkN_dfs hT.ok hp
  have hl := laid_walk h0
  have hf := fun w h1 h2 => halves_fin (w := w) hT hp h1 h2
  refine ⟨h, h0, hl.ab.falls, hl.ab.above, fun w h1 h2 => hl.nca w h1 (by omega) h2, fun w h1 h2 => (hf w h1 h2).lt, fun w h1 h2 => (hf w h1 h2).hop, fun w h1 h2 => (hf w h1 h2).anc, fun v w h1 h2 hv he hlt => ?_, fun v w h1 h2 hv he hlt u hA hu => ?_⟩
  · exact (hf w h1 h2).le1 _ ((mem_turnN hT).2 he) v (Know.num h.know hv) hlt
  · exact (hf w h1 h2).le2 _ ((mem_turnN hT).2 he) v (Know.num h.know hv) hlt u hA hu
section
variable {g : List (List Int)}
theorem idom_len (g : List (List Int)) : (idomN (tidyN g)).length = g.length := by
  unfold idomN dominatorsN
  rw [domTo_len, (walk_inv (tidyN_ok g)).number, tidyN_len]
theorem idom_zero (l : List Int) {b : Nat} (h : b < l.length) : l.getD b 0 = l.getD b (-1) := by
  rw [List.getD_eq_getElem?_getD, List.getD_eq_getElem?_getD, List.getElem?_eq_getElem h]; rfl
theorem idom_at (h0 : 0 < g.length) {w : Nat} (h1 : 0 < w) (h2 : w < (walkN (tidyN g)).came.length) : (idomN (tidyN g)).getD ((walkN (tidyN g)).came.getD w 0) (-1) = ((walkN (tidyN g)).came.getD ((aboveN (tidyN g)).getD w 0) 0 : Nat) :=
  (laid_walk h0).idom w h1 (by omega) h2
theorem idom_none (h0 : 0 < g.length) {b : Nat} (hb : b < g.length) (hno : ∀ w, 0 < w → w < (walkN (tidyN g)).came.length → (walkN (tidyN g)).came.getD w 0 ≠ b) : (idomN (tidyN g)).getD b (-1) = -1 :=
  (laid_walk h0).rest b (by rw [(walk_inv (tidyN_ok g)).number, tidyN_len]; exact hb) (fun w h1 _ h3 => hno w h1 h3)
theorem came_lt (h0 : 0 < g.length) {w : Nat} (h : w < (walkN (tidyN g)).came.length) : (walkN (tidyN g)).came.getD w 0 < g.length := by
  have := ((tree2 h0).dfs.know.came w h).1
  rw [tidyN_len] at this; exact this
theorem above_lt (h0 : 0 < g.length) {w : Nat} (h1 : 0 < w) (h2 : w < (walkN (tidyN g)).came.length) : (aboveN (tidyN g)).getD w 0 < w := (tree2 h0).falls w h1 (by rw [(tree2 h0).len]; exact h2)
end
end Go.Proofs.Ytdfehpcbcgbidaa.Gl
end
section
/- What jacquardref02's Headers answers: the blocks to which edges come back from blocks that they dominate. -/
namespace Go.Proofs.Ytdfehpcbcgbidaa.Gr
open Go.ChangeShapes Go.WideShapes Go.ChangeAt Go.RowKit Go.Proofs.Ytdfehpcbcgbidaa.Mem
set_option linter.unusedVariables false
end Go.Proofs.Ytdfehpcbcgbidaa.Gr
/- What jacquardref02's Idom answers: for each block the last of those that dominate it. -/
namespace Go.Proofs.Ytdfehpcbcgbidaa.Gr
open Go.ChangeShapes Go.WideShapes Go.ChangeAt Go.RowKit Go.Proofs.Ytdfehpcbcgbidaa.Mem
set_option linter.unusedVariables false
end Go.Proofs.Ytdfehpcbcgbidaa.Gr
/- What jacquardref02's Reducible answers. -/
namespace Go.Proofs.Ytdfehpcbcgbidaa.Gr
open Go.ChangeShapes Go.WideShapes Go.ChangeAt Go.RowKit Go.Proofs.Ytdfehpcbcgbidaa.Mem
set_option linter.unusedVariables false
end Go.Proofs.Ytdfehpcbcgbidaa.Gr
/- What jacquardref02's Body answers: the blocks of a loop. -/
namespace Go.Proofs.Ytdfehpcbcgbidaa.Gr
open Go.ChangeShapes Go.WideShapes Go.ChangeAt Go.RowKit Go.Proofs.Ytdfehpcbcgbidaa.Mem
set_option linter.unusedVariables false
/-- Does b go back to h? -/
def hit (g : List (List Int)) (h : Int) (b : Nat) : Bool := edgeB g b h && domB g h b
def hitAt (g : List (List Int)) (h : Int) (S : List Bool) (b : Nat) : List Bool := if hit g h b then S.set b true else S
def hitTo (g : List (List Int)) (h : Int) (k : Nat) : List Bool := (List.range k).foldl (hitAt g h) (List.replicate g.length false)
def growAt (g : List (List Int)) (h : Int) (a : Nat) (S : List Bool) (b : Int) : List Bool := if (withoutL g (-1)).getD a false && b != h && S.getD b.toNat false then S.set a true else S
def grows (g : List (List Int)) (h : Int) (a : Nat) (S : List Bool) (k : Nat) : List Bool := ((nextL g a).take k).foldl (growAt g h a) S
def growTo (g : List (List Int)) (h : Int) (S : List Bool) (k : Nat) : List Bool := (List.range k).foldl (fun S a => grows g h a S (nextL g a).length) S
def rounds (g : List (List Int)) (h : Int) : Nat → List Bool
  | 0 => (hitTo g h g.length).set h.toNat true
  | k + 1 => growTo g h (rounds g h k) g.length
end Go.Proofs.Ytdfehpcbcgbidaa.Gr
end
section
/- Plain mathematics: what package graph tells is what the document says: spans, headers, reducibility, immediate dominators, bodies; trees. -/
/- Plain mathematics: the spans of numbers nest as dominators do; no count is beyond the number of blocks. -/
namespace Go.Proofs.Ytdfehpcbcgbidaa.Gl
open Go.ChangeShapes Go.WideShapes Go.ChangeAt Go.RowKit Go.Proofs.Ytdfehpcbcgbidaa.Mem Go.Proofs.Ytdfehpcbcgbidaa.Gr Go.Proofs.Ytdfehpcbcgbidaa.Gn Go.Proofs.Ytdfehpcbcgbidaa.Gc
set_option linter.unusedVariables false
/-- The counts after k numbers, the greatest first. -/
def cntK (N : Nat) (D : Nat → Nat) : Nat → Nat → Nat
  | 0, _ => 0
  | k + 1, x => if x = N - 1 - k then cntK N D k x + 1 else if N - 1 - k ≠ 0 ∧ x = D (N - 1 - k) then cntK N D k x + (cntK N D k (N - 1 - k) + 1) else cntK N D k x
def cntA (N : Nat) (D : Nat → Nat) (x : Nat) : Nat := cntK N D N x
/-- What comes next after k numbers, the least first. -/
def nxtK (N : Nat) (D : Nat → Nat) : Nat → Nat → Nat
  | 0, _ => 0
  | k + 1, x => if x = k then (if k = 0 then 0 else nxtK N D k (D k)) + 1 else if k ≠ 0 ∧ x = D k then nxtK N D k x + cntA N D k else nxtK N D k x
def frK (N : Nat) (D : Nat → Nat) (k : Nat) : Nat := if k = 0 then 0 else nxtK N D k (D k)
def sumTo (f : Nat → Nat) : Nat → Nat
  | 0 => 0
  | n + 1 => sumTo f n + f n
theorem sumTo_congr {f h : Nat → Nat} : ∀ {n : Nat}, (∀ x, x < n → f x = h x) → sumTo f n = sumTo h n
  | 0, _ => rfl
  | n + 1, e => by unfold sumTo; rw [sumTo_congr (fun x hx => e x (by omega)), e n (by omega)]
theorem sumTo_bump {f h : Nat → Nat} {p v : Nat} (hp : h p = f p + v) (hr : ∀ x, x ≠ p → h x = f x) : ∀ {n : Nat}, p < n → sumTo h n = sumTo f n + v
  | 0, e => absurd e (Nat.not_lt_zero _)
  | n + 1, e => by
    unfold sumTo
    by_cases hn : n = p
    · subst hn
      rw [hp, sumTo_congr (fun x hx => hr x (by omega))]; omega
    · rw [hr n hn, sumTo_bump hp hr (n := n) (by omega)]; omega
theorem sumTo_le (f : Nat → Nat) : ∀ {n x : Nat}, x < n → f x ≤ sumTo f n
  | 0, _, e => absurd e (Nat.not_lt_zero _)
  | n + 1, x, e => by
    unfold sumTo
    by_cases hn : x = n
    · subst hn; omega
    · have := sumTo_le f (n := n) (x := x) (by omega); omega
section
variable {N : Nat} {D : Nat → Nat}
theorem cnt_sum (hD : ∀ x, 0 < x → x < N → D x < x) : ∀ k, k ≤ N → sumTo (cntK N D k) (N - k) = if k = N ∧ 0 < N then 0 else k := by
  intro k
  induction k with
  | zero =>
    intro _
    have : ∀ n, sumTo (cntK N D 0) n = 0 := by
      intro n
      induction n with
      | zero => rfl
      | succ n ih => unfold sumTo; rw [ih]; rfl
    rw [this]; split <;> rfl
  | succ k ih =>
    intro hk
    have h := ih (by omega)
    rw [if_neg (by omega)] at h
    by_cases h0 : N - 1 - k = 0
    · rw [show N - (k + 1) = 0 by omega]
      rw [if_pos (by omega)]; rfl
    · rw [if_neg (by omega)]
      rw [show N - k = (N - 1 - k) + 1 by omega] at h
      unfold sumTo at h
      rw [show N - (k + 1) = N - 1 - k by omega]
      have hd := hD (N - 1 - k) (by omega) (by omega)
      have h1 : sumTo (cntK N D (k + 1)) (N - 1 - k) = sumTo (fun x => if x = D (N - 1 - k) then cntK N D k x + (cntK N D k (N - 1 - k) + 1) else cntK N D k x) (N - 1 - k) := by
        refine sumTo_congr fun x hx => ?_
        show (if x = N - 1 - k then _ else _) = _
        rw [if_neg (by omega)]
        by_cases e : x = D (N - 1 - k)
        · rw [if_pos ⟨h0, e⟩, if_pos e]
        · rw [if_neg (fun hh => e hh.2), if_neg e]
      rw [h1, sumTo_bump (f := cntK N D k) (p := D (N - 1 - k)) (v := cntK N D k (N - 1 - k) + 1) (by rw [if_pos rfl]) (fun x hx => by rw [if_neg hx]) hd]
      omega
/-- A number's count no longer changes once it is counted. -/
theorem cnt_done (hD : ∀ x, 0 < x → x < N → D x < x) {x : Nat} (hx : x < N) : ∀ k, N - x ≤ k → k ≤ N → cntK N D k x = cntK N D (N - 1 - x) x + 1 := by
  intro k
  induction k with
  | zero => intro h _; omega
  | succ k ih =>
    intro h hk
    show (if x = N - 1 - k then _ else _) = _
    by_cases e : x = N - 1 - k
    · rw [if_pos e, show N - 1 - x = k by omega]
    · rw [if_neg e]
      by_cases e2 : N - 1 - k ≠ 0 ∧ x = D (N - 1 - k)
      · have := hD (N - 1 - k) (by omega) (by omega)
        omega
      · rw [if_neg e2]; exact ih (by omega) (by omega)
theorem cnt_is (hD : ∀ x, 0 < x → x < N → D x < x) {x : Nat} (hx : x < N) : cntA N D x = cntK N D (N - 1 - x) x + 1 := cnt_done hD hx N (by omega) (Nat.le_refl _)
theorem cnt_le (hD : ∀ x, 0 < x → x < N → D x < x) : ∀ k, k ≤ N → ∀ x, x < N → cntK N D k x ≤ N := by
  have low : ∀ k, k < N → ∀ x, x < N - k → cntK N D k x ≤ k := by
    intro k hk x hx
    have h := cnt_sum hD k (by omega)
    rw [if_neg (by omega)] at h
    have := sumTo_le (cntK N D k) hx
    omega
  intro k hk x hx
  by_cases h : x < N - k
  · have := low k (by omega) x h; omega
  · rw [cnt_done hD hx k (by omega) hk]
    have := low (N - 1 - x) (by omega) x (by omega)
    omega
/-- A child's part of its parent's count. -/
theorem cnt_child (hD : ∀ x, 0 < x → x < N → D x < x) {k x : Nat} (hk : k < N) (hx : x < k) : cntK N D (N - k) x = if k ≠ 0 ∧ x = D k then cntK N D (N - (k + 1)) x + cntA N D k else cntK N D (N - (k + 1)) x := by
  rw [show N - k = (N - (k + 1)) + 1 by omega]
  show (if x = N - 1 - (N - (k + 1)) then _ else _) = _
  rw [show N - 1 - (N - (k + 1)) = k by omega, if_neg (by omega), cnt_is hD hk, show N - 1 - k = N - (k + 1) by omega]
theorem nxt_succ (k x : Nat) : nxtK N D (k + 1) x = if x = k then frK N D k + 1 else if k ≠ 0 ∧ x = D k then nxtK N D k x + cntA N D k else nxtK N D k x := rfl
/-- What is laid out and what is still to be laid out make up the whole. -/
theorem nxt_law (hD : ∀ x, 0 < x → x < N → D x < x) : ∀ k, k ≤ N → (∀ x, x < k → nxtK N D k x + cntK N D (N - k) x = frK N D x + cntA N D x ∧ frK N D x + 1 ≤ nxtK N D k x) ∧ (∀ z, 0 < z → z < k → frK N D z + cntA N D z ≤ nxtK N D k (D z)) := by
  intro k
  induction k with
  | zero => intro _; exact ⟨fun x hx => by omega, fun z _ hz => by omega⟩
  | succ k ih =>
    intro hk
    obtain ⟨h1, h2⟩ := ih (by omega)
    refine ⟨fun x hx => ?_, fun z hz0 hz => ?_⟩
    · rw [nxt_succ]
      by_cases e : x = k
      · subst e
        rw [if_pos rfl]
        have := cnt_is hD (x := x) (by omega)
        rw [show N - 1 - x = N - (x + 1) by omega] at this
        exact ⟨by omega, Nat.le_refl _⟩
      · rw [if_neg e]
        have h3 := h1 x (by omega)
        have h4 := cnt_child hD (k := k) (x := x) (by omega) (by omega)
        by_cases e2 : k ≠ 0 ∧ x = D k
        · rw [if_pos e2] at h4 ⊢; exact ⟨by omega, by omega⟩
        · rw [if_neg e2] at h4 ⊢; exact ⟨by omega, by omega⟩
    · rw [nxt_succ]
      have hd := hD z hz0 (by omega)
      rw [if_neg (by omega)]
      by_cases e : z = k
      · subst e
        rw [if_pos ⟨by omega, rfl⟩]
        show (if z = 0 then _ else _) + _ ≤ _
        rw [if_neg (by omega)]; exact Nat.le_refl _
      · have h3 := h2 z hz0 (by omega)
        split <;> omega
theorem fr_in (hD : ∀ x, 0 < x → x < N → D x < x) {k : Nat} (h0 : 0 < k) (hk : k < N) : frK N D (D k) + 1 ≤ frK N D k ∧ frK N D k + cntA N D k ≤ frK N D (D k) + cntA N D (D k) := by
  have hd := hD k h0 hk
  have h1 := (nxt_law hD k (by omega)).1 (D k) hd
  have h2 := cnt_child hD (k := k) (x := D k) hk hd
  rw [if_pos ⟨by omega, rfl⟩] at h2
  have h3 : frK N D k = nxtK N D k (D k) := by show (if k = 0 then _ else _) = _; rw [if_neg (by omega)]
  rw [h3]
  exact ⟨h1.2, by omega⟩
theorem cnt_pos (hD : ∀ x, 0 < x → x < N → D x < x) {x : Nat} (hx : x < N) : 0 < cntA N D x := by rw [cnt_is hD hx]; omega
theorem fr_end (hD : ∀ x, 0 < x → x < N → D x < x) : ∀ x, x < N → frK N D x + cntA N D x ≤ N := by
  intro x
  induction x using Nat.strongRecOn with
  | ind x ih =>
    intro hx
    by_cases h0 : x = 0
    · subst h0
      show 0 + cntK N D N 0 ≤ N
      have := cnt_le hD N (Nat.le_refl _) 0 hx; omega
    · have h1 := fr_in hD (k := x) (by omega) hx
      have hd := hD x (by omega) hx
      have := ih _ hd (by omega)
      omega
theorem nxt_le (hD : ∀ x, 0 < x → x < N → D x < x) {k x : Nat} (hk : k ≤ N) (hx : x < k) : nxtK N D k x ≤ N := by
  have h1 := (nxt_law hD k hk).1 x hx
  have h2 := fr_end hD x (by omega)
  omega
theorem nxt_zero (hD : ∀ x, 0 < x → x < N → D x < x) : ∀ {k x : Nat}, k ≤ N → k ≤ x → nxtK N D k x = 0
  | 0, _, _, _ => rfl
  | k + 1, x, hk, h => by
    rw [nxt_succ, if_neg (by omega)]
    by_cases e2 : k ≠ 0 ∧ x = D k
    · have := hD k (by omega) (by omega); omega
    · rw [if_neg e2, nxt_zero hD (by omega) (by omega)]
/-- x is y, or comes of it by going up. -/
inductive Up (D : Nat → Nat) : Nat → Nat → Prop
  | refl (x : Nat) : Up D x x
  | step {x y : Nat} : 0 < y → Up D x (D y) → Up D x y
theorem Up.in_ (hD : ∀ x, 0 < x → x < N → D x < x) {x : Nat} : ∀ {y : Nat}, y < N → Up D x y → frK N D x ≤ frK N D y ∧ frK N D y + cntA N D y ≤ frK N D x + cntA N D x ∧ (x ≠ y → frK N D x < frK N D y) ∧ x ≤ y := by
  intro y
  induction y using Nat.strongRecOn with
  | ind y ih =>
    intro hy h
    cases h with
    | refl => exact ⟨Nat.le_refl _, Nat.le_refl _, fun e => absurd rfl e, Nat.le_refl _⟩
    | step h0 h =>
      have hd := hD y h0 hy
      have h1 := fr_in hD h0 hy
      have h2 := ih _ hd (by omega) h
      exact ⟨by omega, by omega, fun _ => by omega, by omega⟩
/-- The child of p on the way down to x. -/
theorem Up.child (hD : ∀ x, 0 < x → x < N → D x < x) {p : Nat} : ∀ {x : Nat}, x < N → Up D p x → p ≠ x → ∃ z, 0 < z ∧ z ≤ x ∧ D z = p ∧ Up D z x := by
  intro x
  induction x using Nat.strongRecOn with
  | ind x ih =>
    intro hx h hne
    cases h with
    | refl => exact absurd rfl hne
    | step h0 h =>
      have hd := hD x h0 hx
      by_cases e : p = D x
      · exact ⟨x, h0, Nat.le_refl _, e.symm, .refl _⟩
      · obtain ⟨z, a, b, c, d⟩ := ih _ hd (by omega) h e
        exact ⟨z, a, by omega, c, .step h0 d⟩
theorem Up.trans {x y z : Nat} (h : Up D x y) (k : Up D y z) : Up D x z := by
  induction k with
  | refl => exact h
  | step h0 _ ih => exact .step h0 ih
theorem apart (hD : ∀ x, 0 < x → x < N → D x < x) : ∀ (y x : Nat), y < N → x < y → ¬ Up D x y → frK N D x + cntA N D x ≤ frK N D y ∨ frK N D y + cntA N D y ≤ frK N D x := by
  intro y
  induction y using Nat.strongRecOn with
  | ind y ih =>
    intro x hy hxy hn
    have hd := hD y (by omega) hy
    have hin := fr_in hD (k := y) (by omega) hy
    have hxp : ¬ Up D x (D y) := fun h => hn (.step (by omega) h)
    have hne : x ≠ D y := fun e => hxp (e ▸ .refl _)
    by_cases hp : Up D (D y) x
    · obtain ⟨z, a, b, c, d⟩ := Up.child hD (x := x) (by omega) hp (fun e => hne e.symm)
      have h1 := (nxt_law hD y (by omega)).2 z a (by omega)
      have h2 := Up.in_ hD (x := z) (y := x) (by omega) d
      have h3 : frK N D y = nxtK N D y (D y) := by show (if y = 0 then _ else _) = _; rw [if_neg (by omega)]
      rw [c] at h1
      exact Or.inl (by omega)
    · by_cases hlt : x < D y
      · rcases ih _ hd x (by omega) hlt hxp with h | h
        · exact Or.inl (by omega)
        · exact Or.inr (by omega)
      · rcases ih x hxy (D y) (by omega) (by omega) hp with h | h
        · exact Or.inr (by omega)
        · exact Or.inl (by omega)
theorem span_iff (hD : ∀ x, 0 < x → x < N → D x < x) {i j : Nat} (hi : i < N) (hj : j < N) : (frK N D j ≤ frK N D i ∧ frK N D i < frK N D j + cntA N D j) ↔ Up D j i := by
  have hpi := cnt_pos hD hi
  have hpj := cnt_pos hD hj
  constructor
  · rintro ⟨h1, h2⟩
    by_cases e : i = j
    · subst e; exact .refl _
    by_cases hlt : j < i
    · by_cases hu : Up D j i
      · exact hu
      · rcases apart hD i j hi hlt hu with h | h <;> omega
    · by_cases hu : Up D i j
      · have := (Up.in_ hD hj hu).2.2.1 e; omega
      · rcases apart hD j i hj (by omega) hu with h | h <;> omega
  · intro h
    have h1 := Up.in_ hD hi h
    exact ⟨h1.1, by omega⟩
end
/-- Rows laid out as Idom's are. -/
structure Row3 (came : List Nat) (idom : List Int) (D : Nat → Nat) : Prop where
  lt : ∀ x, x < came.length → came.getD x 0 < idom.length
  inj : ∀ x y, x < came.length → y < came.length → came.getD x 0 = came.getD y 0 → x = y
  zero : 0 < came.length → came.getD 0 0 = 0
  up : ∀ x, 0 < x → x < came.length → idom.getD (came.getD x 0) 0 = (came.getD (D x) 0 : Nat) ∧ D x < x
section
variable {came : List Nat} {idom : List Int} {D : Nat → Nat}
theorem Row3.lows (h : Row3 came idom D) : ∀ x, 0 < x → x < came.length → D x < x := fun x h0 hx => (h.up x h0 hx).2
theorem Row3.block (h : Row3 came idom D) {x : Nat} (hx : x < came.length) : came.getD x 0 = 0 ↔ x = 0 := by
  constructor
  · intro e; exact h.inj x 0 hx (by omega) (by rw [e, h.zero (by omega)])
  · rintro rfl; exact h.zero hx
theorem rep_getD {α : Type} (n i : Nat) (a d : α) : (List.replicate n a).getD i d = if i < n then a else d := by
  rw [List.getD_eq_getElem?_getD, List.getElem?_replicate]
  split <;> rfl
theorem count_link (h : Row3 came idom D) : ∀ k, k ≤ came.length → (∀ x, x < came.length → (countL idom (came.reverse.take k)).getD (came.getD x 0) 0 = cntK came.length D k x) ∧ (∀ b, (∀ x, x < came.length → came.getD x 0 ≠ b) → (countL idom (came.reverse.take k)).getD b 0 = 0) := by
  intro k
  induction k with
  | zero =>
    intro _
    have : ∀ b, (countL idom (came.reverse.take 0)).getD b 0 = 0 := by
      intro b
      show (List.replicate _ 0).getD b 0 = 0
      rw [rep_getD]; split <;> rfl
    exact ⟨fun x _ => this _, fun b _ => this b⟩
  | succ k ih =>
    intro hk
    obtain ⟨h1, h2⟩ := ih (by omega)
    have hr : k < came.reverse.length := by rw [List.length_reverse]; omega
    rw [List.take_succ_eq_append_getElem hr, countL_snoc]
    have hb : came.reverse[k] = came.getD (came.length - 1 - k) 0 := by
      rw [List.getElem_reverse, getD_at (by omega)]
    rw [hb]
    have hl := countL_len idom (came.reverse.take k)
    have hm : came.length - 1 - k < came.length := by omega
    generalize hM : came.length - 1 - k = m at *
    have hmb := h.lt m hm
    have em := h1 m hm
    generalize countL idom (came.reverse.take k) = c at *
    have hc1 : ∀ j, (c.set (came.getD m 0) (c.getD (came.getD m 0) 0 + 1)).getD j 0 = if came.getD m 0 = j then cntK came.length D k m + 1 else c.getD j 0 := by
      intro j
      rw [getD_set, em]
      by_cases e : came.getD m 0 = j
      · rw [if_pos ⟨e, by omega⟩, if_pos e]
      · rw [if_neg (fun hh => e hh.1), if_neg e]
    by_cases hz : m = 0
    · have hst : countStep idom c (came.getD m 0) = c.set (came.getD m 0) (c.getD (came.getD m 0) 0 + 1) := by
        unfold countStep
        rw [if_pos ((h.block hm).2 hz)]
      rw [hst]
      refine ⟨fun x hx => ?_, fun b hb => ?_⟩
      · rw [hc1]
        show _ = if x = came.length - 1 - k then _ else _
        rw [hM]
        by_cases e : x = m
        · subst e; rw [if_pos rfl, if_pos rfl]
        · rw [if_neg (fun hh => e (h.inj x m hx hm hh.symm)), if_neg e, if_neg (fun hh => hh.1 hz)]
          exact h1 x hx
      · rw [hc1, if_neg (hb m hm)]
        exact h2 b hb
    · obtain ⟨hu, hd⟩ := h.up m (by omega) hm
      have hdl := h.lt (D m) (by omega)
      have hst : countStep idom c (came.getD m 0) = (c.set (came.getD m 0) (c.getD (came.getD m 0) 0 + 1)).set (came.getD (D m) 0) (cntK came.length D k (D m) + (cntK came.length D k m + 1)) := by
        unfold countStep
        rw [if_neg (fun e => hz ((h.block hm).1 e))]
        rw [hu, Int.toNat_natCast, hc1, hc1, if_pos rfl, if_neg (fun e => by have := h.inj m (D m) hm (by omega) e; omega), h1 (D m) (by omega)]
      rw [hst]
      refine ⟨fun x hx => ?_, fun b hb => ?_⟩
      · rw [getD_set, hc1]
        show _ = if x = came.length - 1 - k then _ else _
        rw [hM]
        by_cases e : x = m
        · subst e
          rw [if_neg (fun hh => by have := h.inj (D x) x (by omega) hx hh.1; omega), if_pos rfl, if_pos rfl]
        · rw [if_neg (c := x = m) e]
          by_cases e2 : x = D m
          · subst e2
            rw [if_pos ⟨rfl, by rw [List.length_set]; omega⟩, if_pos ⟨hz, rfl⟩]
          · rw [if_neg (fun hh => e2 (h.inj (D m) x (by omega) hx hh.1).symm), if_neg (fun hh => e (h.inj m x hm hx hh).symm), if_neg (fun hh => e2 hh.2)]
            exact h1 x hx
      · rw [getD_set, hc1, if_neg (fun hh => hb (D m) (by omega) hh.1), if_neg (hb m hm)]
        exact h2 b hb
theorem count_all (h : Row3 came idom D) {x : Nat} (hx : x < came.length) : (countN came idom).getD (came.getD x 0) 0 = cntA came.length D x := by
  have h1 := (count_link h came.length (Nat.le_refl _)).1 x hx
  rw [List.take_of_length_le (by rw [List.length_reverse]; exact Nat.le_refl _)] at h1
  exact h1
theorem next_link (h : Row3 came idom D) : ∀ k, k ≤ came.length → (∀ x, x < came.length → (spanTo came idom k).1.getD (came.getD x 0) 0 = nxtK came.length D k x) ∧ (∀ b, (∀ x, x < came.length → came.getD x 0 ≠ b) → (spanTo came idom k).1.getD b 0 = 0) ∧
    (∀ x, x < k → (spanTo came idom k).2.getD (came.getD x 0) (0, 0) = ((frK came.length D x : Int), ((frK came.length D x + cntA came.length D x : Nat) : Int))) ∧ (∀ b, b < idom.length → (∀ x, x < k → came.getD x 0 ≠ b) → (spanTo came idom k).2.getD b (0, 0) = (-1, -1)) := by
  intro k
  induction k with
  | zero =>
    intro _
    have : ∀ b, (spanTo came idom 0).1.getD b 0 = 0 := by
      intro b
      show (List.replicate _ 0).getD b 0 = 0
      rw [rep_getD]; split <;> rfl
    refine ⟨fun x _ => this _, fun b _ => this b, fun x hx => absurd hx (Nat.not_lt_zero _), fun b hb _ => ?_⟩
    show (List.replicate _ ((-1 : Int), (-1 : Int))).getD b (0, 0) = _
    rw [rep_getD, if_pos hb]
  | succ k ih =>
    intro hk
    obtain ⟨h1, h2, h3, h4⟩ := ih (by omega)
    obtain ⟨l1, l2⟩ := spanTo_len came idom k
    rw [spanTo_succ (by omega)]
    have hb : came[k] = came.getD k 0 := (getD_at (by omega) 0).symm
    rw [hb]
    have hkb := h.lt k (by omega)
    have ec := count_all h (x := k) (by omega)
    generalize hS : spanTo came idom k = st at *
    have hfr : (if came.getD k 0 = 0 then 0 else st.1.getD (idom.getD (came.getD k 0) 0).toNat 0) = frK came.length D k := by
      unfold frK
      by_cases hz : k = 0
      · rw [if_pos ((h.block (by omega)).2 hz), if_pos hz]
      · obtain ⟨hu, hd⟩ := h.up k (by omega) (by omega)
        rw [if_neg (fun e => hz ((h.block (by omega)).1 e)), if_neg hz, hu, Int.toNat_natCast, h1 (D k) (by omega)]
    have hnx : ∀ j, (if came.getD k 0 = 0 then st.1 else st.1.set (idom.getD (came.getD k 0) 0).toNat (st.1.getD (idom.getD (came.getD k 0) 0).toNat 0 + (countN came idom).getD (came.getD k 0) 0)).getD j 0 =
        if k ≠ 0 ∧ came.getD (D k) 0 = j then nxtK came.length D k (D k) + cntA came.length D k else st.1.getD j 0 := by
      intro j
      by_cases hz : k = 0
      · rw [if_pos ((h.block (by omega)).2 hz), if_neg (fun hh => hh.1 hz)]
      · obtain ⟨hu, hd⟩ := h.up k (by omega) (by omega)
        have hdl := h.lt (D k) (by omega)
        rw [if_neg (fun e => hz ((h.block (by omega)).1 e)), hu, Int.toNat_natCast, h1 (D k) (by omega), ec, getD_set]
        by_cases e : came.getD (D k) 0 = j
        · rw [if_pos ⟨e, by omega⟩, if_pos ⟨hz, e⟩]
        · rw [if_neg (fun hh => e hh.1), if_neg (fun hh => e hh.2)]
    have hnl : (if came.getD k 0 = 0 then st.1 else st.1.set (idom.getD (came.getD k 0) 0).toNat (st.1.getD (idom.getD (came.getD k 0) 0).toNat 0 + (countN came idom).getD (came.getD k 0) 0)).length = idom.length := by
      split
      · exact l1
      · rw [List.length_set]; exact l1
    have e1 : (spanStep idom (countN came idom) st (came.getD k 0)).1 = (if came.getD k 0 = 0 then st.1 else st.1.set (idom.getD (came.getD k 0) 0).toNat (st.1.getD (idom.getD (came.getD k 0) 0).toNat 0 + (countN came idom).getD (came.getD k 0) 0)).set (came.getD k 0) (frK came.length D k + 1) := by
      rw [← hfr]; rfl
    have e2 : (spanStep idom (countN came idom) st (came.getD k 0)).2 = st.2.set (came.getD k 0) ((frK came.length D k : Int), ((frK came.length D k + cntA came.length D k : Nat) : Int)) := by
      rw [← hfr, ← ec]; rfl
    rw [e1, e2]
    generalize (if came.getD k 0 = 0 then st.1 else st.1.set (idom.getD (came.getD k 0) 0).toNat (st.1.getD (idom.getD (came.getD k 0) 0).toNat 0 + (countN came idom).getD (came.getD k 0) 0)) = nx at hnx hnl
    refine ⟨fun x hx => ?_, fun b hb => ?_, fun x hx => ?_, fun b hbl hb => ?_⟩
    · rw [getD_set, hnx, nxt_succ]
      by_cases e : x = k
      · subst e; rw [if_pos ⟨rfl, by omega⟩, if_pos rfl]
      · rw [if_neg (fun hh => e (h.inj k x (by omega) hx hh.1).symm), if_neg e]
        by_cases e3 : k ≠ 0 ∧ x = D k
        · obtain ⟨ez, e3⟩ := e3
          subst e3
          rw [if_pos ⟨ez, rfl⟩, if_pos ⟨ez, rfl⟩]
        · rw [if_neg (fun hh => e3 ⟨hh.1, by
            have hd := h.lows k (by omega) (by omega)
            exact (h.inj (D k) x (by omega) hx hh.2).symm⟩), if_neg e3]
          exact h1 x hx
    · rw [getD_set, hnx, if_neg (fun hh => hb k (by omega) hh.1), if_neg (fun hh => by
        have hd := h.lows k (by omega) (by omega)
        exact hb (D k) (by omega) hh.2)]
      exact h2 b hb
    · rw [getD_set]
      by_cases e : x = k
      · subst e; rw [if_pos ⟨rfl, by omega⟩]
      · rw [if_neg (fun hh => e (h.inj k x (by omega) (by omega) hh.1).symm)]
        exact h3 x (by omega)
    · rw [getD_set, if_neg (fun hh => hb k (by omega) hh.1)]
      exact h4 b hbl (fun x hx => hb x (by omega))
theorem Row3.some (h : Row3 came idom D) (b : Nat) : (∃ x, x < came.length ∧ came.getD x 0 = b) ∨ ∀ x, x < came.length → came.getD x 0 ≠ b := by
  by_cases e : ∃ x, x < came.length ∧ came.getD x 0 = b
  · exact Or.inl e
  · exact Or.inr fun x hx hh => e ⟨x, hx, hh⟩
theorem spanned_all (h : Row3 came idom D) (hn : came.length ≤ 1000) : Spanned came idom := by
  have hin : ∀ b, b ∈ came → ∃ x, x < came.length ∧ came.getD x 0 = b := by
    intro b hb
    obtain ⟨x, hx, e⟩ := List.mem_iff_getElem.1 hb
    exact ⟨x, hx, by rw [getD_at hx, e]⟩
  refine ⟨fun b hb => ?_, fun b hb h0 => ?_, fun l hl b => ?_, fun j b => ?_⟩
  · obtain ⟨x, hx, rfl⟩ := hin b hb
    exact h.lt x hx
  · obtain ⟨x, hx, rfl⟩ := hin b hb
    have hx0 : x ≠ 0 := fun e => h0 ((h.block hx).2 e)
    obtain ⟨hu, hd⟩ := h.up x (by omega) hx
    exact ⟨_, hu, h.lt (D x) (by omega)⟩
  · obtain ⟨r, hr⟩ := hl
    have hll : l.length ≤ came.length := by
      have := congrArg List.length hr
      rw [List.length_append, List.length_reverse] at this; omega
    have hl2 : l = came.reverse.take l.length := by rw [← hr, List.take_left']; rfl
    rw [hl2]
    obtain ⟨h1, h2⟩ := count_link h l.length hll
    rcases h.some b with ⟨x, hx, rfl⟩ | hb
    · rw [h1 x hx]
      have := cnt_le h.lows l.length hll x hx; omega
    · rw [h2 b hb]; omega
  · have hj : ∃ k, k ≤ came.length ∧ spanTo came idom j = spanTo came idom k := by
      by_cases hj : j ≤ came.length
      · exact ⟨j, hj, rfl⟩
      · refine ⟨came.length, Nat.le_refl _, ?_⟩
        unfold spanTo
        rw [List.take_of_length_le (by omega), List.take_of_length_le (Nat.le_refl _)]
    obtain ⟨k, hk, e⟩ := hj
    rw [e]
    obtain ⟨h1, h2, _, _⟩ := next_link h k hk
    rcases h.some b with ⟨x, hx, rfl⟩ | hb
    · rw [h1 x hx]
      by_cases hxk : x < k
      · have := nxt_le h.lows hk hxk; omega
      · rw [nxt_zero h.lows hk (by omega)]; omega
    · rw [h2 b hb]; omega
theorem back_up (h : Row3 came idom D) {i j : Nat} (hi : i < came.length) (hj : j < came.length) : backS (spansN came idom) (came.getD i 0) (came.getD j 0) = true ↔ Up D j i := by
  obtain ⟨_, _, h3, _⟩ := next_link h came.length (Nat.le_refl _)
  rw [← span_iff h.lows hi hj]
  unfold backS spansN
  rw [h3 i hi, h3 j hj, Bool.and_eq_true, decide_eq_true_eq, decide_eq_true_eq]
  constructor
  · rintro ⟨a, b⟩; exact ⟨by omega, by omega⟩
  · rintro ⟨a, b⟩; exact ⟨by omega, by omega⟩
end
end Go.Proofs.Ytdfehpcbcgbidaa.Gl
/- Plain mathematics: headers, reducibility and predecessors, as the document says them. -/
namespace Go.Proofs.Ytdfehpcbcgbidaa.Gl
open Go.ChangeShapes Go.WideShapes Go.ChangeAt Go.RowKit Go.Proofs.Ytdfehpcbcgbidaa.Mem Go.Proofs.Ytdfehpcbcgbidaa.Gr Go.Proofs.Ytdfehpcbcgbidaa.Gn Go.Proofs.Ytdfehpcbcgbidaa.Gc
set_option linter.unusedVariables false
theorem li_filter (n : Nat) (p : Nat → Bool) : li ((List.range n).filter p) = ((List.range n).filter p).map fun b : Nat => (b : Int) := rfl
theorem filter_same {n : Nat} {p q : Nat → Bool} (h : ∀ i, i < n → p i = q i) : (List.range n).filter p = (List.range n).filter q := List.filter_congr fun i hi => h i (List.mem_range.1 hi)
/- Predecessors. -/
theorem preds_same (g : List (List Int)) : lii (turnN (tidyN g)) = predsL g := by
  unfold lii predsL predsTo
  apply List.ext_getElem
  · rw [List.length_map, List.length_map, List.length_range, turnN_len, tidyN_len]
  · intro b h1 h2
    rw [List.length_map, turnN_len, tidyN_len] at h1
    rw [List.getElem_map, List.getElem_map, List.getElem_range]
    have hb : b < (tidyN g).length := by rw [tidyN_len]; exact h1
    have e := turnN_row (tidyN_neat g) hb
    rw [getD_at (by rw [turnN_len]; exact hb)] at e
    rw [e, tidyN_len, li_filter]
    unfold fromTo
    rw [filter_same (fun a ha => ?_)]
    rw [Bool.eq_iff_iff, List.contains_iff_mem]
    exact edge_T.symm
/- Headers. -/
/- Reducibility. -/
section
variable {g : List (List Int)}
end
end Go.Proofs.Ytdfehpcbcgbidaa.Gl
/- Plain mathematics: reducible by taking away is reducible by an order; immediate dominators, as the document says them. -/
namespace Go.Proofs.Ytdfehpcbcgbidaa.Gl
open Go.ChangeShapes Go.WideShapes Go.ChangeAt Go.RowKit Go.Proofs.Ytdfehpcbcgbidaa.Mem Go.Proofs.Ytdfehpcbcgbidaa.Gr Go.Proofs.Ytdfehpcbcgbidaa.Gn Go.Proofs.Ytdfehpcbcgbidaa.Gc
set_option linter.unusedVariables false
section
variable {g : List (List Int)}
/- Immediate dominators. -/
end
end Go.Proofs.Ytdfehpcbcgbidaa.Gl
/- Plain mathematics: a loop's body, as the document says it. -/
namespace Go.Proofs.Ytdfehpcbcgbidaa.Gl
open Go.ChangeShapes Go.WideShapes Go.ChangeAt Go.RowKit Go.Proofs.Ytdfehpcbcgbidaa.Mem Go.Proofs.Ytdfehpcbcgbidaa.Gr Go.Proofs.Ytdfehpcbcgbidaa.Gn Go.Proofs.Ytdfehpcbcgbidaa.Gc
set_option linter.unusedVariables false
/-- What a loop's body holds. -/
inductive Loop (g : List (List Int)) (h : Nat) : Nat → Prop
  | src {a : Nat} : edgeB g a h = true → domB g (h : Nat) (a : Nat) = true → Loop g h a
  | head {a : Nat} : edgeB g a h = true → domB g (h : Nat) (a : Nat) = true → Loop g h h
  | step {a b : Nat} : Way g (-1) a → edgeB g a b = true → b ≠ h → Loop g h b → Loop g h a
theorem Loop.way {g : List (List Int)} {h x : Nat} (l : Loop g h x) : Way g (-1) x := by
  cases l with
  | src _ h => exact (domB_iff.1 h).2.1
  | head _ h => exact (domB_iff.1 h).1
  | step h _ _ _ => exact h
theorem Loop.some {g : List (List Int)} {h x : Nat} (l : Loop g h x) : ∃ a : Nat, edgeB g a h = true ∧ domB g (h : Nat) (a : Nat) = true := by
  induction l with
  | src h k => exact ⟨_, h, k⟩
  | head h k => exact ⟨_, h, k⟩
  | step _ _ _ _ ih => exact ih
/- The mark. -/
section
variable {g : List (List Int)}
theorem pred_edge {a b : Nat} : a ∈ (turnN (tidyN g)).getD b [] ↔ edgeB g a b = true := by rw [mem_turnN (tidyN_neat g)]; exact edge_T.symm
/- The document's rounds. -/
end
end Go.Proofs.Ytdfehpcbcgbidaa.Gl
/- Plain mathematics: a graph whose edges go up alone, and one with an edge back to 0. -/
namespace Go.Proofs.Ytdfehpcbcgbidaa.Gl
open Go.ChangeShapes Go.WideShapes Go.ChangeAt Go.RowKit Go.Proofs.Ytdfehpcbcgbidaa.Mem Go.Proofs.Ytdfehpcbcgbidaa.Gr Go.Proofs.Ytdfehpcbcgbidaa.Gn Go.Proofs.Ytdfehpcbcgbidaa.Gc
set_option linter.unusedVariables false
end Go.Proofs.Ytdfehpcbcgbidaa.Gl
end
