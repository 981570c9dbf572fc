/- What package graph's Of answers: the rows that a function's terms name, tidied. -/
import Derived.Test.YthanbedmiaacdaaOrder
import Derived.Test.YthanbedmiaacdaaPreds
namespace Go.Proofs.Ythanbedmiaacdaa.Gc
open Go.ChangeShapes Go.WideShapes Go.ChangeAt Go.RowKit Go.Proofs.Ythanbedmiaacdaa.Mem Go.Proofs.Ythanbedmiaacdaa.Gr Go.Proofs.Ythanbedmiaacdaa.Gn Go.Proofs.Ythanbedmiaacdaa.Rp
set_option linter.unusedVariables false

/-- Blocks that lie in a row at b: the rows that their terms name are us, the numbers in them g. -/
structure Blocks (w : World) (b : Nat) (us : List Value) (g : List (List Int)) : Prop where
  len : us.length = g.length
  row : ∀ k (h : k < g.length), ∃ p0 l0 c0 p1 l1 c1 kd p3 l3 c3 p4 c4 im, us[k]? = some (.slice p4 g[k].length c4) ∧ Ints w (.slice p4 g[k].length c4) g[k] ∧
    w.cell? ⟨b, k * 6, none⟩ = some (.slice p0 l0 c0) ∧ w.cell? ⟨b, k * 6 + 1, none⟩ = some (.slice p1 l1 c1) ∧ w.cell? ⟨b, k * 6 + 2, none⟩ = some (.int .i64 kd) ∧
    w.cell? ⟨b, k * 6 + 3, none⟩ = some (.slice p3 l3 c3) ∧ w.cell? ⟨b, k * 6 + 4, none⟩ = some (.slice p4 g[k].length c4) ∧ w.cell? ⟨b, k * 6 + 5, none⟩ = some (.int .i32 im)
theorem Blocks.keep {w w' : World} {b : Nat} {us : List Value} {g : List (List Int)} (h : Blocks w b us g) (hb : Below w.heap.size w w') : Blocks w' b us g := by
  refine ⟨h.len, fun k hk => ?_⟩
  obtain ⟨p0, l0, c0, p1, l1, c1, kd, p3, l3, c3, p4, c4, im, e, hi, h0, h1, h2, h3, h4, h5⟩ := h.row k hk
  exact ⟨p0, l0, c0, p1, l1, c1, kd, p3, l3, c3, p4, c4, im, e, hi.keep hb, cell_keep hb (Nat.le_refl _) h0, cell_keep hb (Nat.le_refl _) h1, cell_keep hb (Nat.le_refl _) h2, cell_keep hb (Nat.le_refl _) h3, cell_keep hb (Nat.le_refl _) h4, cell_keep hb (Nat.le_refl _) h5⟩
theorem at_add (x k : Nat) : (⟨x, 0, none⟩ : Addr).add k = ⟨x, k, none⟩ := by cases k <;> simp [Addr.add]
/-- The first k, and nil rows behind them. -/
def upTo (us : List Value) (k : Nat) : List Value := us.take k ++ List.replicate (us.length - k) (.slice none 0 0)
theorem upTo_zero (us : List Value) : upTo us 0 = List.replicate us.length (.slice none 0 0) := by unfold upTo; rw [List.take_zero, List.nil_append, Nat.sub_zero]
theorem upTo_all (us : List Value) : upTo us us.length = us := by unfold upTo; rw [List.take_length, Nat.sub_self, List.replicate_zero, List.append_nil]
theorem upTo_set {us : List Value} {k : Nat} {u : Value} (h : us[k]? = some u) : (upTo us k).set k u = upTo us (k + 1) := by
  obtain ⟨hk, e⟩ := List.getElem?_eq_some_iff.1 h
  unfold upTo
  have hl : (us.take k).length = k := by rw [List.length_take]; omega
  rw [List.set_append, if_neg (by omega), hl, Nat.sub_self, show us.length - k = (us.length - (k + 1)) + 1 by omega, List.replicate_succ, List.set_cons_zero,
    List.take_succ_eq_append_getElem hk, e, List.append_assoc]; rfl
theorem grid_of {B : Nat} {w : World} {b n c : Nat} {us : List Value} {g : List (List Int)} (h : w.ownsRow B 23 1 (.slice (some ⟨b, 0, none⟩) n c) n us) (hn : n = g.length) (hi : ∀ k (h : k < g.length), ∃ u, us[k]? = some u ∧ Ints w u g[k]) :
    Grid w (.slice (some ⟨b, 0, none⟩) n c) g := by
  subst hn
  rcases h.2 with ⟨e, _⟩ | ⟨q, cap, cur, e, _, hg, h1, hm, _⟩
  · injection e with e; cases e
  · injection e with e1 e2 e3
    subst e3
    refine ⟨_, _, rfl, h1, hm, fun k hk => ?_⟩
    obtain ⟨u, e, hu⟩ := hi k hk
    exact ⟨_, u, rfl, World.ownsRow.cells h (g := b) rfl k _ e, hu⟩
set_option maxRecDepth 100000 in
set_option maxHeartbeats 2000000 in
theorem of_code (w : World) (p : Int) (A : Option Addr) (b : Nat) (c : Nat) (us : List Value) (g : List (List Int)) (hA : 0 < g.length → A = some ⟨b, 0, none⟩) (hg : Blocks w b us g) (hc : g.length ≤ c) (hs : Small g) :
    Calls Try.prog 17 #[.agg #[.int .i64 p, .slice A g.length c]] w (MadeGraph (tidyN g) w) := by
  have HG := Lib.hid hg
  have HAA := Lib.hid hA
  have HS := Lib.hid hs
  have hgl := hs.1
  obtain ⟨i0, hi, hz0, hz1, hz2⟩ := info_parts info_row
  have HI := Lib.hid hi
  have HZ0 := Lib.hid hz0
  have HZ1 := Lib.hid hz1
  have HZ2 := Lib.hid hz2
  have hul := hg.len
  clear hA hg hs hi hz0 hz1 hz2
  go_enter Try.func17, Try.ntmps17
  go_upto_region 1 with (fail)
  obtain ⟨W, hW⟩ : ∃ W, w.alloc (.cells #[.int .i64 p, .slice A g.length c] 31) = W := ⟨_, rfl⟩
  rw [hW]
  have hbW : Below w.heap.size w W := by rw [← hW]; exact (Below.refl _ _).alloc (Nat.le_refl _) _
  have hsW : Str W w.heap.size 31 [.int .i64 p, .slice A g.length c] := by rw [← hW]; exact World.alloc_heap_new w _
  have hzW : w.heap.size < W.heap.size := hsW.lt
  have HGW := Lib.hid (HG.out.keep hbW)
  have HBW := Lib.hid hbW
  have HSW := Lib.hid hsW
  have k1 : W.cell? ⟨w.heap.size, 1, none⟩ = some (.slice A g.length c) := hsW.cell 1
  clear hW hbW hsW
  go_wp2_with (at_make; refine wpList_make_full _ rfl _ _ 22 rfl W.heap.size 23 i0 (.slice none 0 0) 1 Try.underlying22 HI.out HZ0.out HZ1.out .i64 .i64 _ _ g.length rfl rfl rfl rfl ?c1 ?c2 ?c3 ?_)
  case c1 => rw [HZ2.out]; omega
  case c2 => unfold maxLen; omega
  case c3 => exact Nat.le_refl _
  intro w1 hown hgr
  have hb1 : Below W.heap.size W w1 := (Below.refl _ _).grown hgr (Nat.le_refl _) (fun j hj => by cases hj)
  have HR := Lib.hid (show w1.ownsRow W.heap.size 23 1 (.slice (some ⟨W.heap.size, 0, none⟩) g.length g.length) g.length (upTo us 0) by
    rw [toList_madeCells_one] at hown
    rw [upTo_zero, hul]; exact hown)
  have HS1 := Lib.hid (HSW.out.below hb1)
  have HG1 := Lib.hid (HGW.out.keep hb1)
  have HB1 := Lib.hid (HBW.out.trans (hb1.mono HBW.out.size))
  have k1 := HS1.out.cell 1
  have hrl := (HR.out.lt _ rfl).2
  clear hown hgr hb1 HGW HBW HSW
  go_wp2_with fail
  go_loopw [13] (fun i wr => ∃ k : Nat, k ≤ g.length ∧ i = .int .i64 k ∧ wr.ownsRow W.heap.size 23 1 (.slice (some ⟨W.heap.size, 0, none⟩) g.length g.length) g.length (upTo us k) ∧ Below w.heap.size w wr) (fun i _ => g.length - (intOf i).toNat)
  case atStart => exact ⟨0, by omega, rfl, HR.out, HB1.out⟩
  case round =>
    obtain ⟨k, hk, rfl, ho, hb⟩ := hrel
    obtain ⟨wo, rfl⟩ : ∃ wo : World, wo = wr := ⟨_, rfl⟩
    have HO := Lib.hid ho
    have HB := Lib.hid hb
    by_cases hlt : k < g.length
    · have hAA := HAA.out (by omega)
      subst hAA
      obtain ⟨p0, l0, c0, p1, l1, c1, kd, p3, l3, c3, p4, c4, im, e, hi, h0, h1, h2, h3, h4, h5⟩ := (HG.out.keep hb).row k hlt
      have HE := Lib.hid e
      have hlo := hb.size
      have hof := World.ownsRow.frozenAt ho k
      have hoc := World.ownsRow.cells ho (g := W.heap.size) rfl k
      obtain ⟨z, hz⟩ : ∃ z, wo.cell? ⟨W.heap.size, k, none⟩ = some z := by
        have hl : k < (upTo us k).length := by have := ho.1; omega
        have := hoc _ (List.getElem?_eq_getElem hl)
        rw [at_add] at this
        exact ⟨_, this⟩
      clear ho hb e hi hoc
      have hrb : W.heap.size < wo.heap.size := (HO.out.lt _ rfl).2
      have hne : W.heap.size ≠ wo.heap.size := by omega
      have HA := Lib.hid (World.ownsRow.stored HO.out k (.slice p4 g[k].length c4)).1
      have HBA := Lib.hid (HB.out.setCell (p := ⟨W.heap.size, k, none⟩) (by simp; omega) (.slice p4 g[k].length c4))
      go_wp2
      go_roundw
      case rel => exact ⟨k + 1, by omega, by go_num, by rw [← upTo_set HE.out]; exact World.ownsRow.alloc HA.out _, HBA.out.alloc HBA.out.size _⟩
      case measure => simp [intOf]; omega
    · obtain rfl : k = g.length := by omega
      have HGR := Lib.hid (show Grid wo (.slice (some ⟨W.heap.size, 0, none⟩) g.length g.length) g from grid_of (g := g) (us := us) (B := W.heap.size) (by have := HO.out; rw [← hul, upTo_all, hul] at this; exact this) rfl (fun k hk => by
        obtain ⟨p0, l0, c0, p1, l1, c1, kd, p3, l3, c3, p4, c4, im, e, hi, _⟩ := (HG.out.keep HB.out).row k hk
        exact ⟨_, e, hi⟩))
      clear ho hb
      go_wp2_with fail
      refine (tidy_any _ _ g HGR.out HS.out).mono ?_
      rintro e w5 ⟨b5, rfl, ho, hb⟩
      have HO5 := Lib.hid ho
      have HB5 := Lib.hid (HB.out.trans (hb.mono HB.out.size))
      have hle := HB.out.size
      clear ho hb
      go_wp2
      go_ret
      refine ⟨b5, rfl, ?_, HB5.out⟩
      obtain ⟨vs, h1, h2, h3, h4⟩ := HO5.out
      exact ⟨vs, own_base h1 hle, h2, fun i hi => (h3 i hi).elim fun u h => ⟨u, h.1, own_base h.2 hle⟩, h4⟩
/-- What the document's Of makes of a row, as far as block k. -/
def rowOf (g : List (List Int)) (a k : Nat) : List Int := li ((List.range k).filter fun x : Nat => (g.getD a []).contains (x : Int))
def outOf (g : List (List Int)) (k : Nat) : List (List Int) := (List.range k).map fun a => rowOf g a g.length
theorem outOf_succ (g : List (List Int)) (k : Nat) : outOf g (k + 1) = outOf g k ++ [rowOf g k g.length] := by
  unfold outOf; rw [List.range_succ, List.map_append]; rfl
theorem outOf_len (g : List (List Int)) (k : Nat) : (outOf g k).length = k := by unfold outOf; rw [List.length_map, List.length_range]
theorem outOf_all (g : List (List Int)) : outOf g g.length = lii (tidyN g) := by unfold outOf lii tidyN; rw [List.map_map]; rfl
theorem rowOf_hit {g : List (List Int)} {a k : Nat} (h : (g.getD a []).contains (k : Int) = true) : rowOf g a (k + 1) = rowOf g a k ++ [(k : Int)] := by
  unfold rowOf; rw [List.range_succ, List.filter_append, List.filter_cons, if_pos h]; unfold li; rw [List.map_append]; rfl
theorem rowOf_miss {g : List (List Int)} {a k : Nat} (h : (g.getD a []).contains (k : Int) = false) : rowOf g a (k + 1) = rowOf g a k := by
  unfold rowOf; rw [List.range_succ, List.filter_append, List.filter_cons, if_neg (by rw [h]; simp)]; unfold li; rw [List.map_append]; simp
theorem rowOf_len (g : List (List Int)) (a k : Nat) : (rowOf g a k).length ≤ k := by
  unfold rowOf; rw [li_len]; exact Nat.le_trans (List.length_filter_le _ _) (by rw [List.length_range]; exact Nat.le_refl _)
set_option maxRecDepth 100000 in
set_option maxHeartbeats 2000000 in
theorem rof_any (w : World) (p : Int) (A : Option Addr) (b : Nat) (c : Nat) (us : List Value) (g : List (List Int)) (hA : 0 < g.length → A = some ⟨b, 0, none⟩) (hg : Blocks w b us g) (hc : g.length ≤ c) (hs : Small g) :
    Calls Try.prog 18 #[.agg #[.int .i64 p, .slice A g.length c]] w (MadeGrid w.heap.size (lii (tidyN g)) w) := by
  have HG := Lib.hid hg
  have HAA := Lib.hid hA
  have HS := Lib.hid hs
  have hgl := hs.1
  obtain ⟨i0, hi, hz0, hz1, hz2⟩ := info_parts info_row
  have HI := Lib.hid hi
  have HZ0 := Lib.hid hz0
  have HZ1 := Lib.hid hz1
  have HZ2 := Lib.hid hz2
  obtain ⟨i1, hj, hy0, hy1, hy2⟩ := info_parts info_int
  have HJ := Lib.hid hj
  have HY0 := Lib.hid hy0
  have HY1 := Lib.hid hy1
  have HY2 := Lib.hid hy2
  clear hA hg hs hi hz0 hz1 hz2 hj hy0 hy1 hy2
  go_enter Try.func18, Try.ntmps18
  go_upto_region 1 with (fail)
  obtain ⟨W, hW⟩ : ∃ W, w.alloc (.cells #[.int .i64 p, .slice A g.length c] 31) = W := ⟨_, rfl⟩
  rw [hW]
  have hbW : Below w.heap.size w W := by rw [← hW]; exact (Below.refl _ _).alloc (Nat.le_refl _) _
  have hsW : Str W w.heap.size 31 [.int .i64 p, .slice A g.length c] := by rw [← hW]; exact World.alloc_heap_new w _
  have HGW := Lib.hid (HG.out.keep hbW)
  have HBW := Lib.hid hbW
  have HSW := Lib.hid hsW
  clear hW hbW hsW HG
  go_wp2_with fail
  go_loopw [3, 4] (fun o i wr => ∃ k : Nat, k ≤ g.length ∧ i = .int .i64 k ∧ OwnGrid W.heap.size wr o (outOf g k) ∧ Below W.heap.size W wr) (fun _ i _ => g.length - (intOf i).toNat)
  case atStart => exact ⟨0, by omega, rfl, OwnGrid.none_ _ _, Below.refl _ _⟩
  case round =>
    obtain ⟨k, hk, rfl, hown, hb⟩ := hrel
    obtain ⟨wo, rfl⟩ : ∃ wo : World, wo = wr := ⟨_, rfl⟩
    have HO := Lib.hid hown
    have HB := Lib.hid hb
    have k1 : wo.cell? ⟨w.heap.size, 1, none⟩ = some (.slice A g.length c) := (HSW.out.below hb).cell 1
    by_cases hlt : k < g.length
    · clear hb
      obtain ⟨vs, hvs, hrows⟩ := hown
      obtain ⟨Ao, co, rfl⟩ := own_form hvs
      rw [outOf_len] at *
      clear hvs hrows
      go_wp2_with fail
      go_loopw [5, 6] (fun r j wr => ∃ x : Nat, x ≤ g.length ∧ j = .int .i64 x ∧ OwnInts wo.heap.size wr r (rowOf g k x) ∧ Below wo.heap.size wo wr) (fun _ j _ => g.length - (intOf j).toNat)
      case atStart => exact ⟨0, by omega, rfl, World.ownsRow_nil _ _ _ _, Below.refl _ _⟩
      case round =>
        obtain ⟨x, hx, rfl, hor, hbx⟩ := hrel
        obtain ⟨wi, rfl⟩ : ∃ wi : World, wi = wr := ⟨_, rfl⟩
        have HOR := Lib.hid hor
        have HBX := Lib.hid hbx
        have hk1 := cell_keep hbx (Nat.le_refl _) k1
        have hrl := rowOf_len g k x
        obtain ⟨Ar, cr, rfl⟩ := own_form hor
        by_cases hxl : x < g.length
        · have hAA := HAA.out (by omega)
          subst hAA
          have HHIT := Lib.hid (fun h => @rowOf_hit g k x h)
          have HMISS := Lib.hid (fun h => @rowOf_miss g k x h)
          have HGD := Lib.hid (show g.getD k [] = g[k] by rw [List.getD_eq_getElem?_getD, List.getElem?_eq_getElem hlt]; rfl)
          obtain ⟨p0, l0, c0, p1, l1, c1, kd, p3, l3, c3, p4, c4, im, e, hi, h0, h1, h2, h3, h4, h5⟩ := (HGW.out.keep (HB.out.trans (hbx.mono HB.out.size))).row k hlt
          have h4' : wi.cell? ⟨b, k * 6 + 2 + 2, none⟩ = some (.slice p4 g[k].length c4) := h4
          have hgk := HS.out.2 k hlt
          obtain ⟨A', c', ei, q1, q2, q3⟩ := hi
          injection ei with ei1 ei2 ei3
          subst ei1 ei3
          unfold maxLen at q2
          have HQ := Lib.hid q3
          generalize g[k] = l at *
          clear hor hbx e h0 h1 h2 h3 h5 q3
          go_wp2_with fail
          go_loopw [7, 8] (fun t i wr => ∃ m : Nat, m ≤ l.length ∧ i = .int .i64 m ∧ t = .bool ((l.take m).contains (x : Int)) ∧ wr = wi) (fun _ i _ => l.length - (intOf i).toNat)
          case atStart => exact ⟨0, by omega, rfl, rfl, rfl⟩
          case round =>
            obtain ⟨m, hm, rfl, rfl, hwr⟩ := hrel
            obtain rfl : wi = wr := hwr.symm
            by_cases hml : m < l.length
            · obtain ⟨am, eam, hcm⟩ := HQ.out m hml
              subst eam
              have HT := Lib.hid (show (l.take (m + 1)).contains (x : Int) = ((l.take m).contains (x : Int) || (l[m] == (x : Int))) by
                rw [List.take_succ_eq_append_getElem hml, Bool.eq_iff_iff]; rw [List.contains_iff_mem, List.mem_append, List.mem_singleton, Bool.or_eq_true, List.contains_iff_mem, beq_iff_eq]; exact or_congr Iff.rfl eq_comm)
              generalize l[m] = y at *
              cases ht : (l.take m).contains (x : Int) with
              | true =>
                rw [ht] at HT
                go_wp2
                go_roundw
                case rel => exact ⟨m + 1, by omega, by go_num, by rw [HT.out]; rfl, trivial⟩
                case measure => simp [intOf]; omega
              | false =>
                rw [ht] at HT
                by_cases hy : y = (x : Int)
                · have hyb : (y == (x : Int)) = true := beq_iff_eq.2 hy
                  have HYB := Lib.hid hyb
                  clear hy
                  go_wp2
                  go_roundw
                  case rel => exact ⟨m + 1, by omega, by go_num, by rw [HT.out, HYB.out]; rfl, trivial⟩
                  case measure => simp [intOf]; omega
                · have hyb : (y == (x : Int)) = false := beq_eq_false_iff_ne.2 hy
                  have HYB := Lib.hid hyb
                  clear hy
                  go_wp2
                  go_roundw
                  case rel => exact ⟨m + 1, by omega, by go_num, by rw [HT.out, HYB.out]; rfl, trivial⟩
                  case measure => simp [intOf]; omega
            · obtain rfl : m = l.length := by omega
              rw [List.take_length]
              cases ht : l.contains (x : Int) with
              | true =>
                have HC := Lib.hid (HHIT.out (by rw [HGD.out]; exact ht))
                clear ht
                go_wp2_with (at_builtin; refine wpList_append_own _ rfl _ _ 23 rfl wo.heap.size 3 i1 (.int .i64 0) 1 8 Try.underlying23 HJ.out HY0.out HY1.out HY2.out rfl (by decide) _ _ _ rfl (HOR.out.alloc _) ⟨_, 0, none⟩ 1 1 [.int .i64 (x : Int)] rfl rfl ?c1 ?c2 ?c3 ?c4 ?c5 ?_)
                try
                  case c1 =>
                    intro i u hj
                    match i, hj with
                    | 0, hj => simp at hj; subst hj; simp [Addr.add]
                case c2 => first | (intro u hu; simp at hu; subst hu; rfl) | rfl
                case c3 => unfold maxLen; omega
                case c4 => omega
                case c5 => have := HBX.out.size; simp <;> omega
                intro vn w6 hown' hgrow _
                have hown2 : OwnInts wo.heap.size w6 vn (rowOf g k (x + 1)) := by
                  rw [HC.out]
                  unfold OwnInts
                  rw [List.length_append, List.map_append]; exact hown'
                have HO2 := Lib.hid hown2
                have HB2 := Lib.hid ((HBX.out.alloc HBX.out.size _).grown hgrow (by rw [World.size_alloc]; have := HBX.out.size; omega) (fun j hj => (HOR.out.lt j hj).1))
                clear hown' hgrow hown2
                go_wp2
                go_roundw
                case rel => exact ⟨x + 1, by omega, by go_num, HO2.out, HB2.out⟩
                case measure => simp [intOf]; omega
              | false =>
                have HC := Lib.hid (HMISS.out (by rw [HGD.out]; exact ht))
                clear ht
                go_wp2
                go_roundw
                case rel => exact ⟨x + 1, by omega, by go_num, by rw [HC.out]; exact HOR.out, HBX.out⟩
                case measure => simp [intOf]; omega
        · obtain rfl : x = g.length := by omega
          clear hor hbx
          obtain ⟨vs, hvs, hrows⟩ := HO.out
          have hpl := outOf_len g k
          have hvs2 := own_below hvs HBX.out
          rw [hpl] at hvs2
          have HV := Lib.hid hvs2
          have HRX := Lib.hid hrows
          clear hvs hvs2 hrows
          go_wp2_with (at_builtin; refine wpList_append_own _ rfl _ _ 22 rfl W.heap.size 23 i0 (.slice none 0 0) 1 24 Try.underlying22 HI.out HZ0.out HZ1.out HZ2.out rfl (by decide) _ _ _ rfl (HV.out.alloc _) ⟨_, 0, none⟩ 1 1 [.slice Ar (rowOf g k g.length).length cr] rfl rfl ?d1 ?d2 ?d3 ?d4 ?d5 ?_)
          case d1 =>
            intro i u hj
            match i, hj with
            | 0, hj => simp at hj; subst hj; simp [Addr.add]
          case d2 => intro u hu; simp at hu; subst hu; rfl
          case d3 => unfold maxLen; omega
          case d4 => omega
          case d5 => have := HB.out.size; have := HBX.out.size; simp; omega
          intro v' w9 hown' hgrow _
          have hgr2 : OwnGrid W.heap.size w9 v' (outOf g (k + 1)) := by
            rw [outOf_succ]
            refine OwnGrid.push (fun i hi => ?_) (by rw [hpl]; exact HV.out.alloc _) (World.ownsRow.alloc (own_base HOR.out HB.out.size) _) hgrow (by rw [hpl]; exact hown')
            obtain ⟨u, e, hu⟩ := HRX.out i hi
            exact ⟨u, e, World.ownsRow.alloc (own_below hu HBX.out) _⟩
          have HO4 := Lib.hid hgr2
          have HB4 := Lib.hid (((HB.out.trans (HBX.out.mono HB.out.size)).alloc (Nat.le_trans HB.out.size HBX.out.size) _).grown hgrow (by rw [World.size_alloc]; have := HB.out.size; have := HBX.out.size; omega) (fun j hj => (HV.out.lt j hj).1))
          clear hown' hgrow hgr2 hpl
          go_wp2
          go_roundw
          case rel => exact ⟨k + 1, by omega, by go_num, HO4.out, HB4.out⟩
          case measure => simp [intOf]; omega
    · obtain rfl : k = g.length := by omega
      rw [outOf_all] at *
      clear hb
      have HF := Lib.hid hown
      clear hown
      go_wp2
      go_ret
      obtain ⟨vs, h1, h2⟩ := HF.out
      exact ⟨_, rfl, ⟨vs, own_base h1 HBW.out.size, fun i hi => (h2 i hi).elim fun u h => ⟨u, h.1, own_base h.2 HBW.out.size⟩⟩, HBW.out.trans (HB.out.mono HBW.out.size)⟩
end Go.Proofs.Ythanbedmiaacdaa.Gc
