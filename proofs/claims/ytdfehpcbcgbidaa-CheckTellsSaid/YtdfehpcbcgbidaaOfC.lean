/- What package graph's Of answers: the rows that a function's terms name, tidied. -/
import Derived.Test.YtdfehpcbcgbidaaOrder
namespace Go.Proofs.Ytdfehpcbcgbidaa.Gc
open Go.ChangeShapes Go.WideShapes Go.ChangeAt Go.RowKit Go.Proofs.Ytdfehpcbcgbidaa.Mem Go.Proofs.Ytdfehpcbcgbidaa.Gr Go.Proofs.Ytdfehpcbcgbidaa.Gn Go.Proofs.Ytdfehpcbcgbidaa.Rp
set_option linter.unusedVariables false

/-- Blocks that lie in a row at b: the rows that their terms name are us, the numbers in them g. -/
structure Blocks (w : World) (b : Nat) (us : List Value) (g : List (List Int)) : Prop where
  len : us.length = g.length
  row : ∀ k (h : k < g.length), ∃ p0 l0 c0 p1 l1 c1 kd p3 l3 c3 p4 c4 im, us[k]? = some (.slice p4 g[k].length c4) ∧ Ints w (.slice p4 g[k].length c4) g[k] ∧
    w.cell? ⟨b, k * 6, none⟩ = some (.slice p0 l0 c0) ∧ w.cell? ⟨b, k * 6 + 1, none⟩ = some (.slice p1 l1 c1) ∧ w.cell? ⟨b, k * 6 + 2, none⟩ = some (.int .i64 kd) ∧
    w.cell? ⟨b, k * 6 + 3, none⟩ = some (.slice p3 l3 c3) ∧ w.cell? ⟨b, k * 6 + 4, none⟩ = some (.slice p4 g[k].length c4) ∧ w.cell? ⟨b, k * 6 + 5, none⟩ = some (.int .i32 im)
theorem Blocks.keep {w w' : World} {b : Nat} {us : List Value} {g : List (List Int)} (h : Blocks w b us g) (hb : Below w.heap.size w w') : Blocks w' b us g := by
  refine ⟨h.len, fun k hk => ?_⟩
  obtain ⟨p0, l0, c0, p1, l1, c1, kd, p3, l3, c3, p4, c4, im, e, hi, h0, h1, h2, h3, h4, h5⟩ := h.row k hk
  exact ⟨p0, l0, c0, p1, l1, c1, kd, p3, l3, c3, p4, c4, im, e, hi.keep hb, cell_keep hb (Nat.le_refl _) h0, cell_keep hb (Nat.le_refl _) h1, cell_keep hb (Nat.le_refl _) h2, cell_keep hb (Nat.le_refl _) h3, cell_keep hb (Nat.le_refl _) h4, cell_keep hb (Nat.le_refl _) h5⟩
theorem at_add (x k : Nat) : (⟨x, 0, none⟩ : Addr).add k = ⟨x, k, none⟩ := by cases k <;> simp [Addr.add]
/-- The first k, and nil rows behind them. -/
def upTo (us : List Value) (k : Nat) : List Value := us.take k ++ List.replicate (us.length - k) (.slice none 0 0)
theorem upTo_zero (us : List Value) : upTo us 0 = List.replicate us.length (.slice none 0 0) := by unfold upTo; rw [List.take_zero, List.nil_append, Nat.sub_zero]
theorem upTo_all (us : List Value) : upTo us us.length = us := by unfold upTo; rw [List.take_length, Nat.sub_self, List.replicate_zero, List.append_nil]
theorem upTo_set {us : List Value} {k : Nat} {u : Value} (h : us[k]? = some u) : (upTo us k).set k u = upTo us (k + 1) := by
  obtain ⟨hk, e⟩ := List.getElem?_eq_some_iff.1 h
  unfold upTo
  have hl : (us.take k).length = k := by rw [List.length_take]; omega
  rw [List.set_append, if_neg (by omega), hl, Nat.sub_self, show us.length - k = (us.length - (k + 1)) + 1 by omega, List.replicate_succ, List.set_cons_zero,
    List.take_succ_eq_append_getElem hk, e, List.append_assoc]; rfl
theorem grid_of {B : Nat} {w : World} {b n c : Nat} {us : List Value} {g : List (List Int)} (h : w.ownsRow B 28 1 (.slice (some ⟨b, 0, none⟩) n c) n us) (hn : n = g.length) (hi : ∀ k (h : k < g.length), ∃ u, us[k]? = some u ∧ Ints w u g[k]) :
    Grid w (.slice (some ⟨b, 0, none⟩) n c) g := by
  subst hn
  rcases h.2 with ⟨e, _⟩ | ⟨q, cap, cur, e, _, hg, h1, hm, _⟩
  · injection e with e; cases e
  · injection e with e1 e2 e3
    subst e3
    refine ⟨_, _, rfl, h1, hm, fun k hk => ?_⟩
    obtain ⟨u, e, hu⟩ := hi k hk
    exact ⟨_, u, rfl, World.ownsRow.cells h (g := b) rfl k _ e, hu⟩
set_option maxRecDepth 100000 in
set_option maxHeartbeats 2000000 in
theorem of_code (w : World) (p : Int) (A : Option Addr) (b : Nat) (c : Nat) (us : List Value) (g : List (List Int)) (hA : 0 < g.length → A = some ⟨b, 0, none⟩) (hg : Blocks w b us g) (hc : g.length ≤ c) (hs : Small g) :
    Calls Try.prog 33 #[.agg #[.int .i64 p, .slice A g.length c]] w (MadeGraph (tidyN g) w) := by
  have HG := Lib.hid hg
  have HAA := Lib.hid hA
  have HS := Lib.hid hs
  have hgl := hs.1
  obtain ⟨i0, hi, hz0, hz1, hz2⟩ := info_parts info_row
  have HI := Lib.hid hi
  have HZ0 := Lib.hid hz0
  have HZ1 := Lib.hid hz1
  have HZ2 := Lib.hid hz2
  have hul := hg.len
  clear hA hg hs hi hz0 hz1 hz2
  go_enter Try.func33, Try.ntmps33
  go_upto_region 1 with (fail)
  obtain ⟨W, hW⟩ : ∃ W, w.alloc (.cells #[.int .i64 p, .slice A g.length c] 24) = W := ⟨_, rfl⟩
  rw [hW]
  have hbW : Below w.heap.size w W := by rw [← hW]; exact (Below.refl _ _).alloc (Nat.le_refl _) _
  have hsW : Str W w.heap.size 24 [.int .i64 p, .slice A g.length c] := by rw [← hW]; exact World.alloc_heap_new w _
  have hzW : w.heap.size < W.heap.size := hsW.lt
  have HGW := Lib.hid (HG.out.keep hbW)
  have HBW := Lib.hid hbW
  have HSW := Lib.hid hsW
  have k1 : W.cell? ⟨w.heap.size, 1, none⟩ = some (.slice A g.length c) := hsW.cell 1
  clear hW hbW hsW
  go_wp2_with (at_make; refine wpList_make_full _ rfl _ _ 60 rfl W.heap.size 28 i0 (.slice none 0 0) 1 Try.underlying60 HI.out HZ0.out HZ1.out .i64 .i64 _ _ g.length rfl rfl rfl rfl ?c1 ?c2 ?c3 ?_)
  case c1 => rw [HZ2.out]; omega
  case c2 => unfold maxLen; omega
  case c3 => exact Nat.le_refl _
  intro w1 hown hgr
  have hb1 : Below W.heap.size W w1 := (Below.refl _ _).grown hgr (Nat.le_refl _) (fun j hj => by cases hj)
  have HR := Lib.hid (show w1.ownsRow W.heap.size 28 1 (.slice (some ⟨W.heap.size, 0, none⟩) g.length g.length) g.length (upTo us 0) by
    rw [toList_madeCells_one] at hown
    rw [upTo_zero, hul]; exact hown)
  have HS1 := Lib.hid (HSW.out.below hb1)
  have HG1 := Lib.hid (HGW.out.keep hb1)
  have HB1 := Lib.hid (HBW.out.trans (hb1.mono HBW.out.size))
  have k1 := HS1.out.cell 1
  have hrl := (HR.out.lt _ rfl).2
  clear hown hgr hb1 HGW HBW HSW
  go_wp2_with fail
  go_loopw [13] (fun i wr => ∃ k : Nat, k ≤ g.length ∧ i = .int .i64 k ∧ wr.ownsRow W.heap.size 28 1 (.slice (some ⟨W.heap.size, 0, none⟩) g.length g.length) g.length (upTo us k) ∧ Below w.heap.size w wr) (fun i _ => g.length - (intOf i).toNat)
  case atStart => exact ⟨0, by omega, rfl, HR.out, HB1.out⟩
  case round =>
    obtain ⟨k, hk, rfl, ho, hb⟩ := hrel
    obtain ⟨wo, rfl⟩ : ∃ wo : World, wo = wr := ⟨_, rfl⟩
    have HO := Lib.hid ho
    have HB := Lib.hid hb
    by_cases hlt : k < g.length
    · have hAA := HAA.out (by omega)
      subst hAA
      obtain ⟨p0, l0, c0, p1, l1, c1, kd, p3, l3, c3, p4, c4, im, e, hi, h0, h1, h2, h3, h4, h5⟩ := (HG.out.keep hb).row k hlt
      have HE := Lib.hid e
      have hlo := hb.size
      have hof := World.ownsRow.frozenAt ho k
      have hoc := World.ownsRow.cells ho (g := W.heap.size) rfl k
      obtain ⟨z, hz⟩ : ∃ z, wo.cell? ⟨W.heap.size, k, none⟩ = some z := by
        have hl : k < (upTo us k).length := by have := ho.1; omega
        have := hoc _ (List.getElem?_eq_getElem hl)
        rw [at_add] at this
        exact ⟨_, this⟩
      clear ho hb e hi hoc
      have hrb : W.heap.size < wo.heap.size := (HO.out.lt _ rfl).2
      have hne : W.heap.size ≠ wo.heap.size := by omega
      have HA := Lib.hid (World.ownsRow.stored HO.out k (.slice p4 g[k].length c4)).1
      have HBA := Lib.hid (HB.out.setCell (p := ⟨W.heap.size, k, none⟩) (by simp; omega) (.slice p4 g[k].length c4))
      go_wp2
      go_roundw
      case rel => exact ⟨k + 1, by omega, by go_num, by rw [← upTo_set HE.out]; exact World.ownsRow.alloc HA.out _, HBA.out.alloc HBA.out.size _⟩
      case measure => simp [intOf]; omega
    · obtain rfl : k = g.length := by omega
      have HGR := Lib.hid (show Grid wo (.slice (some ⟨W.heap.size, 0, none⟩) g.length g.length) g from grid_of (g := g) (us := us) (B := W.heap.size) (by have := HO.out; rw [← hul, upTo_all, hul] at this; exact this) rfl (fun k hk => by
        obtain ⟨p0, l0, c0, p1, l1, c1, kd, p3, l3, c3, p4, c4, im, e, hi, _⟩ := (HG.out.keep HB.out).row k hk
        exact ⟨_, e, hi⟩))
      clear ho hb
      go_wp2_with fail
      refine (tidy_any _ _ g HGR.out HS.out).mono ?_
      rintro e w5 ⟨b5, rfl, ho, hb⟩
      have HO5 := Lib.hid ho
      have HB5 := Lib.hid (HB.out.trans (hb.mono HB.out.size))
      have hle := HB.out.size
      clear ho hb
      go_wp2
      go_ret
      refine ⟨b5, rfl, ?_, HB5.out⟩
      obtain ⟨vs, h1, h2, h3, h4⟩ := HO5.out
      exact ⟨vs, own_base h1 hle, h2, fun i hi => (h3 i hi).elim fun u h => ⟨u, h.1, own_base h.2 hle⟩, h4⟩
end Go.Proofs.Ytdfehpcbcgbidaa.Gc
