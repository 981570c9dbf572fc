/- Stage 7: mach's ways, and the first block that control does not come to. -/
import Derived.Test.YtonheiaohgbbcaaGreatMJ
namespace Go.Proofs.YtonheiaohgbbcaaGreat.Mc
open Go.ChangeShapes Go.WideShapes Go.ChangeAt Go.RowKit Go.Proofs.YtonheiaohgbbcaaGreat.Mem Go.Proofs.YtonheiaohgbbcaaGreat.Kc Go.Proofs.YtonheiaohgbbcaaGreat.Pl Go.Proofs.YtonheiaohgbbcaaGreat.Mw Go.Proofs.YtonheiaohgbbcaaGreat.Gr Go.Proofs.YtonheiaohgbbcaaGreat.Gn Go.Proofs.YtonheiaohgbbcaaGreat.Gc
set_option linter.unusedVariables false
set_option linter.unusedSimpArgs false
theorem at_add (x k : Nat) : (⟨x, 0, none⟩ : Addr).add k = ⟨x, k, none⟩ := by cases k <;> simp [Addr.add]
/-- The first k, and nil rows behind them. -/
def upTo (us : List Value) (k : Nat) : List Value := us.take k ++ List.replicate (us.length - k) (.slice none 0 0)
theorem upTo_zero (us : List Value) : upTo us 0 = List.replicate us.length (.slice none 0 0) := by unfold upTo; rw [List.take_zero, List.nil_append, Nat.sub_zero]
theorem upTo_all (us : List Value) : upTo us us.length = us := by unfold upTo; rw [List.take_length, Nat.sub_self, List.replicate_zero, List.append_nil]
theorem upTo_set {us : List Value} {k : Nat} {u : Value} (h : us[k]? = some u) : (upTo us k).set k u = upTo us (k + 1) := by
  obtain ⟨hk, e⟩ := List.getElem?_eq_some_iff.1 h
  unfold upTo
  have hl : (us.take k).length = k := by rw [List.length_take]; omega
  rw [List.set_append, if_neg (by omega), hl, Nat.sub_self, show us.length - k = (us.length - (k + 1)) + 1 by omega, List.replicate_succ, List.set_cons_zero,
    List.take_succ_eq_append_getElem hk, e, List.append_assoc]; rfl
theorem grid_of {B : Nat} {w : World} {b n c : Nat} {us : List Value} {g : List (List Int)} (h : w.ownsRow B 38 1 (.slice (some ⟨b, 0, none⟩) n c) n us) (hn : n = g.length) (hi : ∀ k (h : k < g.length), ∃ u, us[k]? = some u ∧ Ints w u g[k]) :
    Grid w (.slice (some ⟨b, 0, none⟩) n c) g := by
  subst hn
  rcases h.2 with ⟨e, _⟩ | ⟨q, cap, cur, e, _, hg, h1, hm, _⟩
  · injection e with e; cases e
  · injection e with e1 e2 e3
    subst e3
    refine ⟨_, _, rfl, h1, hm, fun k hk => ?_⟩
    obtain ⟨u, e, hu⟩ := hi k hk
    exact ⟨_, u, rfl, World.ownsRow.cells h (g := b) rfl k _ e, hu⟩
/-- Where blocks go. -/
def rowsM (bs : List PMB) : List (List Int) := bs.map fun x => x.fin.to
theorem rowsM_len (bs : List PMB) : (rowsM bs).length = bs.length := by unfold rowsM; rw [List.length_map]
/-- The rows as they lie in memory: the blocks' own. -/
theorem mblocks_rows {w : World} {v : Value} {bs : List PMB} (h : MBlocksAt w v bs) : ∃ us : List Value, us.length = bs.length ∧ ∀ (k : Nat) (hk : k < bs.length), ∃ u, us[k]? = some u ∧ Ints w u bs[k].fin.to ∧ ∀ A b o n c, v = .slice A n c → A = some ⟨b, o, none⟩ → w.cell? ⟨b, o + k * 7 + 5, none⟩ = some u := by
  obtain ⟨A, c, b, o, rfl, h1, h2, h3, h4⟩ := h
  have hu : ∀ k : Nat, ∃ u : Value, ∀ hk : k < bs.length, Ints w u bs[k].fin.to ∧ w.cell? ⟨b, o + k * 7 + 5, none⟩ = some u := by
    intro k
    by_cases hk : k < bs.length
    · obtain ⟨_, _, _, _, p5, c5, _, _, _, _, _, r5, _, _, _, g5⟩ := mblock_rows (h4 k hk)
      exact ⟨_, fun _ => ⟨g5, r5⟩⟩
    · exact ⟨undef, fun g => absurd g hk⟩
  refine ⟨(List.range bs.length).map fun k => Classical.choose (hu k), by simp, fun k hk => ?_⟩
  refine ⟨Classical.choose (hu k), by simp [hk], (Classical.choose_spec (hu k) hk).1, fun A' b' o' n' c' e1 e2 => ?_⟩
  injection e1 with e1 _ _
  have e3 := h3 (by omega)
  rw [e3] at e1
  rw [← e1] at e2
  injection e2 with e2
  injection e2 with e4 e5
  rw [← e4, ← e5]
  exact (Classical.choose_spec (hu k) hk).2
/-- A graph in rows that the call made, but whose numbers are another's. -/
def Rows7 (g : List (List Int)) (w : World) (en : Ending) (w' : World) : Prop := ∃ b, w.heap.size ≤ b ∧ en = .returned (.slice (some ⟨b, 0, none⟩) g.length g.length) ∧ Grid w' (.slice (some ⟨b, 0, none⟩) g.length g.length) g ∧ Below w.heap.size w w'
set_option maxRecDepth 100000 in
set_option maxHeartbeats 4000000 in
theorem ways_any (w : World) (params : Int) (A : Option Addr) (c : Nat) (bs : List PMB) (hA : MBlocksAt w (.slice A bs.length c) bs) (hfew : bs.length ≤ 100000) :
    Calls Tryz.prog 63 #[.agg #[.int .i64 params, .slice A bs.length c]] w (Rows7 (rowsM bs) w) := by
  have HP := Lib.hid (show ∀ en w', (∃ b, w.heap.size ≤ b ∧ en = .returned (.slice (some ⟨b, 0, none⟩) bs.length bs.length) ∧ Grid w' (.slice (some ⟨b, 0, none⟩) bs.length bs.length) (rowsM bs) ∧ Below w.heap.size w w') → Rows7 (rowsM bs) w en w' from fun en w' h => by unfold Rows7; rw [rowsM_len]; exact h)
  obtain ⟨us, hul, hus⟩ := mblocks_rows hA
  have HUS := Lib.hid hus
  have HX0 := Lib.hid hA
  obtain ⟨i0, hi, hz0, hz1, hz2⟩ := info_parts info_row
  have HI := Lib.hid hi
  have HZ0 := Lib.hid hz0
  have HZ1 := Lib.hid hz1
  have HZ2 := Lib.hid hz2
  have HUL := Lib.hid hul
  clear hA hus hi hz0 hz1 hz2 hul
  go_enter Tryz.func63, Tryz.ntmps63
  go_upto_region 1 with (fail)
  obtain ⟨W, hW⟩ : ∃ W, w.alloc (.cells #[.int .i64 params, .slice A bs.length c] 24) = W := ⟨_, rfl⟩
  have hbW : Below w.heap.size w W := by rw [← hW]; exact (Below.refl _ _).alloc (Nat.le_refl _) _
  have hsW : Str W w.heap.size 24 [.int .i64 params, .slice A bs.length c] := by rw [← hW]; exact World.alloc_heap_new w _
  rw [hW]
  clear hW
  have hzW : w.heap.size < W.heap.size := hsW.lt
  have HXW := Lib.hid (HX0.out.keep hbW)
  have HBW := Lib.hid hbW
  have HSW := Lib.hid hsW
  have k1 : W.cell? ⟨w.heap.size, 1, none⟩ = some (.slice A bs.length c) := hsW.cell 1
  clear hbW hsW
  go_wp2_with (at_make; refine wpList_make_full _ rfl _ _ 120 rfl W.heap.size 38 i0 (.slice none 0 0) 1 Tryz.underlying120 HI.out HZ0.out HZ1.out .i64 .i64 _ _ bs.length rfl rfl rfl rfl ?c1 ?c2 ?c3 ?_)
  case c1 => rw [HZ2.out]; omega
  case c2 => unfold maxLen; omega
  case c3 => exact Nat.le_refl _
  intro w1 hown hgr
  have hb1 : Below W.heap.size W w1 := (Below.refl _ _).grown hgr (Nat.le_refl _) (fun j hj => by cases hj)
  have HR := Lib.hid (show w1.ownsRow W.heap.size 38 1 (.slice (some ⟨W.heap.size, 0, none⟩) bs.length bs.length) bs.length (upTo us 0) by
    rw [toList_madeCells_one] at hown
    rw [upTo_zero, HUL.out]; exact hown)
  have HS1 := Lib.hid (HSW.out.below hb1)
  have HX1 := Lib.hid (HXW.out.keep hb1)
  have HB1 := Lib.hid (HBW.out.trans (hb1.mono HBW.out.size))
  have k1 : w1.cell? ⟨w.heap.size, 1, none⟩ = some (.slice A bs.length c) := HS1.out.cell 1
  have hrl := (HR.out.lt _ rfl).2
  clear hown hgr hb1 HXW HBW HSW
  go_wp2_with fail
  go_loopw [4, 13] (fun _ i wr => ∃ k : Nat, k ≤ bs.length ∧ i = .int .i64 k ∧ wr.ownsRow W.heap.size 38 1 (.slice (some ⟨W.heap.size, 0, none⟩) bs.length bs.length) bs.length (upTo us k) ∧ Below w.heap.size w wr) (fun _ i _ => bs.length - (intOf i).toNat)
  case atStart => exact ⟨0, by omega, rfl, HR.out, HB1.out⟩
  case round =>
    obtain ⟨k, hk, rfl, ho, hb⟩ := hrel
    obtain ⟨wo, rfl⟩ : ∃ wo : World, wo = wr := ⟨_, rfl⟩
    have HO := Lib.hid ho
    have HB := Lib.hid hb
    by_cases hlt : k < bs.length
    · obtain ⟨A', c', b, o, e, q1, q2, q3, q4⟩ := HX0.out.keep hb
      injection e with e1 _ e3
      subst e1 e3
      have e1 := q3 (by omega)
      subst e1
      obtain ⟨p0, c0, p1, c1, p5, c5, r0, r1, r2, r3, r4, r5, r6, _, _, _⟩ := mblock_rows (q4 k hlt)
      obtain ⟨u, hu, _, hcu⟩ := HUS.out k hlt
      have hcu := hcu _ b o _ _ rfl rfl
      have hue := (cell_keep hb (Nat.le_refl _) hcu).symm.trans r5
      injection hue with hue
      rw [hue] at hu
      have HE := Lib.hid hu
      have hlo := hb.size
      have hof := World.ownsRow.frozenAt ho k
      have hoc := World.ownsRow.cells ho (g := W.heap.size) rfl k
      obtain ⟨z, hz⟩ : ∃ z, wo.cell? ⟨W.heap.size, k, none⟩ = some z := by
        have hl : k < (upTo us k).length := by have := ho.1; omega
        have := hoc _ (List.getElem?_eq_getElem hl)
        rw [at_add] at this
        exact ⟨_, this⟩
      clear ho hb hue hu hcu hoc q3 q4 q1 q2
      have hrb : W.heap.size < wo.heap.size := (HO.out.lt _ rfl).2
      have hne : W.heap.size ≠ wo.heap.size := by omega
      have HA := Lib.hid (World.ownsRow.stored HO.out k (.slice p5 bs[k].fin.to.length c5)).1
      have HBA := Lib.hid (HB.out.setCell (p := ⟨W.heap.size, k, none⟩) (by simp; omega) (.slice p5 bs[k].fin.to.length c5))
      generalize bs[k].phis.length = x at *
      generalize bs[k].ins.length = y at *
      generalize bs[k].fin.to.length = z4 at *
      generalize bs[k].fin.op = z2 at *
      generalize bs[k].fin.a = za at *
      generalize bs[k].fin.b = zb at *
      generalize bs[k].fin.imm = z5 at *
      go_wp2
      go_roundw
      case rel => exact ⟨k + 1, by omega, by go_num, by rw [← upTo_set HE.out]; exact World.ownsRow.alloc HA.out _, HBA.out.alloc HBA.out.size _⟩
      case measure => simp [intOf]; omega
    · obtain rfl : k = bs.length := by omega
      go_wp2
      go_ret
      refine HP.out _ _ ⟨W.heap.size, by omega, rfl, ?_, HB.out⟩
      have h9 := HO.out
      rw [show upTo us bs.length = us by rw [← HUL.out]; exact upTo_all us] at h9
      exact grid_of h9 (rowsM_len bs).symm (fun k hk => by
        have hk' : k < bs.length := by rw [rowsM_len] at hk; exact hk
        obtain ⟨u, hu, hi, _⟩ := HUS.out k hk'
        refine ⟨u, hu, ?_⟩
        have := hi.keep HB.out
        simpa [rowsM] using this)
end Go.Proofs.YtonheiaohgbbcaaGreat.Mc
