/- What package graph's least answers: of those from m upwards that are above n the one that has the least half. -/
import Derived.Test.YtdfehpcbcgbidaaBackward
import Derived.Test.YtdfehpcbcgbidaaClimbP
import Derived.Test.YtdfehpcbcgbidaaBridge
import Derived.Test.YtdfehpcbcgbidaaTurned
import Derived.Deep.Cut
import Derived.StillTactics
namespace Go.Proofs.Ytdfehpcbcgbidaa.Gc
open Go.ChangeShapes Go.WideShapes Go.ChangeAt Go.RowKit Go.Shelf Go.Proofs.Ytdfehpcbcgbidaa.Mem Go.Proofs.Ytdfehpcbcgbidaa.Gr Go.Proofs.Ytdfehpcbcgbidaa.Gn Go.Proofs.Ytdfehpcbcgbidaa.Br
set_option linter.unusedVariables false
attribute [local go_sem] Oper.semAt_some

theorem row_int {B : Nat} {w : World} {g n c : Nat} {l : List Int} (h : OwnInts B w (.slice (some ⟨g, 0, none⟩) n c) l) {j : Nat} (hj : j < l.length) (d : Int) : w.cell? ⟨g, j, none⟩ = some (.int .i64 (l.getD j d)) ∧ w.frozen? ⟨g, j, none⟩ = false := by
  have := h.cell hj
  rw [List.getD_eq_getElem?_getD, List.getElem?_eq_getElem hj]
  exact this
theorem row_nat {B : Nat} {w : World} {g n c : Nat} {l : List Nat} (h : OwnInts B w (.slice (some ⟨g, 0, none⟩) n c) (li l)) {j : Nat} (hj : j < l.length) : w.cell? ⟨g, j, none⟩ = some (.int .i64 (l.getD j 0 : Nat)) ∧ w.frozen? ⟨g, j, none⟩ = false := by
  have h1 : j < (li l).length := by rw [li_len]; exact hj
  have := h.cell h1
  rw [li_at hj h1] at this
  rw [List.getD_eq_getElem?_getD, List.getElem?_eq_getElem hj]
  exact this
theorem li_set (l : List Nat) (i a : Nat) : li (l.set i a) = (li l).set i (a : Int) := by unfold li; rw [List.map_set]; rfl
/-- How many a slice holds. -/
def lenOf : Value → Nat | .slice _ n _ => n | _ => 0
/-- The climber's three rows, its box at x, the box of m behind it: in the world W, on the way from W0 in the same round. -/
structure Lies (B k : Nat) (w : World) (ub hb bb cu ch cb : Nat) (K : Nat → Prop) (W0 W : World) (c : Cl) (m : Nat) : Prop where
  rows : RowsD B W [.slice (some ⟨ub, 0, none⟩) k cu, .slice (some ⟨hb, 0, none⟩) k ch, .slice (some ⟨bb, 0, none⟩) k cb] [c.up, li c.half, li c.best]
  str : Str W w.heap.size 136 [.slice (some ⟨ub, 0, none⟩) k cu, .slice (some ⟨hb, 0, none⟩) k ch, .slice (some ⟨bb, 0, none⟩) k cb]
  box : Boxed W (w.heap.size + 1) 3 (.int .i64 (m : Nat))
  fr : Fr (fun j => j = ub ∨ j = bb) w W
  others : KeepsOthers W0 W
  kept : KeptP K W0 W
section
variable {B k : Nat} {w : World} {ub hb bb cu ch cb : Nat} {K : Nat → Prop} {W0 W : World} {c : Cl} {m : Nat}
theorem Lies.drew (h : Lies B k w ub hb bb cu ch cb K W0 W c m) : Lies B k w ub hb bb cu ch cb K W0 W.drew c m :=
  ⟨h.rows, h.str, h.box, ⟨h.fr.os, h.fr.tape, h.fr.output, h.fr.size, h.fr.block⟩, h.others.trans (KeepsOthers.drew _), h.kept⟩
theorem Lies.put (h : Lies B k w ub hb bb cu ch cb K W0 W c m) {i g n cc : Nat} {l : List Int} (hu : [Value.slice (some ⟨ub, 0, none⟩) k cu, .slice (some ⟨hb, 0, none⟩) k ch, .slice (some ⟨bb, 0, none⟩) k cb][i]? = some (.slice (some ⟨g, 0, none⟩) n cc))
    (hl : [c.up, li c.half, li c.best][i]? = some l) (hg : g < w.heap.size) (hS : g = ub ∨ g = bb) (hK : ¬ K g) (j : Nat) (x : Int) (c' : Cl) (hc : [c'.up, li c'.half, li c'.best] = [c.up, li c.half, li c.best].set i (l.set j x)) :
    Lies B k w ub hb bb cu ch cb K W0 (W.setCell ⟨g, j, none⟩ (.int .i64 x)) c' m := by
  refine ⟨by rw [hc]; exact rowsD_put h.rows hu hl j x, ?_, ?_, ?_, h.others.trans (KeepsOthers.setCell _ _ _), ?_⟩
  · exact (Below.heap_setCell _ _ _ _ (by show w.heap.size ≠ g; omega)).trans h.str
  · exact (Below.heap_setCell _ _ _ _ (by show w.heap.size + 1 ≠ g; omega)).trans h.box
  · exact h.fr.trans (Fr.of_grown (S := fun j => j = g) (setCell_grownBy W ⟨g, j, none⟩ _) (fun k e _ => by injection e with e; exact e.symm)) (fun i _ e => by rw [e]; exact hS)
  · exact h.kept.trans fun i hi => Below.heap_setCell _ _ _ _ (by show i ≠ g; intro e; rw [e] at hi; exact hK hi)
theorem Lies.move (h : Lies B k w ub hb bb cu ch cb K W0 W c m) (hub : ub < w.heap.size) (hhb : hb < w.heap.size) (hbb : bb < w.heap.size) (hK : ¬ K (w.heap.size + 1)) (b : Nat) :
    Lies B k w ub hb bb cu ch cb K W0 (W.setCell ⟨w.heap.size + 1, 0, none⟩ (.int .i64 (b : Nat))) c b := by
  have hg := setCell_grownBy W ⟨w.heap.size + 1, 0, none⟩ (.int .i64 (b : Nat))
  refine ⟨?_, ?_, h.box.set _, ?_, h.others.trans (KeepsOthers.setCell _ _ _), ?_⟩
  · refine rowsD_fr (Fr.of_grown (S := fun j => j = w.heap.size + 1) hg (fun k e _ => by injection e with e; exact e.symm)) h.rows ?_
    intro i u hu he e
    simp only [List.mem_cons, List.not_mem_nil, or_false] at hu
    rcases hu with rfl | rfl | rfl <;> (injection he with he; dsimp only at he; omega)
  · exact (Below.heap_setCell _ _ _ _ (by show w.heap.size ≠ w.heap.size + 1; omega)).trans h.str
  · exact h.fr.trans (Fr.of_grown (S := fun j => j = w.heap.size + 1) hg (fun k e _ => by injection e with e; exact e.symm)) (fun i hi e => by omega)
  · exact h.kept.trans fun i hi => Below.heap_setCell _ _ _ _ (by show i ≠ w.heap.size + 1; intro e; rw [e] at hi; exact hK hi)
end
/-- What least answers, and leaves. -/
def Leasts (B : Nat) (w : World) (vu vh vb : Value) (c : Cl) (m n : Nat) (e : Ending) (w' : World) : Prop :=
  e = .returned (.int .i64 (leastV c m n : Nat)) ∧ RowsD B w' [vu, vh, vb] [(leastC c m n).up, li (leastC c m n).half, li (leastC c m n).best] ∧
  Fr (fun k => vu.ownBlock = some k ∨ vb.ownBlock = some k) w w'
set_option maxRecDepth 100000 in
set_option maxHeartbeats 4000000 in
theorem least_any (w : World) (B k : Nat) (vu vh vb : Value) (c : Cl) (m n : Nat) (hB : B ≤ w.heap.size) (hr : RowsD B w [vu, vh, vb] [c.up, li c.half, li c.best]) (hi : InR k c) (hu : Ups c.up) (hm : m < k) (hk : k ≤ 1000) (hn : n ≤ 1000) :
    Calls Try.prog 99 #[.agg #[vu, vh, vb], .int .i64 m, .int .i64 n] w (Leasts B w vu vh vb c m n) := by
  obtain ⟨Au, cu, e1⟩ := (hr.at (i := 0) rfl rfl).form
  obtain ⟨Ah, ch, e2⟩ := (hr.at (i := 1) rfl rfl).form
  obtain ⟨Ab, cb, e3⟩ := (hr.at (i := 2) rfl rfl).form
  rw [hi.up] at e1
  rw [li_len, hi.half] at e2
  rw [li_len, hi.best] at e3
  subst e1 e2 e3
  obtain ⟨ub, rfl⟩ := (hr.at (i := 0) rfl rfl).block (by rw [hi.up]; omega)
  obtain ⟨hb_, rfl⟩ := (hr.at (i := 1) rfl rfl).block (by rw [li_len, hi.half]; omega)
  obtain ⟨bb, rfl⟩ := (hr.at (i := 2) rfl rfl).block (by rw [li_len, hi.best]; omega)
  obtain ⟨i0, hi0, hz0, hz1, hz2⟩ := info_parts info_int
  have HI := Lib.hid hi0
  have HZ0 := Lib.hid hz0
  have HZ1 := Lib.hid hz1
  have HZ2 := Lib.hid hz2
  clear hi0 hz0 hz1 hz2
  have HR := Lib.hid hr
  have HIN := Lib.hid hi
  have HU := Lib.hid hu
  clear hr hi hu
  refine (callsIn_wide (n := 9)).1 ?_
  refine callsIn_of_wp_marks Try.func99 rfl trivial ?_ rfl
  simp only [Try.ntmps99, List.size_toArray, List.length_cons, List.length_nil, Nat.reduceAdd, Nat.reduceSub, Array.replicate_succ, Array.replicate_zero, List.push_toArray, List.append_toArray, List.nil_append, List.cons_append]
  gi_wp2
  obtain ⟨W0, hW0⟩ : ∃ W0, (w.alloc (.cells #[.slice (some ⟨ub, 0, none⟩) k cu, .slice (some ⟨hb_, 0, none⟩) k ch, .slice (some ⟨bb, 0, none⟩) k cb] 136)).alloc (.cells #[.int .i64 m] 3) = W0 := ⟨_, rfl⟩
  rw [hW0]
  have hB0 : Below w.heap.size w W0 := by rw [← hW0]; exact ((Below.refl _ _).alloc (Nat.le_refl _) _).alloc (by simp) _
  have hz0 : W0.heap.size = w.heap.size + 2 := by rw [← hW0]; simp
  have hc0 : Str W0 w.heap.size 136 [.slice (some ⟨ub, 0, none⟩) k cu, .slice (some ⟨hb_, 0, none⟩) k ch, .slice (some ⟨bb, 0, none⟩) k cb] := by
    rw [← hW0]
    exact Str.below (w := w.alloc (.cells #[.slice (some ⟨ub, 0, none⟩) k cu, .slice (some ⟨hb_, 0, none⟩) k ch, .slice (some ⟨bb, 0, none⟩) k cb] 136)) (World.alloc_heap_new w _) ((Below.refl _ _).alloc (Nat.le_refl _) _)
  have hm0 : Boxed W0 (w.heap.size + 1) 3 (.int .i64 m) := by
    rw [← hW0]
    have := Boxed.new (w.alloc (.cells #[.slice (some ⟨ub, 0, none⟩) k cu, .slice (some ⟨hb_, 0, none⟩) k ch, .slice (some ⟨bb, 0, none⟩) k cb] 136)) 3 (.int .i64 m)
    rw [World.size_alloc] at this
    exact this
  clear hW0
  have hul := HIN.out.up
  gi_loopw [7] (fun s wr => ∃ (f x : Nat) (L : List Nat), x ≤ f ∧ x < k ∧ L.length + x ≤ m ∧ (∃ A c, s = .slice A L.length c) ∧ OwnInts (w.heap.size + 2) wr s (li L) ∧ climb c.up n m m = (L ++ (climb c.up n f x).1, (climb c.up n f x).2) ∧
    Boxed wr (w.heap.size + 1) 3 (.int .i64 x) ∧ Str wr w.heap.size 136 [.slice (some ⟨ub, 0, none⟩) k cu, .slice (some ⟨hb_, 0, none⟩) k ch, .slice (some ⟨bb, 0, none⟩) k cb] ∧ Below w.heap.size w wr) (fun s _ => m - lenOf s)
  case atStart => exact ⟨m, m, [], Nat.le_refl _, hm, by simp, ⟨none, 0, rfl⟩, World.ownsRow_nil _ _ _ _, by simp, hm0, hc0, hB0⟩
  case round =>
    obtain ⟨f, x, L, hxf, hxk, hLx, ⟨A, cl, rfl⟩, hoL, hcl, hbm, hsc, hbw⟩ := hrel
    obtain ⟨wo, rfl⟩ : ∃ wo : World, wo = wr := ⟨_, rfl⟩
    have hrw := HR.out.below hbw
    obtain ⟨hcu, _⟩ := OwnInts.cell (hrw.at (i := 0) rfl rfl) (j := x) (by rw [hul]; exact hxk)
    have hgx : c.up.getD x (-1) = c.up[x] := by rw [List.getD_eq_getElem?_getD, List.getElem?_eq_getElem (by rw [hul]; exact hxk)]; rfl
    have hux := HU.out x (by rw [hul]; exact hxk)
    rw [hgx] at hux
    have HGX := Lib.hid hgx
    have HCL := Lib.hid hcl
    have HOL := Lib.hid hoL
    have HBM := Lib.hid hbm
    have HSC := Lib.hid hsc
    have HBW := Lib.hid hbw
    have k0 : wo.cell? ⟨w.heap.size, 0, none⟩ = some (.slice (some ⟨ub, 0, none⟩) k cu) := hsc.cell 0
    have km := hbm.cell
    have kf := hbm.frozen
    clear hgx hcl hoL hbm hsc hbw hrw
    generalize c.up[x] = y at *
    have hlt0 := HBM.out.lt
    by_cases hy : (n : Int) < y
    · obtain ⟨z, rfl⟩ := Int.eq_ofNat_of_zero_le (show 0 ≤ y by omega)
      obtain ⟨f, rfl⟩ : ∃ g, f = g + 1 := ⟨f - 1, by omega⟩
      have HCL2 := Lib.hid (show climb c.up n m m = (L ++ [x] ++ (climb c.up n f z).1, (climb c.up n f z).2) by
        rw [HCL.out, climb, HGX.out, if_pos hy]
        simp)
      have hol := HOL.out
      unfold OwnInts at hol
      rw [li_len] at hol
      have hou := (HR.out.below HBW.out)
      gi_wp2_with (gi_at_builtin; refine wpListIn_append1 rfl _ _ 28 rfl (w.heap.size + 2) 3 i0 (.int .i64 0) 8 Try.underlying28 HI.out HZ0.out HZ1.out HZ2.out rfl _ _ _ rfl (World.ownsRow.alloc hol _) ⟨_, 0, none⟩ (.int .i64 (x : Int)) rfl (cell_made rfl) (by rfl) (by omega) (by omega) (by rw [World.size_alloc]; omega) ?_)
      intro v' w5 hown' hgrow hmv
      obtain ⟨A5, c5, rfl⟩ := own_form hown'
      have hlow := hol.lt
      have hne1 : some (w.heap.size + 1) ≠ (Value.slice A L.length cl).ownBlock := fun e => by have := hlow _ e.symm; omega
      have hne0 : some w.heap.size ≠ (Value.slice A L.length cl).ownBlock := fun e => by have := hlow _ e.symm; omega
      have hbm5 := (HBM.out.alloc (.cells #[.int .i64 (x : Int)] 3)).kept hgrow hne1
      have hsc5 := (HSC.out.below ((Below.refl _ _).alloc (Nat.le_refl _) (.cells #[.int .i64 (x : Int)] 3))).kept hgrow hne0
      have hbw5 := (HBW.out.alloc (by omega) (.cells #[.int .i64 (x : Int)] 3)).grown hgrow (by rw [World.size_alloc]; omega) (fun i hi => by have := hlow i hi; omega)
      obtain ⟨q1, _⟩ := OwnInts.cell ((HR.out.below hbw5).at (i := 0) rfl rfl) (j := x) (by rw [hul]; exact hxk)
      have hgx5 : c.up[x]'(by rw [hul]; exact hxk) = (z : Int) := by have := HGX.out; rw [List.getD_eq_getElem?_getD, List.getElem?_eq_getElem (by rw [hul]; exact hxk)] at this; exact this
      rw [hgx5] at q1
      have q0 : w5.cell? ⟨w.heap.size, 0, none⟩ = some (.slice (some ⟨ub, 0, none⟩) k cu) := hsc5.cell 0
      have qm := hbm5.cell
      have qf := hbm5.frozen
      have HO5 := Lib.hid (show OwnInts (w.heap.size + 2) (w5.setCell ⟨w.heap.size + 1, 0, none⟩ (.int .i64 z)) (.slice A5 (L.length + 1) c5) (li (L ++ [x])) by
        unfold OwnInts
        rw [li_len, List.length_append, li_snoc, List.map_append]
        exact ownsRow_setCell_below hown' (by show w.heap.size + 1 < w.heap.size + 2; omega) _)
      have HB5 := Lib.hid (hbm5.set (.int .i64 z))
      have HS5 := Lib.hid (show Str (w5.setCell ⟨w.heap.size + 1, 0, none⟩ (.int .i64 z)) w.heap.size 136 [.slice (some ⟨ub, 0, none⟩) k cu, .slice (some ⟨hb_, 0, none⟩) k ch, .slice (some ⟨bb, 0, none⟩) k cb] from
        (Below.heap_setCell _ _ _ _ (by show w.heap.size ≠ w.heap.size + 1; omega)).trans hsc5)
      have HW5 := Lib.hid (hbw5.setCell (p := ⟨w.heap.size + 1, 0, none⟩) (by show w.heap.size ≤ w.heap.size + 1; omega) (.int .i64 z))
      clear hown' hgrow hmv hbm5 hsc5 hbw5 hou hol k0 km kf hcu hgx5 hlow hne0 hne1
      gi_wp2
      go_roundw
      case rel => exact ⟨f, z, L ++ [x], by omega, by omega, by rw [List.length_append, List.length_singleton]; omega, ⟨A5, c5, by rw [List.length_append, List.length_singleton]⟩, HO5.out, HCL2.out, HB5.out, HS5.out, HW5.out⟩
      case measure => simp [lenOf]; omega
    · have HCL2 := Lib.hid (show climb c.up n m m = (L, x) by
        rw [HCL.out]
        cases f with
        | zero => simp [climb]
        | succ f => rw [climb, HGX.out, if_neg hy]; simp)
      have hol := HOL.out
      unfold OwnInts at hol
      rw [li_len] at hol
      gi_wp2
      refine ⟨trivial, ?_⟩
      refine (callsIn_wide.2 (backward_any _ A L.length cl)).mono ?_
      rintro e w2 ⟨rfl, rfl⟩
      gi_wp2
      obtain ⟨W1, hW1⟩ : ∃ W1, wo.alloc (.cells #[.slice A L.length cl] 28) = W1 := ⟨_, rfl⟩
      rw [hW1]
      have hA1 : Below wo.heap.size wo W1 := by rw [← hW1]; exact (Below.refl _ _).alloc (Nat.le_refl _) _
      have hz1 : W1.heap.size = wo.heap.size + 1 := by rw [← hW1]; simp
      have hx1 : Boxed W1 wo.heap.size 28 (.slice A L.length cl) := by rw [← hW1]; exact Boxed.new _ _ _
      clear hW1
      have hW1w : Below w.heap.size w W1 := HBW.out.trans (hA1.mono (by omega))
      have hlow := hol.lt
      have hLk : ∀ v ∈ L, v < k := by
        intro v hv
        have h1 := (climb_in HU.out n m m (by rw [hul]; exact hm)).1 v (by rw [HCL2.out]; exact hv)
        rw [hul] at h1; exact h1
      have hIK : IntsK (fun j => (Value.slice A L.length cl).ownBlock = some j ∨ j = wo.heap.size) W1 A L := by
        intro j hj
        obtain ⟨g, rfl⟩ := own_at hol (by omega)
        refine ⟨_, rfl, Or.inl (by rw [Addr.add_lit]; rfl), ?_⟩
        have := (OwnInts.cell (own_below HOL.out hA1) (j := j) (by rw [li_len]; exact hj)).1
        rw [li_at hj] at this
        rw [Addr.add_lit, Nat.zero_add]; exact this
      have hKlt : ∀ j, ((Value.slice A L.length cl).ownBlock = some j ∨ j = wo.heap.size) → j < W1.heap.size := by
        rintro j (h | h)
        · have := hlow j h; omega
        · omega
      have hub := (HR.out.at (i := 0) rfl rfl).lt ub rfl
      have hhb := (HR.out.at (i := 1) rfl rfl).lt hb_ rfl
      have hbb := (HR.out.at (i := 2) rfl rfl).lt bb rfl
      have hlenL : L.length ≤ cl ∧ cl ≤ maxLen := by
        rcases hol.2 with ⟨e, h0⟩ | ⟨_, cap, _, e, _, _, h1, h2, _⟩
        · injection e with e1 e2 e3; subst e3; exact ⟨by omega, by unfold maxLen; omega⟩
        · injection e with _ _ e3; subst e3; exact ⟨h1, h2⟩
      refine wpIn_rangeFunc_ownF rfl (by omega) (gf := 92) (lb := #[.pointer (some ⟨wo.heap.size, 0, none⟩)]) rfl trivial (enters_of Try.func92 (by kernel_rfl) rfl)
        (backward_stops Fence.wide 8 trivial rfl (by omega) (fun j => (Value.slice A L.length cl).ownBlock = some j ∨ j = wo.heap.size) W1 A L cl k wo.heap.size hIK hlenL.1 hlenL.2 hLk hx1.cell (Or.inr rfl) hKlt (by omega)) KeptP.trans (keptP_b hKlt) (Below.refl _ _) (fun _ => rfl)
        (fun pre W => (RowsD B W [.slice (some ⟨ub, 0, none⟩) k cu, .slice (some ⟨hb_, 0, none⟩) k ch, .slice (some ⟨bb, 0, none⟩) k cb] [(squashes (pre.map (·.1.2)) c x).1.up, li (squashes (pre.map (·.1.2)) c x).1.half, li (squashes (pre.map (·.1.2)) c x).1.best] ∧
          Str W w.heap.size 136 [.slice (some ⟨ub, 0, none⟩) k cu, .slice (some ⟨hb_, 0, none⟩) k ch, .slice (some ⟨bb, 0, none⟩) k cb] ∧ Boxed W (w.heap.size + 1) 3 (.int .i64 ((squashes (pre.map (·.1.2)) c x).2 : Nat))) ∧ Fr (fun j => j = ub ∨ j = bb) w W)
        (fun _ _ _ => False)
        (OwnFrom.and (Own.from (fun s W W' row hs hg hr => ⟨rowsD_kept hs.1 hg hr, str_cells hs.2.1 hg hr, boxed_cells hs.2.2 hg hr⟩) _) (ownFrom_fr (by omega)))
        (fun _ _ _ _ _ hs _ _ => hs)
        ⟨⟨HR.out.below hW1w, HSC.out.below hA1, boxed_below HBM.out hA1⟩, Fr.of_below hW1w⟩
        (fun v => { tmps := #[.agg #[.slice (some ⟨ub, 0, none⟩) k cu, .slice (some ⟨hb_, 0, none⟩) k ch, .slice (some ⟨bb, 0, none⟩) k cb], .int .i64 m, .int .i64 n, .pointer (some ⟨w.heap.size, 0, none⟩), .pointer (some ⟨w.heap.size + 1, 0, none⟩), undef, .int .i64 0, .slice A L.length cl, undef, .int .i64 (v.1.2 : Nat),
          .pointer (some ⟨w.heap.size, 0, none⟩), .slice (some ⟨ub, 0, none⟩) k cu, .int .i64 x, .pointer (some ⟨ub, x, none⟩), .int .i64 y, .int .i64 n, .bool false, u17, u18, u19, u20, u21, u22, u23, u24, u25, .slice A L.length cl, .func (.func 92) #[] #[.pointer (some ⟨wo.heap.size, 0, none⟩)], .int .i64 (v.1.1 : Nat), .int .i64 (v.1.2 : Nat), undef, undef, undef, undef, undef, undef, undef, undef, undef, undef, undef, undef, undef, undef, undef, undef, undef, undef, undef, undef, undef, undef, undef, undef, undef, undef, undef, undef, undef, undef, undef, undef, undef, undef, undef, undef, undef, undef, undef, undef, undef, undef, undef], defers := [] }) ?assign ?body ?done ?stop
      case assign =>
        intro l v W K hK
        gi_wp2
        exact hK
      case body =>
        rintro l pre v W ⟨⟨hrd, hsc, hbm⟩, hfr⟩ hlen
        obtain ⟨⟨j0, b⟩, hb⟩ := v
        obtain ⟨hIn, hm1⟩ := squashes_inR (pre.map (·.1.2)) c x HIN.out hxk (fun z hz => by
          obtain ⟨q, hq, rfl⟩ := List.mem_map.1 hz
          exact q.2)
        have HSQ := Lib.hid (show squashes ((pre ++ [(⟨(j0, b), hb⟩ : Bw k)]).map (·.1.2)) c x = (squash (squashes (pre.map (·.1.2)) c x).1 (squashes (pre.map (·.1.2)) c x).2 b, b) by
          rw [List.map_append]; exact squashes_snoc _ _ _ _)
        generalize (squashes (pre.map (·.1.2)) c x).1 = c1 at *
        generalize (squashes (pre.map (·.1.2)) c x).2 = m1 at *
        have hbl : b < k := hb
        have HLB := Lib.hid (show Lies B k w ub hb_ bb cu ch cb (fun j => (Value.slice A L.length cl).ownBlock = some j ∨ j = wo.heap.size) W W c1 m1 from ⟨hrd, hsc, hbm, hfr, KeepsOthers.refl _, KeptP.refl _ _⟩)
        have hKub : ¬ ((Value.slice A L.length cl).ownBlock = some ub ∨ ub = wo.heap.size) := by rintro (h | h); (have := hlow _ h; omega); omega
        have hKbb : ¬ ((Value.slice A L.length cl).ownBlock = some bb ∨ bb = wo.heap.size) := by rintro (h | h); (have := hlow _ h; omega); omega
        have hKm : ¬ ((Value.slice A L.length cl).ownBlock = some (w.heap.size + 1) ∨ w.heap.size + 1 = wo.heap.size) := by rintro (h | h); (have := hlow _ h; omega); omega
        have HN := Lib.hid (show squash c1 m1 b = { up := c1.up.set b (c1.up.getD m1 (-1)), half := c1.half, best := if c1.half.getD (c1.best.getD m1 0) 0 < c1.half.getD (c1.best.getD b 0) 0 then c1.best.set b (c1.best.getD m1 0) else c1.best } from rfl)
        clear hrd hsc hbm hfr
        obtain ⟨cp, _⟩ := row_nat (HLB.out.rows.at (i := 2) rfl rfl) (j := m1) (by rw [hIn.best]; exact hm1)
        obtain ⟨cq, cqf⟩ := row_nat (HLB.out.rows.at (i := 2) rfl rfl) (j := b) (by rw [hIn.best]; exact hbl)
        have hpk := hIn.bestr m1 hm1
        have hqk := hIn.bestr b hbl
        have hupl := hIn.up
        generalize hpe : c1.best.getD m1 0 = p at *
        generalize c1.best.getD b 0 = q at *
        obtain ⟨ch1, _⟩ := row_nat (HLB.out.rows.at (i := 1) rfl rfl) (j := p) (by rw [hIn.half]; exact hpk)
        obtain ⟨ch2, _⟩ := row_nat (HLB.out.rows.at (i := 1) rfl rfl) (j := q) (by rw [hIn.half]; exact hqk)
        generalize c1.half.getD p 0 = hp at *
        generalize c1.half.getD q 0 = hq at *
        have HPE := Lib.hid hpe
        clear hpe
        have kh : W.cell? ⟨w.heap.size, 1, none⟩ = some (.slice (some ⟨hb_, 0, none⟩) k ch) := HLB.out.str.cell 1
        have kb : W.cell? ⟨w.heap.size, 2, none⟩ = some (.slice (some ⟨bb, 0, none⟩) k cb) := HLB.out.str.cell 2
        have ku : W.cell? ⟨w.heap.size, 0, none⟩ = some (.slice (some ⟨ub, 0, none⟩) k cu) := HLB.out.str.cell 0
        have km := HLB.out.box.cell
        by_cases hlt : hp < hq
        · gi_wp2
          refine region_still (lets_round l) (by kernel_rfl) (by kernel_rfl) (fun _ _ h => h) (by kernel_rfl) ?_
          repeat still_step
          refine wpStill_nil ?_
          gi_wp2
          obtain ⟨W2, hW2⟩ : ∃ W2, W.drew = W2 := ⟨_, rfl⟩
          have HL2 := Lib.hid (show Lies B k w ub hb_ bb cu ch cb (fun j => (Value.slice A L.length cl).ownBlock = some j ∨ j = wo.heap.size) W W2 c1 m1 by rw [← hW2]; exact HLB.out.drew)
          change Code.wpIn _ _ _ _ _ _ W.drew
          rw [hW2]
          clear hW2 kh kb ku km cp cq cqf ch1 ch2
          have kh : W2.cell? ⟨w.heap.size, 1, none⟩ = some (.slice (some ⟨hb_, 0, none⟩) k ch) := HL2.out.str.cell 1
          have kb : W2.cell? ⟨w.heap.size, 2, none⟩ = some (.slice (some ⟨bb, 0, none⟩) k cb) := HL2.out.str.cell 2
          have ku : W2.cell? ⟨w.heap.size, 0, none⟩ = some (.slice (some ⟨ub, 0, none⟩) k cu) := HL2.out.str.cell 0
          have km := HL2.out.box.cell
          obtain ⟨cp, _⟩ := row_nat (HL2.out.rows.at (i := 2) rfl rfl) (j := m1) (by rw [hIn.best]; exact hm1)
          obtain ⟨cq, cqf⟩ := row_nat (HL2.out.rows.at (i := 2) rfl rfl) (j := b) (by rw [hIn.best]; exact hbl)
          rw [HPE.out] at cp
          generalize c1.best.getD b 0 = q' at *
          refine region_tail (lets_round l) 9 (by kernel_rfl) (by kernel_rfl) (fun _ _ h => h) (by kernel_rfl) ?_
          simp only [List.take_succ_cons, List.take_zero, List.drop_succ_cons, List.drop_zero]
          repeat still_step
          refine wpStill_nil ?_
          go_wp2
          gi_wp2
          obtain ⟨W3, hW3⟩ : ∃ W3, (W2.setCell ⟨bb, b, none⟩ (.int .i64 p)).drew = W3 := ⟨_, rfl⟩
          have HL3 := Lib.hid (show Lies B k w ub hb_ bb cu ch cb (fun j => (Value.slice A L.length cl).ownBlock = some j ∨ j = wo.heap.size) W W3 { c1 with best := c1.best.set b p } m1 by rw [← hW3]; exact (HL2.out.put (i := 2) rfl rfl hbb.2 (Or.inr rfl) hKbb b (p : Int) { c1 with best := c1.best.set b p } (by rw [← li_set]; rfl)).drew)
          change Code.wpIn _ _ _ _ _ _ ((W2.setCell ⟨bb, b, none⟩ (.int .i64 p)).drew)
          rw [hW3]
          clear hW3
          have ku3 : W3.cell? ⟨w.heap.size, 0, none⟩ = some (.slice (some ⟨ub, 0, none⟩) k cu) := HL3.out.str.cell 0
          have km3 := HL3.out.box.cell
          obtain ⟨cu1, _⟩ := row_int (HL3.out.rows.at (i := 0) rfl rfl) (j := m1) (by rw [hupl]; exact hm1) (-1)
          obtain ⟨cu2, cuf⟩ := row_int (HL3.out.rows.at (i := 0) rfl rfl) (j := b) (by rw [hupl]; exact hbl) (-1)
          generalize hum : c1.up.getD m1 (-1) = um at *
          generalize c1.up.getD b (-1) = ub' at *
          have HUM := Lib.hid hum
          clear hum
          refine region_tail (lets_round l) 9 (by kernel_rfl) (by kernel_rfl) (fun _ _ h => h) (by kernel_rfl) ?_
          simp only [List.take_succ_cons, List.take_zero, List.drop_succ_cons, List.drop_zero]
          repeat still_step
          refine wpStill_nil ?_
          go_wp2
          obtain ⟨W4, hW4⟩ : ∃ W4, (W3.setCell ⟨ub, b, none⟩ (.int .i64 um)).drew = W4 := ⟨_, rfl⟩
          have HL4 := Lib.hid (show Lies B k w ub hb_ bb cu ch cb (fun j => (Value.slice A L.length cl).ownBlock = some j ∨ j = wo.heap.size) W W4 (squash c1 m1 b) m1 by
            rw [← hW4]
            refine (HL3.out.put (i := 0) rfl rfl hub.2 (Or.inl rfl) hKub b um (squash c1 m1 b) ?_).drew
            rw [HN.out, if_pos hlt]
            rfl)
          change Code.wpIn _ _ _ _ _ _ ((W3.setCell ⟨ub, b, none⟩ (.int .i64 um)).drew)
          rw [hW4]
          clear hW4 ku3 km3 cu1 cu2 cuf
          have km4 := HL4.out.box.cell
          have kf4 := HL4.out.box.frozen
          have HL5 := Lib.hid (HL4.out.move hub.2 hhb.2 hbb.2 hKm b)
          gi_wp2
          exact ⟨HL5.out.others, HL5.out.kept, ⟨by rw [HSQ.out]; exact HL5.out.rows, HL5.out.str, by rw [HSQ.out]; exact HL5.out.box⟩, HL5.out.fr⟩
        · have hlt' : ¬ (hp : Int) < (hq : Int) := by omega
          gi_wp2
          refine region_still (lets_round l) (by kernel_rfl) (by kernel_rfl) (fun _ _ h => h) (by kernel_rfl) ?_
          repeat still_step
          refine wpStill_nil ?_
          gi_wp2
          clear kh kb ku km cp cq cqf ch1 ch2
          obtain ⟨W3, hW3⟩ : ∃ W3, W.drew = W3 := ⟨_, rfl⟩
          have HL3 := Lib.hid (show Lies B k w ub hb_ bb cu ch cb (fun j => (Value.slice A L.length cl).ownBlock = some j ∨ j = wo.heap.size) W W3 c1 m1 by rw [← hW3]; exact HLB.out.drew)
          change Code.wpIn _ _ _ _ _ _ (W.drew)
          rw [hW3]
          clear hW3
          have ku3 : W3.cell? ⟨w.heap.size, 0, none⟩ = some (.slice (some ⟨ub, 0, none⟩) k cu) := HL3.out.str.cell 0
          have km3 := HL3.out.box.cell
          obtain ⟨cu1, _⟩ := row_int (HL3.out.rows.at (i := 0) rfl rfl) (j := m1) (by rw [hupl]; exact hm1) (-1)
          obtain ⟨cu2, cuf⟩ := row_int (HL3.out.rows.at (i := 0) rfl rfl) (j := b) (by rw [hupl]; exact hbl) (-1)
          generalize hum : c1.up.getD m1 (-1) = um at *
          generalize c1.up.getD b (-1) = ub' at *
          have HUM := Lib.hid hum
          clear hum
          refine region_tail (lets_round l) 9 (by kernel_rfl) (by kernel_rfl) (fun _ _ h => h) (by kernel_rfl) ?_
          simp only [List.take_succ_cons, List.take_zero, List.drop_succ_cons, List.drop_zero]
          repeat still_step
          refine wpStill_nil ?_
          go_wp2
          obtain ⟨W4, hW4⟩ : ∃ W4, (W3.setCell ⟨ub, b, none⟩ (.int .i64 um)).drew = W4 := ⟨_, rfl⟩
          have HL4 := Lib.hid (show Lies B k w ub hb_ bb cu ch cb (fun j => (Value.slice A L.length cl).ownBlock = some j ∨ j = wo.heap.size) W W4 (squash c1 m1 b) m1 by
            rw [← hW4]
            refine (HL3.out.put (i := 0) rfl rfl hub.2 (Or.inl rfl) hKub b um (squash c1 m1 b) ?_).drew
            rw [HN.out, if_neg hlt]
            rfl)
          change Code.wpIn _ _ _ _ _ _ ((W3.setCell ⟨ub, b, none⟩ (.int .i64 um)).drew)
          rw [hW4]
          clear hW4 ku3 km3 cu1 cu2 cuf
          have km4 := HL4.out.box.cell
          have kf4 := HL4.out.box.frozen
          have HL5 := Lib.hid (HL4.out.move hub.2 hhb.2 hbb.2 hKm b)
          gi_wp2
          exact ⟨HL5.out.others, HL5.out.kept, ⟨by rw [HSQ.out]; exact HL5.out.rows, HL5.out.str, by rw [HSQ.out]; exact HL5.out.box⟩, HL5.out.fr⟩
      case done =>
        rintro D xs W hD hxs ⟨⟨hrd, hsc, hbm⟩, hfr⟩ hK
        rw [hxs] at hrd hbm
        obtain ⟨hIn, hm1⟩ := squashes_inR L.reverse c x HIN.out hxk (fun z hz => hLk z (List.mem_reverse.1 hz))
        have HC := Lib.hid (show leastC c m n = (squashes L.reverse c x).1 by unfold leastC; rw [HCL2.out])
        have HM := Lib.hid (show leastM c m n = (squashes L.reverse c x).2 by unfold leastM; rw [HCL2.out])
        have HV := Lib.hid (show leastV c m n = (leastC c m n).best.getD (leastM c m n) 0 from rfl)
        generalize (squashes L.reverse c x).1 = c1 at *
        generalize (squashes L.reverse c x).2 = m1 at *
        obtain ⟨cp, _⟩ := row_nat (hrd.at (i := 2) rfl rfl) (j := m1) (by rw [hIn.best]; exact hm1)
        have hupl := hIn.best
        rw [HC.out, HM.out] at HV
        generalize hpe : c1.best.getD m1 0 = p at *
        have HPE := Lib.hid hpe
        have kb : W.cell? ⟨w.heap.size, 2, none⟩ = some (.slice (some ⟨bb, 0, none⟩) k cb) := hsc.cell 2
        have km := hbm.cell
        have HRD := Lib.hid hrd
        have HFR := Lib.hid hfr
        clear hpe hrd hfr hsc hbm hIn
        gi_wp2
        refine ⟨by simp, .inl ⟨_, _, rfl, run_takeDeferred hK, ?_⟩⟩
        have hg := grownBy_putObj' W D (.deferred none)
        refine ⟨_, results_tmp rfl _ _ _, ?_, ?_, ?_⟩
        · rw [HV.out]; rfl
        · rw [HC.out]
          exact rowsD_kept HRD.out hg (fun r e => by cases e; exact ⟨_, hK, rfl⟩)
        · refine (HFR.out.trans (Fr.of_grown (S := fun j => j = D) hg (fun k e _ => by injection e with e; exact e.symm)) (fun i hi e => by omega)).mono ?_
          rintro i (h | h)
          · left; rw [h]; rfl
          · right; rw [h]; rfl
      case stop =>
        rintro D c pre W _ _ h _
        exact h.elim
end Go.Proofs.Ytdfehpcbcgbidaa.Gc
