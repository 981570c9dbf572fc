/- What jacquardref02's Without answers: which blocks are reached, if one is not there. -/
import Derived.Test.YthanbedmiaacdaaNext
import Derived.Test.YthanbedmiaacdaaOwn
import Derived.StillTailTactics
namespace Go.Proofs.Ythanbedmiaacdaa.Gr
open Go.ChangeShapes Go.WideShapes Go.ChangeAt Go.RowKit Go.Proofs.Ythanbedmiaacdaa.Mem
set_option linter.unusedVariables false

/-- One block that is come to. -/
def mark (gone : Int) (o : List Bool) (b : Int) : List Bool := o.set b.toNat (o.getD b.toNat false || b != gone)
def marks (g : List (List Int)) (gone a : Int) (o : List Bool) (k : Nat) : List Bool := ((nextL g a).take k).foldl (mark gone) o
def sweepAt (g : List (List Int)) (gone : Int) (o : List Bool) (a : Nat) : List Bool := if o.getD a false then marks g gone a o (nextL g a).length else o
def sweep (g : List (List Int)) (gone : Int) (o : List Bool) (k : Nat) : List Bool := (List.range k).foldl (sweepAt g gone) o
def sweeps (g : List (List Int)) (gone : Int) : Nat → List Bool
  | 0 => (List.replicate g.length false).set 0 true
  | k + 1 => sweep g gone (sweeps g gone k) g.length
def withoutL (g : List (List Int)) (gone : Int) : List Bool := if g.length = 0 ∨ gone = 0 then List.replicate g.length false else sweeps g gone g.length
theorem mark_len (gone : Int) (o : List Bool) (b : Int) : (mark gone o b).length = o.length := by unfold mark; rw [List.length_set]
theorem marks_succ {g : List (List Int)} {gone a : Int} {o : List Bool} {k : Nat} (h : k < (nextL g a).length) : marks g gone a o (k + 1) = mark gone (marks g gone a o k) (nextL g a)[k] := by
  unfold marks; rw [List.take_succ_eq_append_getElem h, List.foldl_append]; rfl
theorem foldl_len {α : Type} (f : List Bool → α → List Bool) (h : ∀ o a, (f o a).length = o.length) : ∀ (l : List α) (o : List Bool), (l.foldl f o).length = o.length
  | [], o => rfl
  | a :: l, o => by rw [List.foldl_cons, foldl_len f h l, h]
theorem marks_len (g : List (List Int)) (gone a : Int) (o : List Bool) (k : Nat) : (marks g gone a o k).length = o.length := foldl_len _ (mark_len gone) _ _
theorem sweepAt_len (g : List (List Int)) (gone : Int) (o : List Bool) (a : Nat) : (sweepAt g gone o a).length = o.length := by
  unfold sweepAt; split
  · exact marks_len _ _ _ _ _
  · rfl
theorem sweep_len (g : List (List Int)) (gone : Int) (o : List Bool) (k : Nat) : (sweep g gone o k).length = o.length := foldl_len _ (sweepAt_len g gone) _ _
theorem sweep_succ (g : List (List Int)) (gone : Int) (o : List Bool) (k : Nat) : sweep g gone o (k + 1) = sweepAt g gone (sweep g gone o k) k := by
  unfold sweep; rw [List.range_succ, List.foldl_append]; rfl
theorem sweeps_len (g : List (List Int)) (gone : Int) : ∀ k, (sweeps g gone k).length = g.length
  | 0 => by simp [sweeps]
  | k + 1 => by rw [sweeps, sweep_len, sweeps_len g gone k]
theorem nextL_at {g : List (List Int)} {a : Int} {k : Nat} (h : k < (nextL g a).length) : ∃ b : Nat, b < g.length ∧ (nextL g a)[k] = (b : Int) := by
  have hm : (nextL g a)[k] ∈ nextL g a := List.getElem_mem h
  unfold nextL nextTo at hm
  rw [List.mem_map] at hm
  obtain ⟨b, hb, e⟩ := hm
  rw [List.mem_filter, List.mem_range] at hb
  exact ⟨b, hb.1, e.symm⟩

theorem info_bool : (Try.prog.info? 4).map (fun i => (i.zero, i.size, i.bytes)) = some (some (.bool false), 1, 1) := by kernel_rfl
/-- A row of bools of the call's own: block B. -/
def OwnBools (B : Nat) (w : World) (l : List Bool) : Prop := w.ownsRow B 4 1 (.slice (some ⟨B, 0, none⟩) l.length l.length) l.length (l.map Value.bool)
theorem OwnBools.cell {B : Nat} {w : World} {l : List Bool} (h : OwnBools B w l) {b : Nat} (hb : b < l.length) : w.cell? ⟨B, b, none⟩ = some (.bool l[b]) := by
  rw [World.ownsRow.cellAt h b (by omega), List.getElem?_map, List.getElem?_eq_getElem hb]; rfl
theorem OwnBools.store {B : Nat} {w : World} {l : List Bool} (h : OwnBools B w l) (b : Nat) (x : Bool) : OwnBools B (w.setCell ⟨B, b, none⟩ (.bool x)) (l.set b x) := by
  have := (World.ownsRow.stored h b (.bool x)).1
  unfold OwnBools
  rw [List.length_set, List.map_set]; exact this
theorem OwnBools.below {B : Nat} {w w' : World} {l : List Bool} (h : OwnBools B w l) (hb : Below w.heap.size w w') : OwnBools B w' l := own_below h hb

/-- A row of bools that the call made itself. -/
def MadeBools (B : Nat) (l : List Bool) (w : World) (e : Ending) (w' : World) : Prop :=
  e = .returned (.slice (some ⟨B, 0, none⟩) l.length l.length) ∧ OwnBools B w' l ∧ Below B w w'
set_option maxRecDepth 100000 in
set_option maxHeartbeats 1000000 in
theorem without_any (w : World) (v : Value) (g : List (List Int)) (gone : Int) (hg : Grid w v g) (hsz : g.length ≤ 4096) :
    Calls Try.prog 21 #[v, .int .i64 gone] w (MadeBools w.heap.size (withoutL g gone) w) := by
  have HG := Lib.hid hg
  obtain ⟨A, ca, rfl, ha1, ha2, ha3⟩ := hg
  unfold maxLen at ha2
  clear ha3
  obtain ⟨i0, hi, hz0, hz1, hz2⟩ := info_parts info_bool
  have HI := Lib.hid hi
  have HZ0 := Lib.hid hz0
  have HZ1 := Lib.hid hz1
  have HZ2 := Lib.hid hz2
  clear hi hz0 hz1 hz2
  by_cases hn : g.length = 0
  · have h0 : ((g.length : Int) == 0) = true := beq_iff_eq.2 (by omega)
    have HW := Lib.hid (show withoutL g gone = List.replicate g.length false from if_pos (Or.inl hn))
    clear hn
    go_enter Try.func21, Try.ntmps21
    go_wp2_with (at_make; refine wpList_make_full _ rfl _ _ 43 rfl w.heap.size 4 i0 (.bool false) 1 Try.underlying43 HI.out HZ0.out HZ1.out .i64 .i64 _ _ g.length rfl rfl rfl rfl ?c1 ?c2 ?c3 ?_)
    case c1 => rw [HZ2.out]; omega
    case c2 => unfold maxLen; omega
    case c3 => exact Nat.le_refl _
    intro w1 hown hgr
    have HO1 := Lib.hid (show OwnBools w.heap.size w1 (List.replicate g.length false) by
      unfold OwnBools
      rw [List.length_replicate, List.map_replicate]
      rw [toList_madeCells_one] at hown
      simpa using hown)
    have HB1 := Lib.hid (show Below w.heap.size w w1 from (Below.refl _ _).grown hgr (Nat.le_refl _) (fun j hj => by cases hj))
    clear hown hgr
    go_wp2
    go_ret
    refine ⟨?_, by rw [HW.out]; exact HO1.out, HB1.out⟩
    rw [HW.out, List.length_replicate]; rfl
  · by_cases hgone : gone = 0
    · have h0 : ((g.length : Int) == 0) = false := beq_eq_false_iff_ne.2 (by omega)
      have h1 : (gone == 0) = true := beq_iff_eq.2 hgone
      have HW := Lib.hid (show withoutL g gone = List.replicate g.length false from if_pos (Or.inr hgone))
      clear hn hgone
      go_enter Try.func21, Try.ntmps21
      go_wp2_with (at_make; refine wpList_make_full _ rfl _ _ 43 rfl w.heap.size 4 i0 (.bool false) 1 Try.underlying43 HI.out HZ0.out HZ1.out .i64 .i64 _ _ g.length rfl rfl rfl rfl ?c1 ?c2 ?c3 ?_)
      case c1 => rw [HZ2.out]; omega
      case c2 => unfold maxLen; omega
      case c3 => exact Nat.le_refl _
      intro w1 hown hgr
      have HO1 := Lib.hid (show OwnBools w.heap.size w1 (List.replicate g.length false) by
        unfold OwnBools
        rw [List.length_replicate, List.map_replicate]
        rw [toList_madeCells_one] at hown
        simpa using hown)
      have HB1 := Lib.hid (show Below w.heap.size w w1 from (Below.refl _ _).grown hgr (Nat.le_refl _) (fun j hj => by cases hj))
      clear hown hgr
      go_wp2
      go_ret
      refine ⟨?_, by rw [HW.out]; exact HO1.out, HB1.out⟩
      rw [HW.out, List.length_replicate]; rfl
    · have h0 : ((g.length : Int) == 0) = false := beq_eq_false_iff_ne.2 (by omega)
      have h1 : (gone == 0) = false := beq_eq_false_iff_ne.2 hgone
      have hpos : 0 < g.length := by omega
      have HW := Lib.hid (show withoutL g gone = sweeps g gone g.length from if_neg (by omega))
      clear hn hgone
      go_enter Try.func21, Try.ntmps21
      go_wp2_with (at_make; refine wpList_make_full _ rfl _ _ 43 rfl w.heap.size 4 i0 (.bool false) 1 Try.underlying43 HI.out HZ0.out HZ1.out .i64 .i64 _ _ g.length rfl rfl rfl rfl ?c1 ?c2 ?c3 ?_)
      case c1 => rw [HZ2.out]; omega
      case c2 => unfold maxLen; omega
      case c3 => exact Nat.le_refl _
      intro w1 hown hgr
      have hO1 : OwnBools w.heap.size w1 (List.replicate g.length false) := by
        unfold OwnBools
        rw [List.length_replicate, List.map_replicate]
        rw [toList_madeCells_one] at hown
        simpa using hown
      have hB1 : Below w.heap.size w w1 := (Below.refl _ _).grown hgr (Nat.le_refl _) (fun j hj => by cases hj)
      have hc := hO1.cell (b := 0) (by rw [List.length_replicate]; exact hpos)
      have hf := World.ownsRow.frozenAt hO1 0
      have HO := Lib.hid (hO1.store 0 true)
      have HB := Lib.hid (hB1.setCell (p := ⟨w.heap.size, 0, none⟩) (Nat.le_refl _) (.bool true))
      clear hown hgr hO1 hB1
      go_wp2
      go_loopw [6] (fun i wr => ∃ r : Nat, r ≤ g.length ∧ i = .int .i64 r ∧ OwnBools w.heap.size wr (sweeps g gone r) ∧ Below w.heap.size w wr) (fun i _ => g.length - (intOf i).toNat)
      case atStart => exact ⟨0, by omega, rfl, HO.out, HB.out⟩
      case round =>
        obtain ⟨r, hr, rfl, hown, hb⟩ := hrel
        obtain ⟨wo, rfl⟩ : ∃ wo : World, wo = wr := ⟨_, rfl⟩
        have HO1 := Lib.hid hown
        have HB1 := Lib.hid hb
        clear hown hb hc hf
        by_cases hlt : r < g.length
        · have hsl := sweeps_len g gone r
          have HSL := Lib.hid hsl
          clear hsl
          have HSS := Lib.hid (show sweeps g gone (r + 1) = sweep g gone (sweeps g gone r) g.length from rfl)
          generalize sweeps g gone r = S at *
          go_wp2
          go_loopw [7] (fun i wr => ∃ a : Nat, a ≤ g.length ∧ i = .int .i64 a ∧ OwnBools w.heap.size wr (sweep g gone S a) ∧ Below w.heap.size w wr) (fun i _ => g.length - (intOf i).toNat)
          case atStart => exact ⟨0, by omega, rfl, HO1.out, HB1.out⟩
          case round =>
            obtain ⟨a, ha, rfl, hown, hb⟩ := hrel
            obtain ⟨wo2, rfl⟩ : ∃ wo : World, wo = wr := ⟨_, rfl⟩
            have HO2 := Lib.hid hown
            have HB2 := Lib.hid hb
            clear hown hb
            by_cases hlt2 : a < g.length
            · have HS2 := Lib.hid (show (sweep g gone S a).length = g.length by rw [sweep_len, HSL.out])
              have HSN := Lib.hid (sweep_succ g gone S a)
              generalize sweep g gone S a = S2 at *
              have hla : a < S2.length := by rw [HS2.out]; exact hlt2
              have hca := HO2.out.cell hla
              have HD := Lib.hid (show S2.getD a false = S2[a] by rw [List.getD_eq_getElem?_getD, List.getElem?_eq_getElem hla]; rfl)
              generalize S2[a] = xa at *
              cases xa
              · have HA := Lib.hid (show sweepAt g gone S2 a = S2 by unfold sweepAt; rw [HD.out]; rfl)
                go_wp2
                go_roundw
                case rel => exact ⟨a + 1, by omega, by go_num, by rw [HSN.out, HA.out]; exact HO2.out, HB2.out⟩
                case measure => simp [intOf]; omega
              · have HA := Lib.hid (show sweepAt g gone S2 a = marks g gone a S2 (nextL g a).length by unfold sweepAt; rw [HD.out]; rfl)
                have HGr := Lib.hid (HG.out.keep HB2.out)
                go_wp2_with fail
                refine (next_any _ _ g _ HGr.out hsz).mono ?_
                rintro e w3 ⟨u, rfl, hu, hb3⟩
                obtain ⟨A3, c3, rfl⟩ := own_form hu
                have HU := Lib.hid hu
                have HB3 := Lib.hid (HB2.out.trans (hb3.mono HB2.out.size))
                have HO3 := Lib.hid (HO2.out.below hb3)
                have HBB := Lib.hid HB2.out.size
                clear hu hb3 hca
                go_wp2
                go_loopw [9] (fun i wr => ∃ k : Nat, k ≤ (nextL g a).length ∧ i = .int .i64 k ∧ OwnBools w.heap.size wr (marks g gone a S2 k) ∧ Below w.heap.size w wr ∧ OwnInts wo2.heap.size wr (.slice A3 (nextL g a).length c3) (nextL g a)) (fun i _ => (nextL g a).length - (intOf i).toNat)
                case atStart => exact ⟨0, by omega, rfl, HO3.out, HB3.out, HU.out⟩
                case round =>
                  obtain ⟨k, hk, rfl, hown, hb, hui⟩ := hrel
                  have hnl : (nextL g a).length ≤ g.length := nextTo_len g a g.length
                  by_cases hlt3 : k < (nextL g a).length
                  · obtain ⟨gb, rfl⟩ := own_at hui (by omega)
                    obtain ⟨b, hb1, hb2⟩ := nextL_at hlt3
                    have hcu := World.ownsRow.cellAt hui k (by omega)
                    rw [List.getElem?_map, List.getElem?_eq_getElem hlt3, hb2] at hcu
                    have hcu' : wr.cell? ⟨gb, k, none⟩ = some (.int .i64 b) := hcu
                    have hlen : b < (marks g gone a S2 k).length := by rw [marks_len, HS2.out]; exact hb1
                    have hco := hown.cell hlen
                    have hfo := World.ownsRow.frozenAt hown b
                    have HMS := Lib.hid (show marks g gone a S2 (k + 1) = (marks g gone a S2 k).set b ((marks g gone a S2 k)[b] || (b : Int) != gone) by
                      rw [marks_succ hlt3, hb2]; unfold mark; rw [Int.toNat_natCast, List.getD_eq_getElem?_getD, List.getElem?_eq_getElem hlen]; rfl)
                    have HO4 := Lib.hid hown
                    have HB4 := Lib.hid hb
                    have HU4 := Lib.hid hui
                    clear hown hb hui hcu hb2
                    generalize (marks g gone a S2 k)[b] = x at *
                    cases x
                    all_goals
                      go_wp2_with fail
                      go_region
                      go_wp2
                      go_roundw
                      case rel =>
                        refine ⟨k + 1, by omega, by go_num, ?_, ?_, ?_⟩
                        · rw [HMS.out]; exact OwnBools.store (w := wr.drew) HO4.out b _
                        · exact HB4.out.drew.setCell (Nat.le_refl _) _
                        · exact World.ownsRow.kept (w := wr.drew) HU4.out (World.ownsRow.stored (w := wr.drew) HO4.out b _).2 (own_apart (w := wr) HU4.out HO4.out (by decide))
                      case measure => simp [intOf]; omega
                  · obtain rfl : k = (nextL g a).length := by omega
                    have HO4 := Lib.hid hown
                    have HB4 := Lib.hid hb
                    clear hown hb hui
                    go_wp2
                    go_roundw
                    case rel => exact ⟨a + 1, by omega, by go_num, by rw [HSN.out, HA.out]; exact HO4.out, HB4.out⟩
                    case measure => simp [intOf]; omega
            · obtain rfl : a = g.length := by omega
              go_wp2
              go_roundw
              case rel => exact ⟨r + 1, by omega, by go_num, by rw [HSS.out]; exact HO2.out, HB2.out⟩
              case measure => simp [intOf]; omega
        · obtain rfl : r = g.length := by omega
          go_wp2
          go_ret
          refine ⟨?_, by rw [HW.out]; exact HO1.out, HB1.out⟩
          rw [HW.out, sweeps_len]; rfl
end Go.Proofs.Ythanbedmiaacdaa.Gr
