/- What jacquardref02's Preds answers: for each block the blocks from which edges come, in rows of its own. -/
import Derived.Test.YthanbedmiaacdaaNext
import Derived.Test.YthanbedmiaacdaaOwn
namespace Go.Proofs.Ythanbedmiaacdaa.Gr
open Go.ChangeShapes Go.WideShapes Go.ChangeAt Go.RowKit Go.Proofs.Ythanbedmiaacdaa.Mem
set_option linter.unusedVariables false

/-- The blocks below k from which edges go to b. -/
def fromTo (g : List (List Int)) (b : Int) (k : Nat) : List Int := ((List.range k).filter fun a : Nat => edgeB g a b).map fun a : Nat => (a : Int)
def predsTo (g : List (List Int)) (k : Nat) : List (List Int) := (List.range k).map fun b : Nat => fromTo g b g.length
def predsL (g : List (List Int)) : List (List Int) := predsTo g g.length
theorem fromTo_hit {g : List (List Int)} {b : Int} {k : Nat} (h : edgeB g k b = true) : fromTo g b (k + 1) = fromTo g b k ++ [(k : Int)] := by
  unfold fromTo; rw [List.range_succ, List.filter_append, List.map_append]; simp [h]
theorem fromTo_miss {g : List (List Int)} {b : Int} {k : Nat} (h : edgeB g k b = false) : fromTo g b (k + 1) = fromTo g b k := by
  unfold fromTo; rw [List.range_succ, List.filter_append, List.map_append]; simp [h]
theorem fromTo_len (g : List (List Int)) (b : Int) (k : Nat) : (fromTo g b k).length ≤ k := by
  unfold fromTo; rw [List.length_map]
  exact Nat.le_trans (List.length_filter_le _ _) (by simp)
theorem predsTo_succ (g : List (List Int)) (k : Nat) : predsTo g (k + 1) = predsTo g k ++ [fromTo g k g.length] := by
  unfold predsTo; rw [List.range_succ, List.map_append]; rfl
theorem predsTo_len (g : List (List Int)) (k : Nat) : (predsTo g k).length = k := by simp [predsTo]
theorem info_row : (Try.prog.info? 23).map (fun i => (i.zero, i.size, i.bytes)) = some (some (.slice none 0 0), 1, 24) := by kernel_rfl

/-- Rows that the call made itself. -/
def MadeGrid (B : Nat) (g : List (List Int)) (w : World) (e : Ending) (w' : World) : Prop := ∃ v, e = .returned v ∧ OwnGrid B w' v g ∧ Below B w w'
set_option maxHeartbeats 1000000 in
theorem preds_any (w : World) (v : Value) (g : List (List Int)) (hg : Grid w v g) (hsz : g.length ≤ 4096) :
    Calls Try.prog 35 #[v] w (MadeGrid w.heap.size (predsL g) w) := by
  have HG := Lib.hid hg
  obtain ⟨A, ca, rfl, ha1, ha2, ha3⟩ := hg
  unfold maxLen at ha2
  clear ha3
  obtain ⟨i0, hi, hz0, hz1, hz2⟩ := info_parts info_int
  obtain ⟨i1, hj, hy0, hy1, hy2⟩ := info_parts info_row
  have HI := Lib.hid hi
  have HZ0 := Lib.hid hz0
  have HZ1 := Lib.hid hz1
  have HZ2 := Lib.hid hz2
  have HJ := Lib.hid hj
  have HY0 := Lib.hid hy0
  have HY1 := Lib.hid hy1
  have HY2 := Lib.hid hy2
  clear hi hz0 hz1 hz2 hj hy0 hy1 hy2
  go_enter Try.func35, Try.ntmps35
  go_wp2
  go_loopw [3, 4] (fun o i wr => ∃ k : Nat, k ≤ g.length ∧ i = .int .i64 k ∧ OwnGrid w.heap.size wr o (predsTo g k) ∧ Below w.heap.size w wr) (fun _ i _ => g.length - (intOf i).toNat)
  case atStart => exact ⟨0, by omega, rfl, OwnGrid.none_ _ _, Below.refl _ _⟩
  case round =>
    obtain ⟨k, hk, rfl, hown, hb⟩ := hrel
    obtain ⟨wo, rfl⟩ : ∃ wo : World, wo = wr := ⟨_, rfl⟩
    have HO := Lib.hid hown
    have HB := Lib.hid hb
    clear hown hb
    by_cases hlt : k < g.length
    · go_wp2
      go_loopw [5, 6] (fun o i wr => ∃ j : Nat, j ≤ g.length ∧ i = .int .i64 j ∧ wr.ownsRow wo.heap.size 3 1 o (fromTo g k j).length ((fromTo g k j).map (Value.int .i64)) ∧ Below wo.heap.size wo wr) (fun _ i _ => g.length - (intOf i).toNat)
      case atStart => exact ⟨0, by omega, rfl, World.ownsRow_nil _ _ _ _, Below.refl _ _⟩
      case round =>
        obtain ⟨j, hj, rfl, hown, hb⟩ := hrel
        have HO2 := Lib.hid hown
        have HB2 := Lib.hid hb
        clear hown hb
        have HGr := Lib.hid ((HG.out.keep HB.out).keep HB2.out)
        have hnl := fromTo_len g k j
        by_cases hlt2 : j < g.length
        · cases he : edgeB g j k
          · have HE := Lib.hid he
            go_wp2_with (go_at_call 22; refine (edge_any _ _ g _ _ HGr.out).mono ?_; rintro e w' ⟨rfl, rfl⟩)
            go_roundw
            case rel => exact ⟨j + 1, by omega, by go_num, by rw [fromTo_miss HE.out]; exact HO2.out, HB2.out⟩
            case measure => simp [intOf]; omega
          · have HE := Lib.hid he
            go_wp2_with (first | (go_at_call 22; refine (edge_any _ _ g _ _ HGr.out).mono ?_; rintro e w' ⟨rfl, rfl⟩) | (at_builtin; refine wpList_append_own _ rfl _ _ 23 rfl wo.heap.size 3 i0 (.int .i64 0) 1 8 Try.underlying23 HI.out HZ0.out HZ1.out HZ2.out rfl (by decide) _ _ _ rfl (HO2.out.alloc _) ⟨_, 0, none⟩ 1 1 [.int .i64 (j : Int)] rfl rfl ?c1 ?c2 ?c3 ?c4 ?c5 ?_))
            case c1 =>
              intro i u hj
              match i, hj with
              | 0, hj => simp at hj; subst hj; simp [Addr.add]
            case c2 => intro u hu; simp at hu; subst hu; rfl
            case c3 => unfold maxLen; omega
            case c4 => omega
            case c5 => have := HB2.out.size; simp; omega
            intro v' w1 hown' hgrow _
            have hE2 := fromTo_hit HE.out
            have hown2 : w1.ownsRow wo.heap.size 3 1 v' (fromTo g k (j + 1)).length ((fromTo g k (j + 1)).map (Value.int .i64)) := by
              rw [hE2, List.length_append, List.map_append]; exact hown'
            have HO3 := Lib.hid hown2
            have HB3 := Lib.hid ((HB2.out.alloc HB2.out.size _).grown hgrow (by rw [World.size_alloc]; have := HB2.out.size; omega) (fun j hj => (HO2.out.lt j hj).1))
            clear hown' hgrow hE2 hown2
            go_wp2
            go_roundw
            case rel => exact ⟨j + 1, by omega, by go_num, HO3.out, HB3.out⟩
            case measure => simp [intOf]; omega
        · obtain rfl : j = g.length := by omega
          obtain ⟨vs, hvs, hrows⟩ := HO.out.below HB2.out
          obtain ⟨A2, c2, rfl⟩ := own_form HO2.out
          have hpl := predsTo_len g k
          rw [hpl] at hvs
          have HV := Lib.hid hvs
          have HR := Lib.hid hrows
          clear hvs hrows
          go_wp2_with (at_builtin; refine wpList_append_own _ rfl _ _ 22 rfl w.heap.size 23 i1 (.slice none 0 0) 1 24 Try.underlying22 HJ.out HY0.out HY1.out HY2.out rfl (by decide) _ _ _ rfl (HV.out.alloc _) ⟨_, 0, none⟩ 1 1 [.slice A2 (fromTo g k g.length).length c2] rfl rfl ?c1 ?c2 ?c3 ?c4 ?c5 ?_)
          case c1 =>
            intro i u hj
            match i, hj with
            | 0, hj => simp at hj; subst hj; simp [Addr.add]
          case c2 => intro u hu; simp at hu; subst hu; rfl
          case c3 => unfold maxLen; omega
          case c4 => omega
          case c5 => have := HB.out.size; have := HB2.out.size; simp; omega
          intro v' w1 hown' hgrow _
          have hu := own_base HO2.out HB.out.size
          have hgr2 : OwnGrid w.heap.size w1 v' (predsTo g (k + 1)) := by
            rw [predsTo_succ]
            refine OwnGrid.push (fun i hi => ?_) (by rw [hpl]; exact HV.out.alloc _) (World.ownsRow.alloc hu _) hgrow (by rw [hpl]; exact hown')
            obtain ⟨x, e, hx⟩ := HR.out i hi
            exact ⟨x, e, World.ownsRow.alloc hx _⟩
          have HO4 := Lib.hid hgr2
          have HB4 := Lib.hid (((HB.out.trans (HB2.out.mono HB.out.size)).alloc (Nat.le_trans HB.out.size HB2.out.size) _).grown hgrow (by rw [World.size_alloc]; have := HB.out.size; have := HB2.out.size; omega) (fun j hj => (HV.out.lt j hj).1))
          clear hown' hgrow hu hgr2 hpl
          go_wp2
          go_roundw
          case rel => exact ⟨k + 1, by omega, by go_num, HO4.out, HB4.out⟩
          case measure => simp [intOf]; omega
    · obtain rfl : k = g.length := by omega
      go_wp2
      go_ret
      exact ⟨_, rfl, HO.out, HB.out⟩
end Go.Proofs.Ythanbedmiaacdaa.Gr
