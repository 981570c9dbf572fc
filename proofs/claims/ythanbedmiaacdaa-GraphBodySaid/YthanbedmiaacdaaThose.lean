/- What package graph's those answers: the numbers that are marked. -/
import Derived.Test.YthanbedmiaacdaaSpans
import Derived.Test.YthanbedmiaacdaaWithout
namespace Go.Proofs.Ythanbedmiaacdaa.Gc
open Go.ChangeShapes Go.WideShapes Go.ChangeAt Go.RowKit Go.Shelf Go.Proofs.Ythanbedmiaacdaa.Mem Go.Proofs.Ythanbedmiaacdaa.Gr Go.Proofs.Ythanbedmiaacdaa.Gn Go.Proofs.Ythanbedmiaacdaa.Br Go.Proofs.Ythanbedmiaacdaa.Rp
set_option linter.unusedVariables false

def thoseTo (m : List Bool) (k : Nat) : List Nat := (List.range k).filter fun i => m.getD i false
theorem thoseTo_hit {m : List Bool} {k : Nat} (h : m.getD k false = true) : thoseTo m (k + 1) = thoseTo m k ++ [k] := by
  unfold thoseTo; rw [List.range_succ, List.filter_append]; rw [List.filter_cons, if_pos h]; rfl
theorem thoseTo_miss {m : List Bool} {k : Nat} (h : m.getD k false = false) : thoseTo m (k + 1) = thoseTo m k := by
  unfold thoseTo; rw [List.range_succ, List.filter_append]; rw [List.filter_cons, if_neg (by rw [h]; simp)]; simp
theorem thoseTo_len (m : List Bool) (k : Nat) : (thoseTo m k).length ≤ k := Nat.le_trans (List.length_filter_le _ _) (by simp)
set_option maxRecDepth 100000 in
theorem those_any (w : World) (B : Nat) (m : List Bool) (hm : OwnBools B w m) (hl : m.length ≤ 1000) :
    Calls Try.prog 52 #[.slice (some ⟨B, 0, none⟩) m.length m.length] w (MadeRow (li (thoseN m)) w) := by
  have HM := Lib.hid hm
  obtain ⟨i0, hi, hz0, hz1, hz2⟩ := info_parts info_int
  have HI := Lib.hid hi
  have HZ0 := Lib.hid hz0
  have HZ1 := Lib.hid hz1
  have HZ2 := Lib.hid hz2
  clear hi hz0 hz1 hz2 hm
  go_enter Try.func52, Try.ntmps52
  go_wp2
  go_loopw [3, 8] (fun o i wr => ∃ k : Nat, k ≤ m.length ∧ i = .int .i64 k ∧ OwnInts w.heap.size wr o (li (thoseTo m k)) ∧ (∃ A c, o = .slice A (thoseTo m k).length c) ∧ Below w.heap.size w wr) (fun _ i _ => m.length - (intOf i).toNat)
  case atStart => exact ⟨0, by omega, rfl, World.ownsRow_nil _ _ _ _, ⟨none, 0, rfl⟩, Below.refl _ _⟩
  case round =>
    obtain ⟨k, hk, rfl, hown, ⟨A, c, rfl⟩, hb⟩ := hrel
    have HO := Lib.hid hown
    have HB := Lib.hid hb
    have hnl := thoseTo_len m k
    by_cases hlt : k < m.length
    · have hcell := OwnBools.cell (own_below HM.out hb) hlt
      have hgd : m.getD k false = m[k] := by rw [List.getD_eq_getElem?_getD, List.getElem?_eq_getElem hlt]; rfl
      have hol := hown
      unfold OwnInts at hol
      rw [li_len] at hol
      cases hx : m[k] with
      | false =>
        have HE := Lib.hid (thoseTo_miss (hgd.trans hx))
        rw [hx] at hcell
        clear hown hb hol hgd hx
        go_wp2
        go_roundw
        case rel => exact ⟨k + 1, by omega, by go_num, by rw [HE.out]; exact HO.out, by rw [HE.out]; exact ⟨A, c, rfl⟩, HB.out⟩
        case measure => simp [intOf]; omega
      | true =>
        have HE := Lib.hid (thoseTo_hit (hgd.trans hx))
        rw [hx] at hcell
        clear hown hb hgd hx
        go_wp2_with (at_builtin; go_loud (refine wpList_append1 rfl _ _ 23 rfl w.heap.size 3 i0 (.int .i64 0) 8 Try.underlying23 HI.out HZ0.out HZ1.out HZ2.out rfl _ _ _ rfl (World.ownsRow.alloc hol _) ⟨_, 0, none⟩ (.int .i64 (k : Int)) rfl (cell_made rfl) (by rfl) (by omega) (by omega) (by rw [World.size_alloc]; have := HB.out.size; omega) ?_))
        intro v' w1 hown' hgrow hmv
        obtain ⟨A1, c1, rfl⟩ := own_form hown'
        have HO2 := Lib.hid (show OwnInts w.heap.size w1 (.slice A1 ((thoseTo m k).length + 1) c1) (li (thoseTo m (k + 1))) by
          unfold OwnInts
          rw [HE.out, li_len, List.length_append, li_snoc, List.map_append]
          exact hown')
        have HB2 := Lib.hid ((HB.out.alloc HB.out.size (.cells #[.int .i64 (k : Int)] 3)).grown hgrow (by rw [World.size_alloc]; have := HB.out.size; omega) (fun j hj => (HO.out.lt j hj).1))
        clear hown' hgrow hmv hol
        go_wp2
        go_roundw
        case rel => exact ⟨k + 1, by omega, by go_num, HO2.out, ⟨A1, c1, by rw [HE.out, List.length_append]; rfl⟩, HB2.out⟩
        case measure => simp [intOf]; omega
    · obtain rfl : k = m.length := by omega
      clear hown hb
      go_wp2
      go_ret
      exact ⟨_, rfl, HO.out, HB.out⟩
end Go.Proofs.Ythanbedmiaacdaa.Gc
