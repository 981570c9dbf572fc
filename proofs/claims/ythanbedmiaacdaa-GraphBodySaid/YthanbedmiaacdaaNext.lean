/- What jacquardref02's next answers: the blocks that edges go to, rising, in a row of its own. -/
import Derived.Test.YthanbedmiaacdaaNums
import Derived.OwnWalk
import Derived.Lib.Hide
namespace Go.Proofs.Ythanbedmiaacdaa.Gr
open Go.ChangeShapes Go.WideShapes Go.ChangeAt Go.RowKit Go.Proofs.Ythanbedmiaacdaa.Mem
set_option linter.unusedVariables false

/-- The blocks below k that edges go to from a. -/
def nextTo (g : List (List Int)) (a : Int) (k : Nat) : List Int := ((List.range k).filter fun b : Nat => edgeB g a b).map fun b : Nat => (b : Int)
def nextL (g : List (List Int)) (a : Int) : List Int := nextTo g a g.length
theorem nextTo_hit {g : List (List Int)} {a : Int} {k : Nat} (h : edgeB g a k = true) : nextTo g a (k + 1) = nextTo g a k ++ [(k : Int)] := by
  unfold nextTo; rw [List.range_succ, List.filter_append, List.map_append]; simp [h]
theorem nextTo_miss {g : List (List Int)} {a : Int} {k : Nat} (h : edgeB g a k = false) : nextTo g a (k + 1) = nextTo g a k := by
  unfold nextTo; rw [List.range_succ, List.filter_append, List.map_append]; simp [h]
theorem nextTo_len (g : List (List Int)) (a : Int) (k : Nat) : (nextTo g a k).length ≤ k := by
  unfold nextTo; rw [List.length_map]
  exact Nat.le_trans (List.length_filter_le _ _) (by simp)
theorem info_int : (Try.prog.info? 3).map (fun i => (i.zero, i.size, i.bytes)) = some (some (.int .i64 0), 1, 8) := by kernel_rfl

/-- A row of numbers that the call made itself. -/
def MadeInts (B : Nat) (l : List Int) (w : World) (e : Ending) (w' : World) : Prop :=
  ∃ v, e = .returned v ∧ w'.ownsRow B 3 1 v l.length (l.map (Value.int .i64)) ∧ Below B w w'
theorem next_any (w : World) (v : Value) (g : List (List Int)) (a : Int) (hg : Grid w v g) (hsz : g.length ≤ 4096) :
    Calls Try.prog 45 #[v, .int .i64 a] w (MadeInts w.heap.size (nextL g a) w) := by
  have HG := Lib.hid hg
  obtain ⟨A, ca, rfl, ha1, ha2, ha3⟩ := hg
  unfold maxLen at ha2
  clear ha3
  obtain ⟨i0, hi, hz0, hz1, hz2⟩ := info_parts info_int
  have HI := Lib.hid hi
  have HZ0 := Lib.hid hz0
  have HZ1 := Lib.hid hz1
  have HZ2 := Lib.hid hz2
  clear hi hz0 hz1 hz2
  go_enter Try.func45, Try.ntmps45
  go_wp2
  go_loopw [5, 6] (fun o i wr => ∃ k : Nat, k ≤ g.length ∧ i = .int .i64 k ∧ wr.ownsRow w.heap.size 3 1 o (nextTo g a k).length ((nextTo g a k).map (Value.int .i64)) ∧ Below w.heap.size w wr) (fun _ i _ => g.length - (intOf i).toNat)
  case atStart => exact ⟨0, by omega, rfl, World.ownsRow_nil _ _ _ _, Below.refl _ _⟩
  case round =>
    obtain ⟨k, hk, rfl, hown, hb⟩ := hrel
    have HO := Lib.hid hown
    have HB := Lib.hid hb
    clear hown hb
    have HGr := Lib.hid (HG.out.keep HB.out)
    have hnl := nextTo_len g a k
    by_cases hlt : k < g.length
    · cases he : edgeB g a k
      · have HE := Lib.hid he
        go_wp2_with (go_at_call 22; refine (edge_any _ _ g _ _ HGr.out).mono ?_; rintro e w' ⟨rfl, rfl⟩)
        go_roundw
        case rel => exact ⟨k + 1, by omega, by go_num, by rw [nextTo_miss HE.out]; exact HO.out, HB.out⟩
        case measure => simp [intOf]; omega
      · have HE := Lib.hid he
        go_wp2_with (first | (go_at_call 22; refine (edge_any _ _ g _ _ HGr.out).mono ?_; rintro e w' ⟨rfl, rfl⟩) | (at_builtin; refine wpList_append_own _ rfl _ _ 23 rfl w.heap.size 3 i0 (.int .i64 0) 1 8 Try.underlying23 HI.out HZ0.out HZ1.out HZ2.out rfl (by decide) _ _ _ rfl (HO.out.alloc _) ⟨_, 0, none⟩ 1 1 [.int .i64 (k : Int)] rfl rfl ?c1 ?c2 ?c3 ?c4 ?c5 ?_))
        case c1 =>
          intro j u hj
          match j, hj with
          | 0, hj => simp at hj; subst hj; simp [Addr.add]
        case c2 => intro u hu; simp at hu; subst hu; rfl
        case c3 => unfold maxLen; omega
        case c4 => omega
        case c5 => have := HB.out.size; simp; omega
        intro v' w1 hown' hgrow _
        have hE2 := nextTo_hit HE.out
        have hown2 : w1.ownsRow w.heap.size 3 1 v' (nextTo g a (k + 1)).length ((nextTo g a (k + 1)).map (Value.int .i64)) := by
          rw [hE2, List.length_append, List.map_append]; exact hown'
        have HO2 := Lib.hid hown2
        have HB2 := Lib.hid ((HB.out.alloc HB.out.size _).grown hgrow (by rw [World.size_alloc]; have := HB.out.size; omega) (fun j hj => (HO.out.lt j hj).1))
        clear hown' hgrow hE2 hown2
        go_wp2
        go_roundw
        case rel => exact ⟨k + 1, by omega, by go_num, HO2.out, HB2.out⟩
        case measure => simp [intOf]; omega
    · obtain rfl : k = g.length := by omega
      go_wp2
      go_ret
      exact ⟨_, rfl, HO.out, HB.out⟩
end Go.Proofs.Ythanbedmiaacdaa.Gr
