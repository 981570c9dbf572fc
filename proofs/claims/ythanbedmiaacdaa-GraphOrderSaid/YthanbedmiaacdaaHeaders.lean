/- What jacquardref02's Headers answers: the blocks to which edges come back from blocks that they dominate. -/
import Derived.Test.YthanbedmiaacdaaTable
import Derived.Test.YthanbedmiaacdaaPreds
namespace Go.Proofs.Ythanbedmiaacdaa.Gr
open Go.ChangeShapes Go.WideShapes Go.ChangeAt Go.RowKit Go.Proofs.Ythanbedmiaacdaa.Mem
set_option linter.unusedVariables false

/-- Does an edge from below k come back to h? -/
def backTo (g : List (List Int)) (h k : Nat) : Bool := (List.range k).any fun b : Nat => edgeB g b h && domB g h b
def headersTo (g : List (List Int)) (k : Nat) : List Int := ((List.range k).filter fun h : Nat => backTo g h g.length).map fun h : Nat => (h : Int)
def headersL (g : List (List Int)) : List Int := headersTo g g.length
theorem backTo_succ (g : List (List Int)) (h k : Nat) : backTo g h (k + 1) = (backTo g h k || (edgeB g k h && domB g h k)) := by
  unfold backTo; rw [List.range_succ, List.any_append]; simp
theorem headersTo_hit {g : List (List Int)} {k : Nat} (h : backTo g k g.length = true) : headersTo g (k + 1) = headersTo g k ++ [(k : Int)] := by
  unfold headersTo; rw [List.range_succ, List.filter_append, List.map_append]; simp [h]
theorem headersTo_miss {g : List (List Int)} {k : Nat} (h : backTo g k g.length = false) : headersTo g (k + 1) = headersTo g k := by
  unfold headersTo; rw [List.range_succ, List.filter_append, List.map_append]; simp [h]
theorem headersTo_len (g : List (List Int)) (k : Nat) : (headersTo g k).length ≤ k := by
  unfold headersTo; rw [List.length_map]
  exact Nat.le_trans (List.length_filter_le _ _) (by simp)
theorem OwnBoolGrid.form {B : Nat} {w : World} {o : Value} {t : List (List Bool)} (h : OwnBoolGrid B w o t) : ∃ A c, o = .slice A t.length c := by
  obtain ⟨vs, h1, _⟩ := h; exact own_form h1
theorem OwnBoolGrid.at_ {B : Nat} {w : World} {A : Option Addr} {n c : Nat} {t : List (List Bool)} (h : OwnBoolGrid B w (.slice A n c) t) (h0 : 0 < t.length) : ∃ p, A = some ⟨p, 0, none⟩ := by
  obtain ⟨vs, h1, _⟩ := h; exact own_at h1 h0
/-- The row at a, and the place b in it. -/
theorem OwnBoolGrid.cells {B p n c : Nat} {w : World} {t : List (List Bool)} (h : OwnBoolGrid B w (.slice (some ⟨p, 0, none⟩) n c) t) {a b : Nat} (ha : a < t.length) (hb : b < t[a].length) :
    ∃ q, w.cell? ⟨p, a, none⟩ = some (.slice (some ⟨q, 0, none⟩) t[a].length t[a].length) ∧ w.cell? ⟨q, b, none⟩ = some (.bool t[a][b]) := by
  obtain ⟨vs, h1, h2⟩ := h
  obtain ⟨q, e, _, hq⟩ := h2 a ha
  have hn : n = t.length := by
    rcases h1.2 with ⟨he, _⟩ | ⟨g', cap, cur, he, _⟩
    · cases he
    · injection he
  subst hn
  refine ⟨q, ?_, hq.cell hb⟩
  rw [World.ownsRow.cellAt h1 a (by omega), e]
theorem tableL_len (g : List (List Int)) : (tableL g).length = g.length := tableTo_len _ _
theorem tableL_row {g : List (List Int)} {a : Nat} (ha : a < (tableL g).length) : (tableL g)[a].length = g.length := by
  simp [tableL, tableTo, rowTo_len]
/-- The table's cells, by the numbers of the graph. -/
theorem table_cells {B p n c : Nat} {w : World} {g : List (List Int)} (h : OwnBoolGrid B w (.slice (some ⟨p, 0, none⟩) n c) (tableL g)) {a b : Nat} (ha : a < g.length) (hb : b < g.length) :
    ∃ q, w.cell? ⟨p, a, none⟩ = some (.slice (some ⟨q, 0, none⟩) g.length g.length) ∧ w.cell? ⟨q, b, none⟩ = some (.bool (domB g a b)) := by
  have ha2 : a < (tableL g).length := by rw [tableL_len]; exact ha
  obtain ⟨q, h1, h2⟩ := h.cells ha2 (b := b) (by rw [tableL_row]; exact hb)
  rw [tableL_row] at h1
  rw [tableL_at] at h2
  exact ⟨q, h1, h2⟩

set_option maxRecDepth 100000 in
set_option maxHeartbeats 1000000 in
theorem headers_any (w : World) (v : Value) (g : List (List Int)) (hg : Grid w v g) (hsz : g.length ≤ 4096) :
    Calls Try.prog 38 #[v] w (MadeInts w.heap.size (headersL g) w) := by
  have HG := Lib.hid hg
  obtain ⟨A, ca, rfl, ha1, ha2, ha3⟩ := hg
  unfold maxLen at ha2
  clear ha3
  obtain ⟨i0, hi, hz0, hz1, hz2⟩ := info_parts info_int
  have HI := Lib.hid hi
  have HZ0 := Lib.hid hz0
  have HZ1 := Lib.hid hz1
  have HZ2 := Lib.hid hz2
  clear hi hz0 hz1 hz2
  go_enter Try.func38, Try.ntmps38
  go_wp2_with fail
  refine (table_any _ _ g HG.out hsz).mono ?_
  rintro e w1 ⟨u, rfl, ht, hb⟩
  obtain ⟨T, tc, rfl⟩ := ht.form
  have htl := tableL_len g
  rw [htl]
  rw [htl] at ht
  have HT := Lib.hid ht
  have HB1 := Lib.hid hb
  clear ht hb htl
  go_wp2
  go_loopw [4, 5] (fun o i wr => ∃ k : Nat, k ≤ g.length ∧ i = .int .i64 k ∧ wr.ownsRow w1.heap.size 3 1 o (headersTo g k).length ((headersTo g k).map (Value.int .i64)) ∧ Below w1.heap.size w1 wr) (fun _ i _ => g.length - (intOf i).toNat)
  case atStart => exact ⟨0, by omega, rfl, World.ownsRow_nil _ _ _ _, Below.refl _ _⟩
  case round =>
    obtain ⟨k, hk, rfl, hown, hb⟩ := hrel
    obtain ⟨wo, rfl⟩ : ∃ wo : World, wo = wr := ⟨_, rfl⟩
    have HO := Lib.hid hown
    have HB := Lib.hid hb
    have HGr := Lib.hid ((HG.out.keep HB1.out).keep hb)
    have HTr := Lib.hid (HT.out.below hb)
    clear hown hb
    by_cases hlt : k < g.length
    · obtain ⟨p, rfl⟩ := HTr.out.at_ (by rw [tableL_len]; omega)
      go_wp2
      go_loopw [6, 7] (fun s i wr => ∃ j : Nat, j ≤ g.length ∧ i = .int .i64 j ∧ s = .bool (backTo g k j) ∧ wr = wo) (fun _ i _ => g.length - (intOf i).toNat)
      case atStart => exact ⟨0, by omega, rfl, rfl, rfl⟩
      case round =>
        obtain ⟨j, hj, rfl, rfl, rfl⟩ := hrel
        by_cases hlt2 : j < g.length
        · obtain ⟨q, hc1, hc2⟩ := table_cells HTr.out hlt hlt2
          have HS := Lib.hid (backTo_succ g k j)
          cases he : edgeB g j k
          · have HE := Lib.hid he
            have HN := Lib.hid (show backTo g k (j + 1) = backTo g k j by rw [HS.out, he]; simp)
            generalize backTo g k j = x at *
            cases x
            all_goals
              go_wp2_with (go_at_call 22; refine (edge_any _ _ g _ _ HGr.out).mono ?_; rintro e w' ⟨rfl, rfl⟩)
              go_roundw
              case rel => exact ⟨j + 1, by omega, by go_num, by rw [HN.out], trivial⟩
              case measure => simp [intOf]; omega
          · have HE := Lib.hid he
            have HN := Lib.hid (show backTo g k (j + 1) = (backTo g k j || domB g k j) by rw [HS.out, he]; simp)
            generalize backTo g k j = x at *
            generalize domB g k j = d at *
            cases x
            · go_wp2_with (go_at_call 22; refine (edge_any _ _ g _ _ HGr.out).mono ?_; rintro e w' ⟨rfl, rfl⟩)
              go_roundw
              case rel => exact ⟨j + 1, by omega, by go_num, by rw [HN.out]; simp, trivial⟩
              case measure => simp [intOf]; omega
            · go_wp2_with (go_at_call 22; refine (edge_any _ _ g _ _ HGr.out).mono ?_; rintro e w' ⟨rfl, rfl⟩)
              go_roundw
              case rel => exact ⟨j + 1, by omega, by go_num, by rw [HN.out]; simp, trivial⟩
              case measure => simp [intOf]; omega
        · obtain rfl : j = g.length := by omega
          have hnl := headersTo_len g k
          cases hk2 : backTo g k g.length
          · have HM := Lib.hid (headersTo_miss hk2)
            clear hk2
            go_wp2
            go_roundw
            case rel => exact ⟨k + 1, by omega, by go_num, by rw [HM.out]; exact HO.out, HB.out⟩
            case measure => simp [intOf]; omega
          · have HM := Lib.hid (headersTo_hit hk2)
            clear hk2
            go_wp2_with (at_builtin; refine wpList_append_own _ rfl _ _ 23 rfl w1.heap.size 3 i0 (.int .i64 0) 1 8 Try.underlying23 HI.out HZ0.out HZ1.out HZ2.out rfl (by decide) _ _ _ rfl (HO.out.alloc _) ⟨_, 0, none⟩ 1 1 [.int .i64 (k : Int)] rfl rfl ?c1 ?c2 ?c3 ?c4 ?c5 ?_)
            case c1 =>
              intro i u hj
              match i, hj with
              | 0, hj => simp at hj; subst hj; simp [Addr.add]
            case c2 => intro u hu; simp at hu; subst hu; rfl
            case c3 => unfold maxLen; omega
            case c4 => omega
            case c5 => have := HB.out.size; simp; omega
            intro v' w4 hown' hgrow _
            have hown2 : w4.ownsRow w1.heap.size 3 1 v' (headersTo g (k + 1)).length ((headersTo g (k + 1)).map (Value.int .i64)) := by
              rw [HM.out, List.length_append, List.map_append]; exact hown'
            have HO3 := Lib.hid hown2
            have HB3 := Lib.hid ((HB.out.alloc HB.out.size _).grown hgrow (by rw [World.size_alloc]; have := HB.out.size; omega) (fun j hj => (HO.out.lt j hj).1))
            clear hown' hgrow hown2
            go_wp2
            go_roundw
            case rel => exact ⟨k + 1, by omega, by go_num, HO3.out, HB3.out⟩
            case measure => simp [intOf]; omega
    · obtain rfl : k = g.length := by omega
      go_wp2
      go_ret
      exact ⟨_, rfl, own_base HO.out HB1.out.size, HB1.out.trans (HB.out.mono HB1.out.size)⟩
end Go.Proofs.Ythanbedmiaacdaa.Gr
