/- What jacquardref02's Headers, Idom, Reducible and Body answer. -/
import Derived.Test.YthanbedmiaacdaaTable
import Derived.Test.YthanbedmiaacdaaPreds
/- What jacquardref02's Headers answers: the blocks to which edges come back from blocks that they dominate. -/
namespace Go.Proofs.Ythanbedmiaacdaa.Gr
open Go.ChangeShapes Go.WideShapes Go.ChangeAt Go.RowKit Go.Proofs.Ythanbedmiaacdaa.Mem
set_option linter.unusedVariables false

/-- Does an edge from below k come back to h? -/
def backTo (g : List (List Int)) (h k : Nat) : Bool := (List.range k).any fun b : Nat => edgeB g b h && domB g h b
def headersTo (g : List (List Int)) (k : Nat) : List Int := ((List.range k).filter fun h : Nat => backTo g h g.length).map fun h : Nat => (h : Int)
def headersL (g : List (List Int)) : List Int := headersTo g g.length
theorem backTo_succ (g : List (List Int)) (h k : Nat) : backTo g h (k + 1) = (backTo g h k || (edgeB g k h && domB g h k)) := by
  unfold backTo; rw [List.range_succ, List.any_append]; simp
theorem headersTo_hit {g : List (List Int)} {k : Nat} (h : backTo g k g.length = true) : headersTo g (k + 1) = headersTo g k ++ [(k : Int)] := by
  unfold headersTo; rw [List.range_succ, List.filter_append, List.map_append]; simp [h]
theorem headersTo_miss {g : List (List Int)} {k : Nat} (h : backTo g k g.length = false) : headersTo g (k + 1) = headersTo g k := by
  unfold headersTo; rw [List.range_succ, List.filter_append, List.map_append]; simp [h]
theorem headersTo_len (g : List (List Int)) (k : Nat) : (headersTo g k).length ≤ k := by
  unfold headersTo; rw [List.length_map]
  exact Nat.le_trans (List.length_filter_le _ _) (by simp)
theorem OwnBoolGrid.form {B : Nat} {w : World} {o : Value} {t : List (List Bool)} (h : OwnBoolGrid B w o t) : ∃ A c, o = .slice A t.length c := by
  obtain ⟨vs, h1, _⟩ := h; exact own_form h1
theorem OwnBoolGrid.at_ {B : Nat} {w : World} {A : Option Addr} {n c : Nat} {t : List (List Bool)} (h : OwnBoolGrid B w (.slice A n c) t) (h0 : 0 < t.length) : ∃ p, A = some ⟨p, 0, none⟩ := by
  obtain ⟨vs, h1, _⟩ := h; exact own_at h1 h0
/-- The row at a, and the place b in it. -/
theorem OwnBoolGrid.cells {B p n c : Nat} {w : World} {t : List (List Bool)} (h : OwnBoolGrid B w (.slice (some ⟨p, 0, none⟩) n c) t) {a b : Nat} (ha : a < t.length) (hb : b < t[a].length) :
    ∃ q, w.cell? ⟨p, a, none⟩ = some (.slice (some ⟨q, 0, none⟩) t[a].length t[a].length) ∧ w.cell? ⟨q, b, none⟩ = some (.bool t[a][b]) := by
  obtain ⟨vs, h1, h2⟩ := h
  obtain ⟨q, e, _, hq⟩ := h2 a ha
  have hn : n = t.length := by
    rcases h1.2 with ⟨he, _⟩ | ⟨g', cap, cur, he, _⟩
    · cases he
    · injection he
  subst hn
  refine ⟨q, ?_, hq.cell hb⟩
  rw [World.ownsRow.cellAt h1 a (by omega), e]
theorem tableL_len (g : List (List Int)) : (tableL g).length = g.length := tableTo_len _ _
theorem tableL_row {g : List (List Int)} {a : Nat} (ha : a < (tableL g).length) : (tableL g)[a].length = g.length := by
  simp [tableL, tableTo, rowTo_len]
/-- The table's cells, by the numbers of the graph. -/
theorem table_cells {B p n c : Nat} {w : World} {g : List (List Int)} (h : OwnBoolGrid B w (.slice (some ⟨p, 0, none⟩) n c) (tableL g)) {a b : Nat} (ha : a < g.length) (hb : b < g.length) :
    ∃ q, w.cell? ⟨p, a, none⟩ = some (.slice (some ⟨q, 0, none⟩) g.length g.length) ∧ w.cell? ⟨q, b, none⟩ = some (.bool (domB g a b)) := by
  have ha2 : a < (tableL g).length := by rw [tableL_len]; exact ha
  obtain ⟨q, h1, h2⟩ := h.cells ha2 (b := b) (by rw [tableL_row]; exact hb)
  rw [tableL_row] at h1
  rw [tableL_at] at h2
  exact ⟨q, h1, h2⟩

set_option maxRecDepth 100000 in
set_option maxHeartbeats 1000000 in
theorem headers_any (w : World) (v : Value) (g : List (List Int)) (hg : Grid w v g) (hsz : g.length ≤ 4096) :
    Calls Try.prog 38 #[v] w (MadeInts w.heap.size (headersL g) w) := by
  have HG := Lib.hid hg
  obtain ⟨A, ca, rfl, ha1, ha2, ha3⟩ := hg
  unfold maxLen at ha2
  clear ha3
  obtain ⟨i0, hi, hz0, hz1, hz2⟩ := info_parts info_int
  have HI := Lib.hid hi
  have HZ0 := Lib.hid hz0
  have HZ1 := Lib.hid hz1
  have HZ2 := Lib.hid hz2
  clear hi hz0 hz1 hz2
  go_enter Try.func38, Try.ntmps38
  go_wp2_with fail
  refine (table_any _ _ g HG.out hsz).mono ?_
  rintro e w1 ⟨u, rfl, ht, hb⟩
  obtain ⟨T, tc, rfl⟩ := ht.form
  have htl := tableL_len g
  rw [htl]
  rw [htl] at ht
  have HT := Lib.hid ht
  have HB1 := Lib.hid hb
  clear ht hb htl
  go_wp2
  go_loopw [4, 5] (fun o i wr => ∃ k : Nat, k ≤ g.length ∧ i = .int .i64 k ∧ wr.ownsRow w1.heap.size 3 1 o (headersTo g k).length ((headersTo g k).map (Value.int .i64)) ∧ Below w1.heap.size w1 wr) (fun _ i _ => g.length - (intOf i).toNat)
  case atStart => exact ⟨0, by omega, rfl, World.ownsRow_nil _ _ _ _, Below.refl _ _⟩
  case round =>
    obtain ⟨k, hk, rfl, hown, hb⟩ := hrel
    obtain ⟨wo, rfl⟩ : ∃ wo : World, wo = wr := ⟨_, rfl⟩
    have HO := Lib.hid hown
    have HB := Lib.hid hb
    have HGr := Lib.hid ((HG.out.keep HB1.out).keep hb)
    have HTr := Lib.hid (HT.out.below hb)
    clear hown hb
    by_cases hlt : k < g.length
    · obtain ⟨p, rfl⟩ := HTr.out.at_ (by rw [tableL_len]; omega)
      go_wp2
      go_loopw [6, 7] (fun s i wr => ∃ j : Nat, j ≤ g.length ∧ i = .int .i64 j ∧ s = .bool (backTo g k j) ∧ wr = wo) (fun _ i _ => g.length - (intOf i).toNat)
      case atStart => exact ⟨0, by omega, rfl, rfl, rfl⟩
      case round =>
        obtain ⟨j, hj, rfl, rfl, rfl⟩ := hrel
        by_cases hlt2 : j < g.length
        · obtain ⟨q, hc1, hc2⟩ := table_cells HTr.out hlt hlt2
          have HS := Lib.hid (backTo_succ g k j)
          cases he : edgeB g j k
          · have HE := Lib.hid he
            have HN := Lib.hid (show backTo g k (j + 1) = backTo g k j by rw [HS.out, he]; simp)
            generalize backTo g k j = x at *
            cases x
            all_goals
              go_wp2_with (go_at_call 22; refine (edge_any _ _ g _ _ HGr.out).mono ?_; rintro e w' ⟨rfl, rfl⟩)
              go_roundw
              case rel => exact ⟨j + 1, by omega, by go_num, by rw [HN.out], trivial⟩
              case measure => simp [intOf]; omega
          · have HE := Lib.hid he
            have HN := Lib.hid (show backTo g k (j + 1) = (backTo g k j || domB g k j) by rw [HS.out, he]; simp)
            generalize backTo g k j = x at *
            generalize domB g k j = d at *
            cases x
            · go_wp2_with (go_at_call 22; refine (edge_any _ _ g _ _ HGr.out).mono ?_; rintro e w' ⟨rfl, rfl⟩)
              go_roundw
              case rel => exact ⟨j + 1, by omega, by go_num, by rw [HN.out]; simp, trivial⟩
              case measure => simp [intOf]; omega
            · go_wp2_with (go_at_call 22; refine (edge_any _ _ g _ _ HGr.out).mono ?_; rintro e w' ⟨rfl, rfl⟩)
              go_roundw
              case rel => exact ⟨j + 1, by omega, by go_num, by rw [HN.out]; simp, trivial⟩
              case measure => simp [intOf]; omega
        · obtain rfl : j = g.length := by omega
          have hnl := headersTo_len g k
          cases hk2 : backTo g k g.length
          · have HM := Lib.hid (headersTo_miss hk2)
            clear hk2
            go_wp2
            go_roundw
            case rel => exact ⟨k + 1, by omega, by go_num, by rw [HM.out]; exact HO.out, HB.out⟩
            case measure => simp [intOf]; omega
          · have HM := Lib.hid (headersTo_hit hk2)
            clear hk2
            go_wp2_with (at_builtin; refine wpList_append_own _ rfl _ _ 23 rfl w1.heap.size 3 i0 (.int .i64 0) 1 8 Try.underlying23 HI.out HZ0.out HZ1.out HZ2.out rfl (by decide) _ _ _ rfl (HO.out.alloc _) ⟨_, 0, none⟩ 1 1 [.int .i64 (k : Int)] rfl rfl ?c1 ?c2 ?c3 ?c4 ?c5 ?_)
            case c1 =>
              intro i u hj
              match i, hj with
              | 0, hj => simp at hj; subst hj; simp [Addr.add]
            case c2 => intro u hu; simp at hu; subst hu; rfl
            case c3 => unfold maxLen; omega
            case c4 => omega
            case c5 => have := HB.out.size; simp; omega
            intro v' w4 hown' hgrow _
            have hown2 : w4.ownsRow w1.heap.size 3 1 v' (headersTo g (k + 1)).length ((headersTo g (k + 1)).map (Value.int .i64)) := by
              rw [HM.out, List.length_append, List.map_append]; exact hown'
            have HO3 := Lib.hid hown2
            have HB3 := Lib.hid ((HB.out.alloc HB.out.size _).grown hgrow (by rw [World.size_alloc]; have := HB.out.size; omega) (fun j hj => (HO.out.lt j hj).1))
            clear hown' hgrow hown2
            go_wp2
            go_roundw
            case rel => exact ⟨k + 1, by omega, by go_num, HO3.out, HB3.out⟩
            case measure => simp [intOf]; omega
    · obtain rfl : k = g.length := by omega
      go_wp2
      go_ret
      exact ⟨_, rfl, own_base HO.out HB1.out.size, HB1.out.trans (HB.out.mono HB1.out.size)⟩
end Go.Proofs.Ythanbedmiaacdaa.Gr
/- What jacquardref02's Idom answers: for each block the last of those that dominate it. -/
namespace Go.Proofs.Ythanbedmiaacdaa.Gr
open Go.ChangeShapes Go.WideShapes Go.ChangeAt Go.RowKit Go.Proofs.Ythanbedmiaacdaa.Mem
set_option linter.unusedVariables false

/-- Do all below k that dominate b, b aside, dominate a? -/
def lastTo (g : List (List Int)) (a b k : Nat) : Bool := (List.range k).all fun c : Nat => ((c : Int) == (b : Int)) || !domB g c b || domB g c a
def bestAt (g : List (List Int)) (b : Nat) (r : Int) (a : Nat) : Int := if ((a : Int) != (b : Int)) && domB g a b && lastTo g a b g.length then (a : Int) else r
def bestTo (g : List (List Int)) (b k : Nat) : Int := (List.range k).foldl (bestAt g b) (-1)
def idomTo (g : List (List Int)) (k : Nat) : List Int := (List.range k).map fun b : Nat => bestTo g b g.length
def idomL (g : List (List Int)) : List Int := idomTo g g.length
theorem lastTo_succ (g : List (List Int)) (a b k : Nat) : lastTo g a b (k + 1) = (lastTo g a b k && (((k : Int) == (b : Int)) || !domB g k b || domB g k a)) := by
  unfold lastTo; rw [List.range_succ, List.all_append]; simp
theorem bestTo_succ (g : List (List Int)) (b k : Nat) : bestTo g b (k + 1) = bestAt g b (bestTo g b k) k := by
  unfold bestTo; rw [List.range_succ, List.foldl_append]; rfl
theorem idomTo_succ (g : List (List Int)) (k : Nat) : idomTo g (k + 1) = idomTo g k ++ [bestTo g k g.length] := by
  unfold idomTo; rw [List.range_succ, List.map_append]; rfl
theorem idomTo_len (g : List (List Int)) (k : Nat) : (idomTo g k).length = k := by simp [idomTo]

set_option maxRecDepth 100000 in
set_option maxHeartbeats 1000000 in
theorem idom_any (w : World) (v : Value) (g : List (List Int)) (hg : Grid w v g) (hsz : g.length ≤ 4096) :
    Calls Try.prog 37 #[v] w (MadeInts w.heap.size (idomL g) w) := by
  have HG := Lib.hid hg
  obtain ⟨A, ca, rfl, ha1, ha2, ha3⟩ := hg
  unfold maxLen at ha2
  clear ha3
  obtain ⟨i0, hi, hz0, hz1, hz2⟩ := info_parts info_int
  have HI := Lib.hid hi
  have HZ0 := Lib.hid hz0
  have HZ1 := Lib.hid hz1
  have HZ2 := Lib.hid hz2
  clear hi hz0 hz1 hz2
  go_enter Try.func37, Try.ntmps37
  go_wp2_with fail
  refine (table_any _ _ g HG.out hsz).mono ?_
  rintro e w1 ⟨u, rfl, ht, hb⟩
  obtain ⟨T, tc, rfl⟩ := ht.form
  have htl := tableL_len g
  rw [htl]
  rw [htl] at ht
  have HT := Lib.hid ht
  have HB1 := Lib.hid hb
  clear ht hb htl
  go_wp2
  go_loopw [4, 5] (fun o i wr => ∃ k : Nat, k ≤ g.length ∧ i = .int .i64 k ∧ wr.ownsRow w1.heap.size 3 1 o k ((idomTo g k).map (Value.int .i64)) ∧ Below w1.heap.size w1 wr) (fun _ i _ => g.length - (intOf i).toNat)
  case atStart => exact ⟨0, by omega, rfl, World.ownsRow_nil _ _ _ _, Below.refl _ _⟩
  case round =>
    obtain ⟨k, hk, rfl, hown, hb⟩ := hrel
    obtain ⟨wo, rfl⟩ : ∃ wo : World, wo = wr := ⟨_, rfl⟩
    have HO := Lib.hid hown
    have HB := Lib.hid hb
    have HTr := Lib.hid (HT.out.below hb)
    clear hown hb
    by_cases hlt : k < g.length
    · obtain ⟨p, rfl⟩ := HTr.out.at_ (by rw [tableL_len]; omega)
      go_wp2
      go_loopw [6, 7] (fun r i wr => ∃ a : Nat, a ≤ g.length ∧ i = .int .i64 a ∧ r = .int .i64 (bestTo g k a) ∧ wr = wo) (fun _ i _ => g.length - (intOf i).toNat)
      case atStart => exact ⟨0, by omega, rfl, rfl, rfl⟩
      case round =>
        obtain ⟨a, ha, rfl, rfl, hw⟩ := hrel
        obtain rfl : wo = wr := hw.symm
        by_cases hlt2 : a < g.length
        · have HS := Lib.hid (bestTo_succ g k a)
          generalize bestTo g k a = r at *
          by_cases hak : a = k
          · have hbe : ((a : Int) == (k : Int)) = true := beq_iff_eq.2 (by omega)
            have hbn : ((a : Int) != (k : Int)) = false := by unfold bne; rw [hbe]; rfl
            have HN := Lib.hid (show bestTo g k (a + 1) = r by rw [HS.out]; unfold bestAt bne; rw [hbe]; rfl)
            clear hak
            go_wp2
            go_roundw
            case rel => exact ⟨a + 1, by omega, by go_num, by rw [HN.out], trivial⟩
            case measure => simp [intOf]; omega
          · have hbe : ((a : Int) == (k : Int)) = false := beq_eq_false_iff_ne.2 (by omega)
            have hbn : ((a : Int) != (k : Int)) = true := by unfold bne; rw [hbe]; rfl
            obtain ⟨q, hc1, hc2⟩ := table_cells HTr.out hlt2 hlt
            have HE := Lib.hid (show bestAt g k r a = if domB g a k && lastTo g a k g.length then (a : Int) else r by unfold bestAt bne; rw [hbe]; rfl)
            clear hak
            cases hd : domB g a k
            · rw [hd] at hc2
              have HN := Lib.hid (show bestTo g k (a + 1) = r by rw [HS.out, HE.out, hd]; rfl)
              clear hd
              go_wp2
              go_roundw
              case rel => exact ⟨a + 1, by omega, by go_num, by rw [HN.out], trivial⟩
              case measure => simp [intOf]; omega
            · rw [hd] at hc2
              have HN := Lib.hid (show bestTo g k (a + 1) = if lastTo g a k g.length then (a : Int) else r by rw [HS.out, HE.out, hd]; rfl)
              clear hd
              go_wp2
              go_loopw [8, 9] (fun s i wr => ∃ c : Nat, c ≤ g.length ∧ i = .int .i64 c ∧ s = .bool (lastTo g a k c) ∧ wr = wo) (fun _ i _ => g.length - (intOf i).toNat)
              case atStart => exact ⟨0, by omega, rfl, rfl, rfl⟩
              case round =>
                obtain ⟨c, hc, rfl, rfl, hw⟩ := hrel
                obtain rfl : wo = wr := hw.symm
                clear hc1 hc2
                by_cases hlt3 : c < g.length
                · have HL := Lib.hid (lastTo_succ g a k c)
                  obtain ⟨q1, hc1, hc2⟩ := table_cells HTr.out hlt3 hlt
                  obtain ⟨q2, hc3, hc4⟩ := table_cells HTr.out hlt3 hlt2
                  obtain rfl : q1 = q2 := by
                    have h := hc1.symm.trans hc3
                    simpa using h
                  clear hc3
                  generalize lastTo g a k c = x at *
                  generalize domB g c k = y at *
                  generalize domB g c a = z at *
                  cases x
                  · have HX := Lib.hid (show lastTo g a k (c + 1) = false by rw [HL.out]; rfl)
                    go_wp2
                    go_roundw
                    case rel => exact ⟨c + 1, by omega, by go_num, by rw [HX.out], trivial⟩
                    case measure => simp [intOf]; omega
                  · by_cases hck : c = k
                    · have hbe : ((c : Int) == (k : Int)) = true := beq_iff_eq.2 (by omega)
                      have HX := Lib.hid (show lastTo g a k (c + 1) = true by rw [HL.out, hbe]; rfl)
                      clear hck
                      go_wp2
                      go_roundw
                      case rel => exact ⟨c + 1, by omega, by go_num, by rw [HX.out], trivial⟩
                      case measure => simp [intOf]; omega
                    · have hbe : ((c : Int) == (k : Int)) = false := beq_eq_false_iff_ne.2 (by omega)
                      clear hck
                      cases y
                      · have HX := Lib.hid (show lastTo g a k (c + 1) = true by rw [HL.out, hbe]; rfl)
                        go_wp2
                        go_roundw
                        case rel => exact ⟨c + 1, by omega, by go_num, by rw [HX.out], trivial⟩
                        case measure => simp [intOf]; omega
                      · have HX := Lib.hid (show lastTo g a k (c + 1) = z by rw [HL.out, hbe]; simp)
                        go_wp2
                        go_roundw
                        case rel => exact ⟨c + 1, by omega, by go_num, by rw [HX.out], trivial⟩
                        case measure => simp [intOf]; omega
                · obtain rfl : c = g.length := by omega
                  cases hl : lastTo g a k g.length
                  · have HM := Lib.hid (show bestTo g k (a + 1) = r by rw [HN.out, hl]; rfl)
                    clear hl
                    go_wp2
                    go_roundw
                    case rel => exact ⟨a + 1, by omega, by go_num, by rw [HM.out], trivial⟩
                    case measure => simp [intOf]; omega
                  · have HM := Lib.hid (show bestTo g k (a + 1) = (a : Int) by rw [HN.out, hl]; rfl)
                    clear hl
                    go_wp2
                    go_roundw
                    case rel => exact ⟨a + 1, by omega, by go_num, by rw [HM.out], trivial⟩
                    case measure => simp [intOf]; omega
        · obtain rfl : a = g.length := by omega
          have HM := Lib.hid (idomTo_succ g k)
          generalize bestTo g k g.length = r at *
          go_wp2_with (at_builtin; refine wpList_append_own _ rfl _ _ 23 rfl w1.heap.size 3 i0 (.int .i64 0) 1 8 Try.underlying23 HI.out HZ0.out HZ1.out HZ2.out rfl (by decide) _ _ _ rfl (HO.out.alloc _) ⟨_, 0, none⟩ 1 1 [.int .i64 r] rfl rfl ?c1 ?c2 ?c3 ?c4 ?c5 ?_)
          case c2 => rfl
          case c3 => unfold maxLen; omega
          case c4 => omega
          case c5 => have := HB.out.size; simp; omega
          intro v' w4 hown' hgrow _
          have hown2 : w4.ownsRow w1.heap.size 3 1 v' (k + 1) ((idomTo g (k + 1)).map (Value.int .i64)) := by
            rw [HM.out, List.map_append]; exact hown'
          have HO3 := Lib.hid hown2
          have HB3 := Lib.hid ((HB.out.alloc HB.out.size _).grown hgrow (by rw [World.size_alloc]; have := HB.out.size; omega) (fun j hj => (HO.out.lt j hj).1))
          clear hown' hgrow hown2
          go_wp2
          go_roundw
          case rel => exact ⟨k + 1, by omega, by go_num, HO3.out, HB3.out⟩
          case measure => simp [intOf]; omega
    · obtain rfl : k = g.length := by omega
      have hil := idomTo_len g g.length
      go_wp2
      go_ret
      exact ⟨_, rfl, by unfold idomL; rw [hil]; exact own_base HO.out HB1.out.size, HB1.out.trans (HB.out.mono HB1.out.size)⟩
end Go.Proofs.Ythanbedmiaacdaa.Gr
/- What jacquardref02's Reducible answers. -/
namespace Go.Proofs.Ythanbedmiaacdaa.Gr
open Go.ChangeShapes Go.WideShapes Go.ChangeAt Go.RowKit Go.Proofs.Ythanbedmiaacdaa.Mem
set_option linter.unusedVariables false

/-- Does an edge that does not go back come to b from a block below k that is there? -/
def someTo (g : List (List Int)) (S : List Bool) (b k : Nat) : Bool := (List.range k).any fun a : Nat => edgeB g a b && S.getD a false && !domB g b a
def stripAt (g : List (List Int)) (S : List Bool) (b : Nat) : List Bool := if someTo g S b g.length then S else S.set b false
def strip (g : List (List Int)) (S : List Bool) (k : Nat) : List Bool := (List.range k).foldl (stripAt g) S
def strips (g : List (List Int)) : Nat → List Bool
  | 0 => withoutL g (-1)
  | k + 1 => strip g (strips g k) g.length
def reducB (g : List (List Int)) : Bool := (strips g g.length).all fun x => !x
theorem someTo_succ (g : List (List Int)) (S : List Bool) (b k : Nat) : someTo g S b (k + 1) = (someTo g S b k || (edgeB g k b && S.getD k false && !domB g b k)) := by
  unfold someTo; rw [List.range_succ, List.any_append]; simp
theorem stripAt_len (g : List (List Int)) (S : List Bool) (b : Nat) : (stripAt g S b).length = S.length := by
  unfold stripAt; split
  · rfl
  · rw [List.length_set]
theorem strip_len (g : List (List Int)) (S : List Bool) (k : Nat) : (strip g S k).length = S.length := foldl_len _ (stripAt_len g) _ _
theorem strip_succ (g : List (List Int)) (S : List Bool) (k : Nat) : strip g S (k + 1) = stripAt g (strip g S k) k := by
  unfold strip; rw [List.range_succ, List.foldl_append]; rfl
theorem strips_len (g : List (List Int)) : ∀ k, (strips g k).length = g.length
  | 0 => withoutL_len g (-1)
  | k + 1 => by rw [strips, strip_len, strips_len g k]
theorem all_not_hit {S : List Bool} {k : Nat} (hk : k < S.length) (h : S[k] = true) : (S.all fun x => !x) = false := by
  rw [Bool.eq_false_iff, ne_eq, List.all_eq_true]
  intro ha
  have := ha _ (List.getElem_mem hk)
  rw [h] at this; exact absurd this (by decide)
theorem all_not_all {S : List Bool} (h : ∀ k (hk : k < S.length), S[k] = false) : (S.all fun x => !x) = true := by
  rw [List.all_eq_true]
  intro x hx
  obtain ⟨k, hk, rfl⟩ := List.mem_iff_getElem.1 hx
  rw [h k hk]; rfl

set_option maxRecDepth 100000 in
set_option maxHeartbeats 1000000 in
theorem reducible_any (w : World) (v : Value) (g : List (List Int)) (hg : Grid w v g) (hsz : g.length ≤ 4096) :
    Calls Try.prog 40 #[v] w (Told (reducB g) w) := by
  have HG := Lib.hid hg
  obtain ⟨A, ca, rfl, ha1, ha2, ha3⟩ := hg
  unfold maxLen at ha2
  clear ha3
  go_enter Try.func40, Try.ntmps40
  go_wp2_with fail
  refine (table_any _ _ g HG.out hsz).mono ?_
  rintro e w1 ⟨u, rfl, ht, hb⟩
  obtain ⟨T, tc, rfl⟩ := ht.form
  have htl := tableL_len g
  rw [htl]
  rw [htl] at ht
  have HT := Lib.hid ht
  have HB1 := Lib.hid hb
  clear ht hb htl
  go_wp2_with fail
  refine (without_any _ _ g (-1) (HG.out.keep HB1.out) hsz).mono ?_
  rintro e w2 ⟨rfl, hown, hb⟩
  rw [show (withoutL g (-1)).length = g.length from withoutL_len g _]
  have HS := Lib.hid hown
  have HB2 := Lib.hid hb
  clear hown hb
  go_wp2
  go_loopw [5] (fun i wr => ∃ r : Nat, r ≤ g.length ∧ i = .int .i64 r ∧ OwnBools w1.heap.size wr (strips g r) ∧ Below w1.heap.size w1 wr) (fun i _ => g.length - (intOf i).toNat)
  case atStart => exact ⟨0, by omega, rfl, HS.out, HB2.out⟩
  case round =>
    obtain ⟨r, hr, rfl, hown, hb⟩ := hrel
    obtain ⟨wo, rfl⟩ : ∃ wo : World, wo = wr := ⟨_, rfl⟩
    have HO := Lib.hid hown
    have HB := Lib.hid hb
    clear hown hb
    have HSL := Lib.hid (strips_len g r)
    by_cases hlt : r < g.length
    · have HSS := Lib.hid (show strips g (r + 1) = strip g (strips g r) g.length from rfl)
      generalize strips g r = S at *
      go_wp2
      go_loopw [6] (fun i wr => ∃ b : Nat, b ≤ g.length ∧ i = .int .i64 b ∧ OwnBools w1.heap.size wr (strip g S b) ∧ Below w1.heap.size w1 wr) (fun i _ => g.length - (intOf i).toNat)
      case atStart => exact ⟨0, by omega, rfl, HO.out, HB.out⟩
      case round =>
        obtain ⟨b, hb0, rfl, hown, hb⟩ := hrel
        obtain ⟨wo2, rfl⟩ : ∃ wo : World, wo = wr := ⟨_, rfl⟩
        have HO2 := Lib.hid hown
        have HB2 := Lib.hid hb
        have HTr := Lib.hid (HT.out.below hb)
        have HGr := Lib.hid ((HG.out.keep HB1.out).keep hb)
        clear hown hb
        by_cases hlt2 : b < g.length
        · have HS2 := Lib.hid (show (strip g S b).length = g.length by rw [strip_len, HSL.out])
          have HSN := Lib.hid (strip_succ g S b)
          generalize strip g S b = S2 at *
          obtain ⟨p, rfl⟩ := HTr.out.at_ (by rw [tableL_len]; omega)
          go_wp2
          go_loopw [7, 8] (fun s i wr => ∃ a : Nat, a ≤ g.length ∧ i = .int .i64 a ∧ s = .bool (someTo g S2 b a) ∧ wr = wo2) (fun _ i _ => g.length - (intOf i).toNat)
          case atStart => exact ⟨0, by omega, rfl, rfl, rfl⟩
          case round =>
            obtain ⟨a, ha, rfl, rfl, hw⟩ := hrel
            obtain rfl : wo2 = wr := hw.symm
            by_cases hlt3 : a < g.length
            · have hla : a < S2.length := by rw [HS2.out]; exact hlt3
              have hca := HO2.out.cell hla
              obtain ⟨q, hc1, hc2⟩ := table_cells HTr.out hlt2 hlt3
              have HD := Lib.hid (show S2.getD a false = S2[a] by rw [List.getD_eq_getElem?_getD, List.getElem?_eq_getElem hla]; rfl)
              have HSM := Lib.hid (someTo_succ g S2 b a)
              generalize S2[a] = y at *
              generalize someTo g S2 b a = x at *
              generalize domB g b a = z at *
              cases he : edgeB g a b
              · have HX := Lib.hid (show someTo g S2 b (a + 1) = x by rw [HSM.out, he]; simp)
                cases x
                all_goals
                  go_wp2_with (go_at_call 22; refine (edge_any _ _ g _ _ HGr.out).mono ?_; rintro e w' ⟨rfl, rfl⟩)
                  go_roundw
                  case rel => exact ⟨a + 1, by omega, by go_num, by rw [HX.out], trivial⟩
                  case measure => simp [intOf]; omega
              · have HX := Lib.hid (show someTo g S2 b (a + 1) = (x || (y && !z)) by rw [HSM.out, he, HD.out]; simp)
                cases x
                · cases y
                  · go_wp2_with (go_at_call 22; refine (edge_any _ _ g _ _ HGr.out).mono ?_; rintro e w' ⟨rfl, rfl⟩)
                    go_roundw
                    case rel => exact ⟨a + 1, by omega, by go_num, by rw [HX.out]; simp, trivial⟩
                    case measure => simp [intOf]; omega
                  · go_wp2_with (go_at_call 22; refine (edge_any _ _ g _ _ HGr.out).mono ?_; rintro e w' ⟨rfl, rfl⟩)
                    go_roundw
                    case rel => exact ⟨a + 1, by omega, by go_num, by rw [HX.out]; simp, trivial⟩
                    case measure => simp [intOf]; omega
                · go_wp2_with (go_at_call 22; refine (edge_any _ _ g _ _ HGr.out).mono ?_; rintro e w' ⟨rfl, rfl⟩)
                  go_roundw
                  case rel => exact ⟨a + 1, by omega, by go_num, by rw [HX.out]; simp, trivial⟩
                  case measure => simp [intOf]; omega
            · obtain rfl : a = g.length := by omega
              have hlb : b < S2.length := by rw [HS2.out]; exact hlt2
              have hcb := HO2.out.cell hlb
              have hfb := World.ownsRow.frozenAt HO2.out b
              cases hx : someTo g S2 b g.length
              · have HX := Lib.hid (show strip g S (b + 1) = S2.set b false by rw [HSN.out]; unfold stripAt; rw [hx]; rfl)
                clear hx
                go_wp2
                go_roundw
                case rel => exact ⟨b + 1, by omega, by go_num, by rw [HX.out]; exact HO2.out.store b false, HB2.out.setCell (Nat.le_refl _) _⟩
                case measure => simp [intOf]; omega
              · have HX := Lib.hid (show strip g S (b + 1) = S2 by rw [HSN.out]; unfold stripAt; rw [hx]; rfl)
                clear hx
                go_wp2
                go_roundw
                case rel => exact ⟨b + 1, by omega, by go_num, by rw [HX.out]; exact HO2.out, HB2.out⟩
                case measure => simp [intOf]; omega
        · obtain rfl : b = g.length := by omega
          go_wp2
          go_roundw
          case rel => exact ⟨r + 1, by omega, by go_num, by rw [HSS.out]; exact HO2.out, HB2.out⟩
          case measure => simp [intOf]; omega
    · obtain rfl : r = g.length := by omega
      have HR := Lib.hid (show reducB g = (strips g g.length).all (fun x => !x) from rfl)
      generalize strips g g.length = S at *
      go_wp2
      go_loopw [10] (fun i wr => ∃ j : Nat, j ≤ g.length ∧ i = .int .i64 j ∧ (∀ k (hk : k < S.length), k < j → S[k] = false) ∧ wr = wo) (fun i _ => g.length - (intOf i).toNat)
      case atStart => exact ⟨0, by omega, rfl, fun k hk h => absurd h (by omega), rfl⟩
      case round =>
        obtain ⟨j, hj, rfl, hall, hw⟩ := hrel
        obtain rfl : wo = wr := hw.symm
        by_cases hlt : j < g.length
        · have hlj : j < S.length := by rw [HSL.out]; exact hlt
          have hcj := HO.out.cell hlj
          cases hx : S[j]
          · have HALL := Lib.hid (show ∀ k (hk : k < S.length), k < j + 1 → S[k] = false from fun k hk h => by
              by_cases h2 : k < j
              · exact hall k hk h2
              · have : k = j := by omega
                subst this; exact hx)
            rw [hx] at hcj
            clear hall hx
            go_wp2
            go_roundw
            case rel => exact ⟨j + 1, by omega, by go_num, HALL.out, trivial⟩
            case measure => simp [intOf]; omega
          · have HX := Lib.hid (show reducB g = false by rw [HR.out]; exact all_not_hit hlj hx)
            rw [hx] at hcj
            clear hall hx
            go_wp2
            go_ret
            exact ⟨ret_bool HX.out.symm, HB1.out.trans (HB.out.mono HB1.out.size)⟩
        · obtain rfl : j = g.length := by omega
          have HX := Lib.hid (show reducB g = true by rw [HR.out]; exact all_not_all fun k hk => hall k hk (by rw [← HSL.out]; exact hk))
          clear hall
          go_wp2
          go_ret
          exact ⟨ret_bool HX.out.symm, HB1.out.trans (HB.out.mono HB1.out.size)⟩
end Go.Proofs.Ythanbedmiaacdaa.Gr
/- What jacquardref02's Body answers: the blocks of a loop. -/
namespace Go.Proofs.Ythanbedmiaacdaa.Gr
open Go.ChangeShapes Go.WideShapes Go.ChangeAt Go.RowKit Go.Proofs.Ythanbedmiaacdaa.Mem
set_option linter.unusedVariables false

theorem edgeB_in {g : List (List Int)} {a b : Int} (h : edgeB g a b = true) : 0 ≤ b ∧ b < g.length := by
  unfold edgeB at h
  rw [Bool.and_eq_true, decide_eq_true_eq] at h
  exact ⟨h.1.2.2.1, h.1.2.2.2⟩
/-- Does b go back to h? -/
def hit (g : List (List Int)) (h : Int) (b : Nat) : Bool := edgeB g b h && domB g h b
def hitAt (g : List (List Int)) (h : Int) (S : List Bool) (b : Nat) : List Bool := if hit g h b then S.set b true else S
def hitTo (g : List (List Int)) (h : Int) (k : Nat) : List Bool := (List.range k).foldl (hitAt g h) (List.replicate g.length false)
def hitB (g : List (List Int)) (h : Int) (k : Nat) : Bool := (List.range k).any (hit g h)
def growAt (g : List (List Int)) (h : Int) (a : Nat) (S : List Bool) (b : Int) : List Bool := if (withoutL g (-1)).getD a false && b != h && S.getD b.toNat false then S.set a true else S
def grows (g : List (List Int)) (h : Int) (a : Nat) (S : List Bool) (k : Nat) : List Bool := ((nextL g a).take k).foldl (growAt g h a) S
def growTo (g : List (List Int)) (h : Int) (S : List Bool) (k : Nat) : List Bool := (List.range k).foldl (fun S a => grows g h a S (nextL g a).length) S
def rounds (g : List (List Int)) (h : Int) : Nat → List Bool
  | 0 => (hitTo g h g.length).set h.toNat true
  | k + 1 => growTo g h (rounds g h k) g.length
def outTo (S : List Bool) (k : Nat) : List Int := ((List.range k).filter fun b : Nat => S.getD b false).map fun b : Nat => (b : Int)
def bodyL (g : List (List Int)) (h : Int) : List Int := if hitB g h g.length then outTo (rounds g h g.length) g.length else []
theorem hitTo_succ (g : List (List Int)) (h : Int) (k : Nat) : hitTo g h (k + 1) = hitAt g h (hitTo g h k) k := by
  unfold hitTo; rw [List.range_succ, List.foldl_append]; rfl
theorem hitB_succ (g : List (List Int)) (h : Int) (k : Nat) : hitB g h (k + 1) = (hitB g h k || hit g h k) := by
  unfold hitB; rw [List.range_succ, List.any_append]; simp
theorem hitB_in {g : List (List Int)} {h : Int} {k : Nat} (hh : hitB g h k = true) : 0 ≤ h ∧ h < g.length := by
  unfold hitB at hh
  rw [List.any_eq_true] at hh
  obtain ⟨b, _, hb⟩ := hh
  unfold hit at hb
  rw [Bool.and_eq_true] at hb
  exact edgeB_in hb.1
theorem hitAt_len (g : List (List Int)) (h : Int) (S : List Bool) (b : Nat) : (hitAt g h S b).length = S.length := by
  unfold hitAt; split
  · rw [List.length_set]
  · rfl
theorem hitTo_len (g : List (List Int)) (h : Int) (k : Nat) : (hitTo g h k).length = g.length := by
  unfold hitTo; rw [foldl_len _ (hitAt_len g h)]; simp
theorem growAt_len (g : List (List Int)) (h : Int) (a : Nat) (S : List Bool) (b : Int) : (growAt g h a S b).length = S.length := by
  unfold growAt; split
  · rw [List.length_set]
  · rfl
theorem grows_len (g : List (List Int)) (h : Int) (a : Nat) (S : List Bool) (k : Nat) : (grows g h a S k).length = S.length := foldl_len _ (growAt_len g h a) _ _
theorem grows_succ {g : List (List Int)} {h : Int} {a : Nat} {S : List Bool} {k : Nat} (hk : k < (nextL g a).length) : grows g h a S (k + 1) = growAt g h a (grows g h a S k) (nextL g a)[k] := by
  unfold grows; rw [List.take_succ_eq_append_getElem hk, List.foldl_append]; rfl
theorem growTo_len (g : List (List Int)) (h : Int) (S : List Bool) (k : Nat) : (growTo g h S k).length = S.length := foldl_len _ (fun _ _ => grows_len _ _ _ _ _) _ _
theorem growTo_succ (g : List (List Int)) (h : Int) (S : List Bool) (k : Nat) : growTo g h S (k + 1) = grows g h k (growTo g h S k) (nextL g k).length := by
  unfold growTo; rw [List.range_succ, List.foldl_append]; rfl
theorem rounds_len (g : List (List Int)) (h : Int) : ∀ k, (rounds g h k).length = g.length
  | 0 => by rw [rounds, List.length_set, hitTo_len]
  | k + 1 => by rw [rounds, growTo_len, rounds_len g h k]
theorem outTo_hit {S : List Bool} {k : Nat} (h : S.getD k false = true) : outTo S (k + 1) = outTo S k ++ [(k : Int)] := by
  unfold outTo; rw [List.range_succ, List.filter_append, List.map_append]; rw [List.getD_eq_getElem?_getD] at h; simp [h]
theorem outTo_miss {S : List Bool} {k : Nat} (h : S.getD k false = false) : outTo S (k + 1) = outTo S k := by
  unfold outTo; rw [List.range_succ, List.filter_append, List.map_append]; rw [List.getD_eq_getElem?_getD] at h; simp [h]
theorem outTo_len (S : List Bool) (k : Nat) : (outTo S k).length ≤ k := by
  unfold outTo; rw [List.length_map]
  exact Nat.le_trans (List.length_filter_le _ _) (by simp)

set_option maxRecDepth 100000 in
set_option maxHeartbeats 1000000 in
theorem body_any (w : World) (v : Value) (g : List (List Int)) (h : Int) (hg : Grid w v g) (hsz : g.length ≤ 4096) :
    Calls Try.prog 41 #[v, .int .i64 h] w (MadeInts w.heap.size (bodyL g h) w) := by
  have HG := Lib.hid hg
  obtain ⟨A, ca, rfl, ha1, ha2, ha3⟩ := hg
  unfold maxLen at ha2
  clear ha3
  obtain ⟨i0, hi, hz0, hz1, hz2⟩ := info_parts info_int
  obtain ⟨i1, hj, hy0, hy1, hy2⟩ := info_parts info_bool
  have HI := Lib.hid hi
  have HZ0 := Lib.hid hz0
  have HZ1 := Lib.hid hz1
  have HZ2 := Lib.hid hz2
  have HJ := Lib.hid hj
  have HY0 := Lib.hid hy0
  have HY1 := Lib.hid hy1
  have HY2 := Lib.hid hy2
  clear hi hz0 hz1 hz2 hj hy0 hy1 hy2
  have HLA := Lib.hid (withoutL_len g (-1))
  go_enter Try.func41, Try.ntmps41
  go_wp2_with fail
  refine (table_any _ _ g HG.out hsz).mono ?_
  rintro e w1 ⟨u, rfl, ht, hb⟩
  obtain ⟨T, tc, rfl⟩ := ht.form
  have htl := tableL_len g
  rw [htl]
  rw [htl] at ht
  have HT := Lib.hid ht
  have HB1 := Lib.hid hb
  clear ht hb htl
  go_wp2_with fail
  refine (without_any _ _ g (-1) (HG.out.keep HB1.out) hsz).mono ?_
  rintro e w2 ⟨rfl, hown, hb⟩
  rw [HLA.out]
  have HA := Lib.hid hown
  have HT2 := Lib.hid (HT.out.below hb)
  have HB2 := Lib.hid (HB1.out.trans (hb.mono HB1.out.size))
  clear hown hb
  go_wp2_with (at_make; refine wpList_make_full _ rfl _ _ 43 rfl w2.heap.size 4 i1 (.bool false) 1 Try.underlying43 HJ.out HY0.out HY1.out .i64 .i64 _ _ g.length rfl rfl rfl rfl ?c1 ?c2 ?c3 ?_)
  case c1 => rw [HY2.out]; omega
  case c2 => unfold maxLen; omega
  case c3 => exact Nat.le_refl _
  intro w3 hown hgr
  have hO1 : OwnBools w2.heap.size w3 (hitTo g h 0) := by
    unfold OwnBools
    rw [hitTo_len]
    show w3.ownsRow _ _ _ _ _ ((List.replicate g.length false).map Value.bool)
    rw [List.map_replicate]
    rw [toList_madeCells_one] at hown
    simpa using hown
  have hB1 : Below w2.heap.size w2 w3 := (Below.refl _ _).grown hgr (Nat.le_refl _) (fun j hj => by cases hj)
  have HIN := Lib.hid hO1
  have HB3 := Lib.hid hB1
  clear hown hgr hO1 hB1
  go_wp2
  go_loopw [8, 9] (fun s i wr => ∃ b : Nat, b ≤ g.length ∧ i = .int .i64 b ∧ s = .bool (hitB g h b) ∧ OwnBools w2.heap.size wr (hitTo g h b) ∧ Below w2.heap.size w2 wr) (fun _ i _ => g.length - (intOf i).toNat)
  case atStart => exact ⟨0, by omega, rfl, rfl, HIN.out, HB3.out⟩
  case round =>
    obtain ⟨b, hb0, rfl, rfl, hown, hb⟩ := hrel
    have HO := Lib.hid hown
    have HB := Lib.hid hb
    have HTr := Lib.hid (HT2.out.below hb)
    have HGr := Lib.hid ((HG.out.keep HB2.out).keep hb)
    clear hown hb
    by_cases hlt : b < g.length
    · have HN := Lib.hid (hitTo_succ g h b)
      have HM := Lib.hid (hitB_succ g h b)
      have HL := Lib.hid (hitTo_len g h b)
      generalize hitTo g h b = S at *
      generalize hitB g h b = x at *
      cases he : edgeB g b h
      · have HH := Lib.hid (show hit g h b = false by unfold hit; rw [he]; rfl)
        go_wp2_with (go_at_call 22; refine (edge_any _ _ g _ _ HGr.out).mono ?_; rintro e w' ⟨rfl, rfl⟩)
        go_roundw
        case rel => exact ⟨b + 1, by omega, by go_num, by rw [HM.out, HH.out]; simp, by rw [HN.out]; unfold hitAt; rw [HH.out]; exact HO.out, HB.out⟩
        case measure => simp [intOf]; omega
      · obtain ⟨hh1, hh2⟩ := edgeB_in he
        obtain ⟨h, rfl⟩ := Int.eq_ofNat_of_zero_le hh1
        have hh3 : h < g.length := by omega
        obtain ⟨p, rfl⟩ := HTr.out.at_ (by rw [tableL_len]; omega)
        obtain ⟨q, hc1, hc2⟩ := table_cells HTr.out hh3 hlt
        have hlb : b < S.length := by rw [HL.out]; exact hlt
        have hcb := HO.out.cell hlb
        have hfb := World.ownsRow.frozenAt HO.out b
        have HH := Lib.hid (show hit g h b = domB g h b by unfold hit; rw [he]; rfl)
        generalize domB g h b = d at *
        clear hh1 hh2
        cases d
        · go_wp2_with (go_at_call 22; refine (edge_any _ _ g _ _ HGr.out).mono ?_; rintro e w' ⟨rfl, rfl⟩)
          go_roundw
          case rel => exact ⟨b + 1, by omega, by go_num, by rw [HM.out, HH.out]; simp, by rw [HN.out]; unfold hitAt; rw [HH.out]; exact HO.out, HB.out⟩
          case measure => simp [intOf]; omega
        · go_wp2_with (go_at_call 22; refine (edge_any _ _ g _ _ HGr.out).mono ?_; rintro e w' ⟨rfl, rfl⟩)
          go_roundw
          case rel => exact ⟨b + 1, by omega, by go_num, by rw [HM.out, HH.out]; simp, by rw [HN.out]; unfold hitAt; rw [HH.out]; exact HO.out.store b true, HB.out.setCell (Nat.le_refl _) _⟩
          case measure => simp [intOf]; omega
    · obtain rfl : b = g.length := by omega
      cases hx : hitB g h g.length
      · have HX := Lib.hid (show bodyL g h = [] by unfold bodyL; rw [hx]; rfl)
        clear hx
        go_wp2
        go_ret
        exact ⟨_, rfl, by rw [HX.out]; exact World.ownsRow_nil _ _ _ _, HB2.out.trans (HB.out.mono HB2.out.size)⟩
      · obtain ⟨hh1, hh2⟩ := hitB_in hx
        obtain ⟨h, rfl⟩ := Int.eq_ofNat_of_zero_le hh1
        have HX := Lib.hid (show bodyL g h = outTo (rounds g h g.length) g.length by unfold bodyL; rw [hx]; rfl)
        have hlh : h < (hitTo g h g.length).length := by rw [hitTo_len]; omega
        have hch := HO.out.cell hlh
        have hfh := World.ownsRow.frozenAt HO.out h
        have HO0 := Lib.hid (show OwnBools w2.heap.size (wr.setCell ⟨w2.heap.size, h, none⟩ (.bool true)) (rounds g h 0) from HO.out.store h true)
        have HB0 := Lib.hid (HB.out.setCell (p := ⟨w2.heap.size, h, none⟩) (Nat.le_refl _) (.bool true))
        generalize (hitTo g h g.length)[h] = y0 at *
        clear hx hh1 hlh
        go_wp2
        go_loopw [11] (fun i wr => ∃ r : Nat, r ≤ g.length ∧ i = .int .i64 r ∧ OwnBools w2.heap.size wr (rounds g h r) ∧ Below w2.heap.size w2 wr) (fun i _ => g.length - (intOf i).toNat)
        case atStart => exact ⟨0, by omega, rfl, HO0.out, HB0.out⟩
        case round =>
          obtain ⟨r, hr, rfl, hown, hb⟩ := hrel
          have HO1 := Lib.hid hown
          have HB1 := Lib.hid hb
          clear hown hb hch hfh
          have HSL := Lib.hid (rounds_len g h r)
          by_cases hlt : r < g.length
          · have HSS := Lib.hid (show rounds g h (r + 1) = growTo g h (rounds g h r) g.length from rfl)
            generalize rounds g h r = S at *
            go_wp2
            go_loopw [12] (fun i wr => ∃ a : Nat, a ≤ g.length ∧ i = .int .i64 a ∧ OwnBools w2.heap.size wr (growTo g h S a) ∧ Below w2.heap.size w2 wr) (fun i _ => g.length - (intOf i).toNat)
            case atStart => exact ⟨0, by omega, rfl, HO1.out, HB1.out⟩
            case round =>
              obtain ⟨a, ha, rfl, hown, hb⟩ := hrel
              obtain ⟨wo2, rfl⟩ : ∃ wo : World, wo = wr := ⟨_, rfl⟩
              have HO2 := Lib.hid hown
              have HB4 := Lib.hid hb
              have HGr2 := Lib.hid ((HG.out.keep HB2.out).keep hb)
              clear hown hb
              by_cases hlt2 : a < g.length
              · have HS2 := Lib.hid (show (growTo g h S a).length = g.length by rw [growTo_len, HSL.out])
                have HSN := Lib.hid (growTo_succ g h S a)
                generalize growTo g h S a = S2 at *
                go_wp2_with fail
                refine (next_any _ _ g _ HGr2.out hsz).mono ?_
                rintro e w5 ⟨u, rfl, hu, hb3⟩
                obtain ⟨A3, c3, rfl⟩ := own_form hu
                have HU := Lib.hid hu
                have HB5 := Lib.hid (HB4.out.trans (hb3.mono HB4.out.size))
                have HO3 := Lib.hid (HO2.out.below hb3)
                clear hu hb3
                go_wp2
                go_loopw [14] (fun i wr => ∃ k : Nat, k ≤ (nextL g a).length ∧ i = .int .i64 k ∧ OwnBools w2.heap.size wr (grows g h a S2 k) ∧ Below w2.heap.size w2 wr ∧ OwnInts wo2.heap.size wr (.slice A3 (nextL g a).length c3) (nextL g a)) (fun i _ => (nextL g a).length - (intOf i).toNat)
                case atStart => exact ⟨0, by omega, rfl, HO3.out, HB5.out, HU.out⟩
                case round =>
                  obtain ⟨k, hk, rfl, hown, hb, hui⟩ := hrel
                  have hnl : (nextL g a).length ≤ g.length := nextTo_len g a g.length
                  by_cases hlt3 : k < (nextL g a).length
                  · obtain ⟨gb, rfl⟩ := own_at hui (by omega)
                    obtain ⟨b, hb1, hb2⟩ := nextL_at hlt3
                    have hcu := World.ownsRow.cellAt hui k (by omega)
                    rw [List.getElem?_map, List.getElem?_eq_getElem hlt3, hb2] at hcu
                    have hcu' : wr.cell? ⟨gb, k, none⟩ = some (.int .i64 b) := hcu
                    have HL3 := Lib.hid (show (grows g h a S2 k).length = g.length by rw [grows_len, HS2.out])
                    have HG3 := Lib.hid (show grows g h a S2 (k + 1) = growAt g h a (grows g h a S2 k) b by rw [grows_succ hlt3, hb2])
                    generalize grows g h a S2 k = S3 at *
                    have hlb : b < S3.length := by rw [HL3.out]; exact hb1
                    have hla : a < S3.length := by rw [HL3.out]; exact hlt2
                    have hlx : a < (withoutL g (-1)).length := by rw [HLA.out]; exact hlt2
                    have hcb := hown.cell hlb
                    have hca := hown.cell hla
                    have hfa := World.ownsRow.frozenAt hown a
                    have hcx := (HA.out.below hb).cell hlx
                    have HD1 := Lib.hid (show (withoutL g (-1)).getD a false = (withoutL g (-1))[a] by rw [List.getD_eq_getElem?_getD, List.getElem?_eq_getElem hlx]; rfl)
                    have HD2 := Lib.hid (show S3.getD b false = S3[b] by rw [List.getD_eq_getElem?_getD, List.getElem?_eq_getElem hlb]; rfl)
                    have HO4 := Lib.hid hown
                    have HB6 := Lib.hid hb
                    have HU4 := Lib.hid hui
                    clear hown hb hui hcu hb2
                    have HG4 := Lib.hid (show grows g h a S2 (k + 1) = if (withoutL g (-1))[a] && (b : Int) != (h : Int) && S3[b] then S3.set a true else S3 by
                      rw [HG3.out]; unfold growAt; rw [HD1.out, Int.toNat_natCast, HD2.out])
                    generalize (withoutL g (-1))[a] = x at *
                    generalize S3[b] = y at *
                    cases x
                    · have HX := Lib.hid (show grows g h a S2 (k + 1) = S3 by rw [HG4.out]; rfl)
                      go_wp2
                      go_roundw
                      case rel => exact ⟨k + 1, by omega, by go_num, by rw [HX.out]; exact HO4.out, HB6.out, HU4.out⟩
                      case measure => simp [intOf]; omega
                    · by_cases hbh : b = h
                      · have hbe : ((b : Int) == (h : Int)) = true := beq_iff_eq.2 (by omega)
                        have hbn : ((b : Int) != (h : Int)) = false := by unfold bne; rw [hbe]; rfl
                        have HX := Lib.hid (show grows g h a S2 (k + 1) = S3 by rw [HG4.out, hbn]; rfl)
                        clear hbh
                        go_wp2
                        go_roundw
                        case rel => exact ⟨k + 1, by omega, by go_num, by rw [HX.out]; exact HO4.out, HB6.out, HU4.out⟩
                        case measure => simp [intOf]; omega
                      · have hbe : ((b : Int) == (h : Int)) = false := beq_eq_false_iff_ne.2 (by omega)
                        have hbn : ((b : Int) != (h : Int)) = true := by unfold bne; rw [hbe]; rfl
                        clear hbh
                        cases y
                        · have HX := Lib.hid (show grows g h a S2 (k + 1) = S3 by rw [HG4.out, hbn]; rfl)
                          go_wp2
                          go_roundw
                          case rel => exact ⟨k + 1, by omega, by go_num, by rw [HX.out]; exact HO4.out, HB6.out, HU4.out⟩
                          case measure => simp [intOf]; omega
                        · have HX := Lib.hid (show grows g h a S2 (k + 1) = S3.set a true by rw [HG4.out, hbn]; rfl)
                          go_wp2
                          go_roundw
                          case rel =>
                            refine ⟨k + 1, by omega, by go_num, ?_, ?_, ?_⟩
                            · rw [HX.out]; exact HO4.out.store a true
                            · exact HB6.out.setCell (Nat.le_refl _) _
                            · exact World.ownsRow.kept HU4.out (World.ownsRow.stored HO4.out a (.bool true)).2 (own_apart HU4.out HO4.out (by decide))
                          case measure => simp [intOf]; omega
                  · obtain rfl : k = (nextL g a).length := by omega
                    have HO6 := Lib.hid hown
                    have HB6 := Lib.hid hb
                    clear hown hb hui
                    go_wp2
                    go_roundw
                    case rel => exact ⟨a + 1, by omega, by go_num, by rw [HSN.out]; exact HO6.out, HB6.out⟩
                    case measure => simp [intOf]; omega
              · obtain rfl : a = g.length := by omega
                go_wp2
                go_roundw
                case rel => exact ⟨r + 1, by omega, by go_num, by rw [HSS.out]; exact HO2.out, HB4.out⟩
                case measure => simp [intOf]; omega
          · obtain rfl : r = g.length := by omega
            generalize rounds g h g.length = S at *
            go_wp2
            go_loopw [15, 16] (fun o i wr => ∃ j : Nat, j ≤ g.length ∧ i = .int .i64 j ∧ wr.ownsRow w2.heap.size 3 1 o (outTo S j).length ((outTo S j).map (Value.int .i64)) ∧ OwnBools w2.heap.size wr S ∧ Below w2.heap.size w2 wr) (fun _ i _ => g.length - (intOf i).toNat)
            case atStart => exact ⟨0, by omega, rfl, World.ownsRow_nil _ _ _ _, HO1.out, HB1.out⟩
            case round =>
              obtain ⟨j, hj, rfl, hown, hS, hb⟩ := hrel
              have HO7 := Lib.hid hown
              have HS7 := Lib.hid hS
              have HB7 := Lib.hid hb
              clear hown hS hb
              have hnl := outTo_len S j
              by_cases hlt4 : j < g.length
              · have hlj : j < S.length := by rw [HSL.out]; exact hlt4
                have hcj := HS7.out.cell hlj
                have HD := Lib.hid (show S.getD j false = S[j] by rw [List.getD_eq_getElem?_getD, List.getElem?_eq_getElem hlj]; rfl)
                cases hx : S[j]
                · rw [hx] at hcj
                  have HM := Lib.hid (outTo_miss (HD.out.trans hx))
                  clear hx
                  go_wp2
                  go_roundw
                  case rel => exact ⟨j + 1, by omega, by go_num, by rw [HM.out]; exact HO7.out, HS7.out, HB7.out⟩
                  case measure => simp [intOf]; omega
                · rw [hx] at hcj
                  have HM := Lib.hid (outTo_hit (HD.out.trans hx))
                  clear hx
                  go_wp2_with (at_builtin; refine wpList_append_own _ rfl _ _ 23 rfl w2.heap.size 3 i0 (.int .i64 0) 1 8 Try.underlying23 HI.out HZ0.out HZ1.out HZ2.out rfl (by decide) _ _ _ rfl (HO7.out.alloc _) ⟨_, 0, none⟩ 1 1 [.int .i64 (j : Int)] rfl rfl ?c1 ?c2 ?c3 ?c4 ?c5 ?_)
                  case c1 =>
                    intro i u hj
                    match i, hj with
                    | 0, hj => simp at hj; subst hj; simp [Addr.add]
                  case c2 => intro u hu; simp at hu; subst hu; rfl
                  case c3 => unfold maxLen; omega
                  case c4 => omega
                  case c5 => have := HB7.out.size; simp; omega
                  intro v' w8 hown' hgrow _
                  have hown2 : w8.ownsRow w2.heap.size 3 1 v' (outTo S (j + 1)).length ((outTo S (j + 1)).map (Value.int .i64)) := by
                    rw [HM.out, List.length_append, List.map_append]; exact hown'
                  have HO8 := Lib.hid hown2
                  have HS8 := Lib.hid (show OwnBools w2.heap.size w8 S from World.ownsRow.kept (World.ownsRow.alloc HS7.out _) hgrow (own_apart (w := wr) HS7.out HO7.out (by decide)))
                  have HB8 := Lib.hid ((HB7.out.alloc HB7.out.size _).grown hgrow (by rw [World.size_alloc]; have := HB7.out.size; omega) (fun j hj => (HO7.out.lt j hj).1))
                  clear hown' hgrow hown2
                  go_wp2
                  go_roundw
                  case rel => exact ⟨j + 1, by omega, by go_num, HO8.out, HS8.out, HB8.out⟩
                  case measure => simp [intOf]; omega
              · obtain rfl : j = g.length := by omega
                go_wp2
                go_ret
                exact ⟨_, rfl, by rw [HX.out]; exact own_base HO7.out HB2.out.size, HB2.out.trans (HB7.out.mono HB2.out.size)⟩
end Go.Proofs.Ythanbedmiaacdaa.Gr
