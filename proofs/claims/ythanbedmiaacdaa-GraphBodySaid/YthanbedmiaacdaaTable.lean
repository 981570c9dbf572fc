/- What jacquardref02's Table answers: who dominates whom, in rows of its own. -/
import Derived.Test.YthanbedmiaacdaaDom
namespace Go.Proofs.Ythanbedmiaacdaa.Gr
open Go.ChangeShapes Go.WideShapes Go.ChangeAt Go.RowKit Go.Proofs.Ythanbedmiaacdaa.Mem
set_option linter.unusedVariables false

/-- The first k places of the row of block a. -/
def rowTo (g : List (List Int)) (a k : Nat) : List Bool := (List.range g.length).map fun b : Nat => decide (b < k) && domB g a b
def tableTo (g : List (List Int)) (k : Nat) : List (List Bool) := (List.range k).map fun a : Nat => rowTo g a g.length
def tableL (g : List (List Int)) : List (List Bool) := tableTo g g.length
theorem rowTo_len (g : List (List Int)) (a k : Nat) : (rowTo g a k).length = g.length := by simp [rowTo]
theorem tableTo_len (g : List (List Int)) (k : Nat) : (tableTo g k).length = k := by simp [tableTo]
theorem rowTo_zero (g : List (List Int)) (a : Nat) : rowTo g a 0 = List.replicate g.length false := by
  refine List.ext_getElem (by simp [rowTo]) fun i h1 h2 => ?_
  simp [rowTo]
theorem rowTo_succ {g : List (List Int)} {a k : Nat} {x : Bool} (hx : domB g a k = x) : (rowTo g a k).set k x = rowTo g a (k + 1) := by
  refine List.ext_getElem (by simp [rowTo]) fun i h1 h2 => ?_
  rw [List.getElem_set]
  simp only [rowTo, List.getElem_map, List.getElem_range]
  by_cases hik : k = i
  · subst hik; simp [hx]
  · rw [if_neg hik]
    congr 1
    exact decide_eq_decide.2 (by omega)
theorem tableTo_succ (g : List (List Int)) (k : Nat) : tableTo g (k + 1) = tableTo g k ++ [rowTo g k g.length] := by
  unfold tableTo; rw [List.range_succ, List.map_append]; rfl
theorem tableL_at {g : List (List Int)} {a b : Nat} (ha : a < (tableL g).length) (hb : b < (tableL g)[a].length) : (tableL g)[a][b] = domB g a b := by
  have hb2 := hb
  simp only [tableL, tableTo, List.getElem_map, List.getElem_range, rowTo_len] at hb2
  simp [tableL, tableTo, rowTo, hb2]

/-- Rows of bools of the call's own. -/
def OwnBoolGrid (B : Nat) (w : World) (o : Value) (t : List (List Bool)) : Prop :=
  ∃ vs : List Value, w.ownsRow B 43 1 o t.length vs ∧ ∀ i (h : i < t.length), ∃ q, vs[i]? = some (.slice (some ⟨q, 0, none⟩) t[i].length t[i].length) ∧ B ≤ q ∧ OwnBools q w t[i]
theorem OwnBoolGrid.none_ (B : Nat) (w : World) : OwnBoolGrid B w (.slice none 0 0) [] := ⟨[], World.ownsRow_nil _ _ _ _, fun i h => absurd h (by simp)⟩
theorem OwnBoolGrid.below {B : Nat} {w w' : World} {o : Value} {t : List (List Bool)} (h : OwnBoolGrid B w o t) (hb : Below w.heap.size w w') : OwnBoolGrid B w' o t := by
  obtain ⟨vs, h1, h2⟩ := h
  refine ⟨vs, own_below h1 hb, fun i hi => ?_⟩
  obtain ⟨u, e, hq, hu⟩ := h2 i hi
  exact ⟨u, e, hq, own_below hu hb⟩
theorem OwnBoolGrid.push {B q : Nat} {w w1 : World} {o o' : Value} {t : List (List Bool)} {l : List Bool} {vs : List Value} (h : ∀ i (h : i < t.length), ∃ q, vs[i]? = some (.slice (some ⟨q, 0, none⟩) t[i].length t[i].length) ∧ B ≤ q ∧ OwnBools q w t[i]) (hvs : w.ownsRow B 43 1 o t.length vs)
    (hq : B ≤ q) (hu : OwnBools q w l) (hg : w.grownBy w1 o.ownBlock) (h1 : w1.ownsRow B 43 1 o' (t.length + 1) (vs ++ [.slice (some ⟨q, 0, none⟩) l.length l.length])) : OwnBoolGrid B w1 o' (t ++ [l]) := by
  have hlen : vs.length = t.length := by have := hvs.1; omega
  refine ⟨vs ++ [.slice (some ⟨q, 0, none⟩) l.length l.length], by rw [List.length_append]; exact h1, fun i hi => ?_⟩
  by_cases hi2 : i < t.length
  · obtain ⟨x, e, hx, hy⟩ := h i hi2
    rw [List.getElem_append_left hi2]
    exact ⟨x, by rw [List.getElem?_append_left (by omega)]; exact e, hx, World.ownsRow.kept hy hg (own_apart hy hvs (by decide))⟩
  · have hi3 : i = t.length := by rw [List.length_append, List.length_singleton] at hi; omega
    subst hi3
    rw [List.getElem_append_right (Nat.le_refl _)]
    simp only [Nat.sub_self, List.getElem_cons_zero]
    exact ⟨q, by rw [List.getElem?_append_right (by omega), hlen]; simp, hq, World.ownsRow.kept hu hg (own_apart hu hvs (by decide))⟩
theorem info_brow : (Try.prog.info? 43).map (fun i => (i.zero, i.size, i.bytes)) = some (some (.slice none 0 0), 1, 24) := by kernel_rfl

/-- A table that the call made itself. -/
def MadeTable (B : Nat) (t : List (List Bool)) (w : World) (e : Ending) (w' : World) : Prop := ∃ v, e = .returned v ∧ OwnBoolGrid B w' v t ∧ Below B w w'
/-- One place of a row of the table is written. -/
theorem tableRound {w0 w : World} {g : List (List Int)} {k j q : Nat} {x : Bool} {R : List Bool} (h1 : OwnBools w0.heap.size w (rowTo g k j)) (h2 : OwnBools q w R) (hb : Below w0.heap.size w0 w) (h3 : (rowTo g k j).set j x = rowTo g k (j + 1)) (hq : w0.heap.size < q) (hj : j + 1 ≤ g.length) :
    ∃ i : Nat, i ≤ g.length ∧ Value.int .i64 ((j : Int) + 1) = .int .i64 i ∧ OwnBools w0.heap.size (w.setCell ⟨w0.heap.size, j, none⟩ (.bool x)) (rowTo g k i) ∧ OwnBools q (w.setCell ⟨w0.heap.size, j, none⟩ (.bool x)) R ∧ Below w0.heap.size w0 (w.setCell ⟨w0.heap.size, j, none⟩ (.bool x)) := by
  refine ⟨j + 1, hj, by go_num, ?_, ?_, hb.setCell (Nat.le_refl _) _⟩
  · rw [← h3]; exact h1.store j x
  · refine World.ownsRow.kept h2 (World.ownsRow.stored h1 j (.bool x)).2 (Or.inr ?_)
    simp [Value.ownBlock]
    omega
set_option maxRecDepth 100000 in
set_option maxHeartbeats 1000000 in
theorem table_any (w : World) (v : Value) (g : List (List Int)) (hg : Grid w v g) (hsz : g.length ≤ 4096) :
    Calls Try.prog 20 #[v] w (MadeTable w.heap.size (tableL g) w) := by
  have HG := Lib.hid hg
  obtain ⟨A, ca, rfl, ha1, ha2, ha3⟩ := hg
  unfold maxLen at ha2
  clear ha3
  obtain ⟨i0, hi, hz0, hz1, hz2⟩ := info_parts info_bool
  obtain ⟨i1, hj, hy0, hy1, hy2⟩ := info_parts info_brow
  have HI := Lib.hid hi
  have HZ0 := Lib.hid hz0
  have HZ1 := Lib.hid hz1
  have HZ2 := Lib.hid hz2
  have HJ := Lib.hid hj
  have HY0 := Lib.hid hy0
  have HY1 := Lib.hid hy1
  have HY2 := Lib.hid hy2
  clear hi hz0 hz1 hz2 hj hy0 hy1 hy2
  have HL := Lib.hid (withoutL_len g (-1))
  go_enter Try.func20, Try.ntmps20
  go_wp2_with fail
  refine (without_any _ _ g (-1) HG.out hsz).mono ?_
  rintro e w1 ⟨rfl, hown, hb⟩
  rw [HL.out]
  have HA := Lib.hid hown
  have HB1 := Lib.hid hb
  clear hown hb
  go_wp2
  go_loopw [4, 5] (fun o i wr => ∃ k : Nat, k ≤ g.length ∧ i = .int .i64 k ∧ OwnBoolGrid w.heap.size wr o (tableTo g k) ∧ OwnBools w.heap.size wr (withoutL g (-1)) ∧ Below w.heap.size w wr) (fun _ i _ => g.length - (intOf i).toNat)
  case atStart => exact ⟨0, by omega, rfl, OwnBoolGrid.none_ _ _, HA.out, HB1.out⟩
  case round =>
    obtain ⟨k, hk, rfl, hown, hall, hb⟩ := hrel
    obtain ⟨wo, rfl⟩ : ∃ wo : World, wo = wr := ⟨_, rfl⟩
    have HO := Lib.hid hown
    have HA2 := Lib.hid hall
    have HB := Lib.hid hb
    clear hown hall hb
    by_cases hlt : k < g.length
    · go_wp2_with (at_make; refine wpList_make_full _ rfl _ _ 43 rfl wo.heap.size 4 i0 (.bool false) 1 Try.underlying43 HI.out HZ0.out HZ1.out .i64 .i64 _ _ g.length rfl rfl rfl rfl ?c1 ?c2 ?c3 ?_)
      case c1 => rw [HZ2.out]; omega
      case c2 => unfold maxLen; omega
      case c3 => exact Nat.le_refl _
      intro w2 hown2 hgr
      have hO1 : OwnBools wo.heap.size w2 (rowTo g k 0) := by
        rw [rowTo_zero]
        unfold OwnBools
        rw [List.length_replicate, List.map_replicate]
        rw [toList_madeCells_one] at hown2
        simpa using hown2
      have hB1 : Below wo.heap.size wo w2 := (Below.refl _ _).grown hgr (Nat.le_refl _) (fun j hj => by cases hj)
      have HR1 := Lib.hid hO1
      have HB2 := Lib.hid hB1
      clear hown2 hgr hO1 hB1
      go_wp2_with fail
      refine (without_any _ _ g _ ((HG.out.keep HB.out).keep HB2.out) hsz).mono ?_
      rintro e w3 ⟨rfl, hown, hb⟩
      rw [show (withoutL g ((k : Nat) : Int)).length = g.length from withoutL_len _ _]
      have HC := Lib.hid hown
      have HB3 := Lib.hid (HB2.out.trans (hb.mono HB2.out.size))
      have HR2 := Lib.hid (HR1.out.below hb)
      have HA3 := Lib.hid ((HA2.out.below HB2.out).below hb)
      have HO3 := Lib.hid ((HO.out.below HB2.out).below hb)
      have HS := Lib.hid (show wo.heap.size < w2.heap.size from (HR1.out.lt _ rfl).2)
      clear hown hb
      go_wp2
      go_loopw [8] (fun i wr => ∃ j : Nat, j ≤ g.length ∧ i = .int .i64 j ∧ OwnBools wo.heap.size wr (rowTo g k j) ∧ OwnBools w2.heap.size wr (withoutL g k) ∧ Below wo.heap.size wo wr) (fun i _ => g.length - (intOf i).toNat)
      case atStart => exact ⟨0, by omega, rfl, HR2.out, HC.out, HB3.out⟩
      case round =>
        obtain ⟨j, hj, rfl, hrow, hrest, hb⟩ := hrel
        by_cases hlt2 : j < g.length
        · have hlk : k < (withoutL g (-1)).length := by rw [HL.out]; exact hlt
          have hlj : j < (withoutL g (-1)).length := by rw [HL.out]; exact hlt2
          have hlr : j < (withoutL g k).length := by rw [withoutL_len]; exact hlt2
          have hall := HA2.out.below hb
          have hck := hall.cell hlk
          have hcj := hall.cell hlj
          have hcr := hrest.cell hlr
          have hcw := hrow.cell (b := j) (by rw [rowTo_len]; exact hlt2)
          have hfw := World.ownsRow.frozenAt hrow j
          have HD := Lib.hid (show domB g k j = ((withoutL g (-1))[k] && (withoutL g (-1))[j] && (((k : Int) == (j : Int)) || !(withoutL g k)[j])) by
            unfold domB; rw [has_at hlk, has_at hlj, has_at hlr])
          have HR3 := Lib.hid hrow
          have HC3 := Lib.hid hrest
          have HB4 := Lib.hid hb
          clear hrow hrest hb hall
          generalize (withoutL g (-1))[k] = x at *
          generalize (withoutL g (-1))[j] = y at *
          generalize (withoutL g k)[j] = z at *
          cases x
          · have HR4 := Lib.hid (rowTo_succ (show domB g k j = false by rw [HD.out]; rfl))
            go_wp2
            go_roundw
            case rel => exact tableRound HR3.out HC3.out HB4.out HR4.out HS.out (by omega)
            case measure => simp [intOf]; omega
          · cases y
            · have HR4 := Lib.hid (rowTo_succ (show domB g k j = false by rw [HD.out]; rfl))
              go_wp2
              go_roundw
              case rel => exact tableRound HR3.out HC3.out HB4.out HR4.out HS.out (by omega)
              case measure => simp [intOf]; omega
            · by_cases hkj : k = j
              · have hbe : ((k : Int) == (j : Int)) = true := beq_iff_eq.2 (by omega)
                have HR4 := Lib.hid (rowTo_succ (show domB g k j = true by rw [HD.out, hbe]; rfl))
                go_wp2
                go_roundw
                case rel => exact tableRound HR3.out HC3.out HB4.out HR4.out HS.out (by omega)
                case measure => simp [intOf]; omega
              · have hbe : ((k : Int) == (j : Int)) = false := beq_eq_false_iff_ne.2 (by omega)
                have HR4 := Lib.hid (rowTo_succ (show domB g k j = !z by rw [HD.out, hbe]; simp))
                go_wp2
                go_roundw
                case rel => exact tableRound HR3.out HC3.out HB4.out HR4.out HS.out (by omega)
                case measure => simp [intOf]; omega
        · obtain rfl : j = g.length := by omega
          have HR3 := Lib.hid hrow
          have HB4 := Lib.hid hb
          clear hrow hrest hb
          obtain ⟨vs, hvs, hrows⟩ := HO.out.below HB4.out
          have hpl := tableTo_len g k
          have hrl := rowTo_len g k g.length
          rw [hpl] at hvs
          have HV := Lib.hid hvs
          have HRS := Lib.hid hrows
          clear hvs hrows
          go_wp2_with (at_builtin; refine wpList_append_own _ rfl _ _ 41 rfl w.heap.size 43 i1 (.slice none 0 0) 1 24 Try.underlying41 HJ.out HY0.out HY1.out HY2.out rfl (by decide) _ _ _ rfl (HV.out.alloc _) ⟨_, 0, none⟩ 1 1 [.slice (some ⟨wo.heap.size, 0, none⟩) g.length g.length] rfl rfl ?c1 ?c2 ?c3 ?c4 ?c5 ?_)
          case c1 =>
            intro i u hj
            match i, hj with
            | 0, hj => simp at hj; subst hj; simp [Addr.add]
          case c2 => intro u hu; simp at hu; subst hu; rfl
          case c3 => unfold maxLen; omega
          case c4 => omega
          case c5 => have := HB.out.size; have := HB4.out.size; simp; omega
          intro v' w4 hown' hgrow _
          have hgr2 : OwnBoolGrid w.heap.size w4 v' (tableTo g (k + 1)) := by
            rw [tableTo_succ]
            refine OwnBoolGrid.push (q := wo.heap.size) (fun i hi => ?_) (by rw [hpl]; exact HV.out.alloc _) HB.out.size (World.ownsRow.alloc HR3.out _) hgrow (by rw [hpl, hrl]; exact hown')
            obtain ⟨x, e, hx, hy⟩ := HRS.out i hi
            exact ⟨x, e, hx, World.ownsRow.alloc hy _⟩
          have hbb := HB.out.trans (HB4.out.mono HB.out.size)
          have HO4 := Lib.hid hgr2
          have HA4 := Lib.hid (show OwnBools w.heap.size w4 (withoutL g (-1)) from
            World.ownsRow.kept (World.ownsRow.alloc (HA2.out.below HB4.out) _) hgrow (own_apart (w := wr) (HA2.out.below HB4.out) HV.out (by decide)))
          have HB5 := Lib.hid ((hbb.alloc (Nat.le_trans HB.out.size HB4.out.size) _).grown hgrow (by rw [World.size_alloc]; have := HB.out.size; have := HB4.out.size; omega) (fun j hj => (HV.out.lt j hj).1))
          clear hown' hgrow hgr2 hbb hpl hrl
          go_wp2
          go_roundw
          case rel => exact ⟨k + 1, by omega, by go_num, HO4.out, HA4.out, HB5.out⟩
          case measure => simp [intOf]; omega
    · obtain rfl : k = g.length := by omega
      go_wp2
      go_ret
      exact ⟨_, rfl, HO.out, HB.out⟩
end Go.Proofs.Ythanbedmiaacdaa.Gr
