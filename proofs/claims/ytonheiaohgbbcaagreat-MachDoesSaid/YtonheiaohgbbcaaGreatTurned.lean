/- What package graph's turned answers: the graph whose edges go the other way. -/
import Derived.Test.YtonheiaohgbbcaaGreatEdges
import Derived.Test.YtonheiaohgbbcaaGreatBridge
import Derived.RangeFuncBox
import Derived.RangeFuncFrom
namespace Go.Proofs.YtonheiaohgbbcaaGreat.Gc
open Go.ChangeShapes Go.WideShapes Go.ChangeAt Go.RowKit Go.Shelf Go.Proofs.YtonheiaohgbbcaaGreat.Mem Go.Proofs.YtonheiaohgbbcaaGreat.Gr Go.Proofs.YtonheiaohgbbcaaGreat.Gn Go.Proofs.YtonheiaohgbbcaaGreat.Br
set_option linter.unusedVariables false
attribute [local go_sem] Oper.semAt_some

/-- The iterator over a graph's edges: the graph is boxed. -/
theorem edges_any (w : World) (A : Option Addr) (n c : Nat) :
    Calls Tryz.prog 123 #[.slice A n c] w fun e w' => e = .returned (.func (.func 146) #[] #[.pointer (some ⟨w.heap.size, 0, none⟩)]) ∧ w' = w.alloc (.cells #[.slice A n c] 147) := by
  go_enter Tryz.func123, Tryz.ntmps123
  go_wp2
  go_ret
  exact ⟨rfl, rfl⟩

/-- What the call owns lies in cells: a block that holds none is none of its. -/
theorem own_cells {w : World} {B : Nat} {e : TypeId} {s : Nat} {v : Value} {n : Nat} {xs : List Value} (h : w.ownsRow B e s v n xs) {row : Option Nat} (hr : ∀ r, row = some r → ∃ o : Obj, w.heap[r]? = some o ∧ o.isCells = false) :
    v.ownBlock = none ∨ v.ownBlock ≠ row := by
  rcases h.2 with ⟨rfl, _⟩ | ⟨g, cap, cur, rfl, _, hg, _⟩
  · exact Or.inl rfl
  · right
    intro e
    obtain ⟨o, ho, hc⟩ := hr g e.symm
    rw [hg] at ho
    injection ho with ho
    subst ho
    cases hc
theorem gridD_kept {B b : Nat} {w w' : World} {R : List (List Int)} (h : GridD B b w R) {row : Option Nat} (hg : w.grownBy w' row) (hr : ∀ r, row = some r → ∃ o : Obj, w.heap[r]? = some o ∧ o.isCells = false) : GridD B b w' R := by
  obtain ⟨vs, h1, h2, h3, h4⟩ := h
  refine ⟨vs, World.ownsRow.kept h1 hg (own_cells h1 hr), h2, fun i hi => ?_, h4⟩
  obtain ⟨u, e, hu⟩ := h3 i hi
  exact ⟨u, e, World.ownsRow.kept hu hg (own_cells hu hr)⟩
theorem boxed_cells {w w' : World} {b : Nat} {t : TypeId} {v : Value} (h : Boxed w b t v) {row : Option Nat} (hg : w.grownBy w' row) (hr : ∀ r, row = some r → ∃ o : Obj, w.heap[r]? = some o ∧ o.isCells = false) : Boxed w' b t v :=
  h.kept hg (fun e => by
    obtain ⟨o, ho, hc⟩ := hr b e.symm
    rw [show w.heap[b]? = _ from h] at ho
    injection ho with ho
    subst ho
    cases hc)
theorem boxed_below {w w' : World} {b : Nat} {t : TypeId} {v : Value} (h : Boxed w b t v) (hb : Below w.heap.size w w') : Boxed w' b t v := (hb.block b h.lt).trans h

/-- What the rows hold when some edges have come. -/
def turnAt {n : Nat} (pre : List (Ed n)) : G := turnAll n (pre.map (·.1))
theorem turnAll_len (n : Nat) (es : List (Nat × Nat)) : (turnAll n es).length = n := by
  unfold turnAll
  suffices h : ∀ (es : List (Nat × Nat)) (R : G), (es.foldl turnStep R).length = R.length by rw [h, List.length_replicate]
  intro es
  induction es with
  | nil => intro R; rfl
  | cons e es ih => intro R; rw [List.foldl_cons, ih]; unfold turnStep; rw [List.length_set]
theorem turnAll_snoc (n : Nat) (es : List (Nat × Nat)) (e : Nat × Nat) : turnAll n (es ++ [e]) = turnStep (turnAll n es) e := by unfold turnAll; rw [List.foldl_append]; rfl
theorem turnAll_row (n : Nat) : ∀ (es : List (Nat × Nat)) (k : Nat), ((turnAll n es).getD k []).length ≤ es.length := by
  suffices h : ∀ (es : List (Nat × Nat)) (k : Nat), ((turnAll n es.reverse).getD k []).length ≤ es.length by
    intro es k; have := h es.reverse k; rw [List.reverse_reverse, List.length_reverse] at this; exact this
  intro es
  induction es with
  | nil => intro k; simp [turnAll]; by_cases h : k < n <;> simp [h]
  | cons e es ih =>
    intro k
    rw [List.reverse_cons, turnAll_snoc]
    unfold turnStep
    rw [List.getD_eq_getElem?_getD, List.getElem?_set]
    split
    · split
      · rw [Option.getD_some, List.length_append, List.length_singleton, List.length_cons]; have := ih e.2; omega
      · simp
    · rw [← List.getD_eq_getElem?_getD, List.length_cons]; have := ih k; omega
theorem edgesTo_len {T : G} (hT : ∀ i (h : i < T.length), T[i].length ≤ 1000) : ∀ k, k ≤ T.length → (edgesTo T k).length ≤ k * 1000
  | 0, _ => by simp [edgesTo]
  | k + 1, h => by
    have h1 := edgesTo_len hT k (by omega)
    have h2 := hT k (by omega)
    rw [edgesTo_succ, List.length_append, rowEdges_at (by omega), List.length_map]
    omega

theorem turn_next {n : Nat} (es : List (Nat × Nat)) {a b : Nat} (ha : a < n) (hb : b < n) (h : b < (turnAll n es).length) : lii (turnAll n (es ++ [(a, b)])) = (lii (turnAll n es)).set b (li (turnAll n es)[b] ++ [(a : Int)]) := by
  rw [turnAll_snoc]
  unfold turnStep
  rw [lii_set, li_snoc, List.getD_eq_getElem?_getD, List.getElem?_eq_getElem h]; rfl
theorem own_isCells {w : World} {B : Nat} {e : TypeId} {s : Nat} {v : Value} {n : Nat} {xs : List Value} (h : w.ownsRow B e s v n xs) : ∀ (j : Nat) (o : Obj), v.ownBlock = some j → w.heap[j]? = some o → o.isCells = true := by
  intro j o hj ho
  rcases h.2 with ⟨rfl, _⟩ | ⟨g, cap, cur, rfl, _, hg, _⟩
  · cases hj
  · injection hj with hj
    change g = j at hj
    subst hj
    rw [hg] at ho
    injection ho with ho
    subst ho
    rfl
theorem box_outer {w : World} {B b x : Nat} {v : Value} {R : List (List Int)} {t : TypeId} (h : Boxed w x t v) (ht : t ≠ 38) (hO : GridD B b w R) : x ≠ b := by
  obtain ⟨vs, h1, _⟩ := hO
  have := Boxed.not_row h ht h1
  intro e
  subst e
  exact this rfl

set_option maxRecDepth 100000 in
set_option maxHeartbeats 4000000 in
theorem turned_any (w : World) (v : Value) (T : G) (hg : Grid w v (lii T)) (hT : Ok T) (hs : Small (lii T)) :
    Calls Tryz.prog 96 #[v] w (MadeGraph (turnN T) w) := by
  obtain ⟨A, n0, ca, rfl⟩ : ∃ A n c, v = .slice A n c := by obtain ⟨A, c, e, _⟩ := hg; exact ⟨A, _, c, e⟩
  have hg0 := hg
  obtain ⟨rfl, ha1, ha2, hs1, hrow⟩ := grid_rows hg hs
  have hel : (edgesN T).length ≤ 1000000 := by
    have := edgesTo_len (T := T) (fun i h => (hrow i h).elim fun ad h => h.elim fun u h => h.2.2.2) T.length (Nat.le_refl _)
    unfold edgesN; omega
  unfold maxLen at ha2
  have HG := Lib.hid hg0
  have HS := Lib.hid hs
  clear hrow hg hg0 hs
  obtain ⟨i0, hi, hz0, hz1, hz2⟩ := info_parts info_int
  obtain ⟨i1, hj, hy0, hy1, hy2⟩ := info_parts info_row
  have HI := Lib.hid hi
  have HZ0 := Lib.hid hz0
  have HZ1 := Lib.hid hz1
  have HZ2 := Lib.hid hz2
  have HJ := Lib.hid hj
  have HY0 := Lib.hid hy0
  have HY1 := Lib.hid hy1
  have HY2 := Lib.hid hy2
  clear hi hz0 hz1 hz2 hj hy0 hy1 hy2
  refine (callsIn_wide (n := 9)).1 ?_
  refine callsIn_of_wp_marks Tryz.func96 rfl trivial ?_ rfl
  simp only [Tryz.ntmps96, List.size_toArray, List.length_cons, List.length_nil, Nat.reduceAdd, Nat.reduceSub, Array.replicate_succ, Array.replicate_zero, List.push_toArray, List.append_toArray, List.nil_append, List.cons_append]
  gi_wp2_with (gi_at_make; refine wpListIn_make_full _ rfl _ _ 147 rfl w.heap.size 38 i1 (.slice none 0 0) 1 Tryz.underlying147 HJ.out HY0.out HY1.out .i64 .i64 _ _ T.length rfl rfl rfl rfl ?c1 ?c2 ?c3 ?_)
  case c1 => rw [HY2.out]; omega
  case c2 => unfold maxLen; omega
  case c3 => exact Nat.le_refl _
  intro w1 hown hgr
  rw [toList_madeCells_one] at hown
  have HO1 := Lib.hid (show GridD w.heap.size w.heap.size w1 (lii (turnAll T.length [])) from by
    rw [show lii (turnAll T.length []) = List.replicate T.length [] from by unfold turnAll lii; rw [List.foldl_nil, List.map_replicate]; rfl]
    exact GridD.made hown)
  have HB1 := Lib.hid (show Below w.heap.size w w1 from (Below.refl _ _).grown hgr (Nat.le_refl _) (fun j hj => by cases hj))
  clear hown hgr
  gi_wp2_with (refine ⟨trivial, ?_⟩; gi_at_call 123; refine (callsIn_wide.2 (edges_any _ A T.length ca)).mono ?_; rintro e w2 ⟨rfl, rfl⟩)
  obtain ⟨W0, hW0⟩ : ∃ W0, (w1.alloc (.cells #[.slice (some ⟨w.heap.size, 0, none⟩) T.length T.length] 147)).alloc (.cells #[.slice A T.length ca] 147) = W0 := ⟨_, rfl⟩
  rw [hW0]
  have hB0 : Below w1.heap.size w1 W0 := by rw [← hW0]; exact ((Below.refl _ _).alloc (Nat.le_refl _) _).alloc (by simp) _
  have hx1 : Boxed W0 w1.heap.size 147 (.slice (some ⟨w.heap.size, 0, none⟩) T.length T.length) := by rw [← hW0]; exact (Boxed.new _ _ _).alloc _
  have hx2 : Boxed W0 (w1.heap.size + 1) 147 (.slice A T.length ca) := by
    rw [← hW0]; have := Boxed.new (w1.alloc (.cells #[.slice (some ⟨w.heap.size, 0, none⟩) T.length T.length] 147)) 147 (.slice A T.length ca); rw [World.size_alloc] at this; exact this
  have hsz : W0.heap.size = w1.heap.size + 2 := by rw [← hW0]; simp
  have hBw := HB1.out.trans (hB0.mono HB1.out.size)
  have hwsz := HB1.out.size
  clear hW0
  refine wpIn_rangeFunc_ownF rfl (by omega) (gf := 146) (lb := #[.pointer (some ⟨w1.heap.size + 1, 0, none⟩)]) rfl trivial (enters_of Tryz.func146 (by kernel_rfl) rfl)
    (edges_stops Fence.wide 8 trivial rfl (by omega) w W0 (.slice A T.length ca) T (w1.heap.size + 1) HG.out hT HS.out hBw hx2.cell) Kept.trans (kept_b (by omega) (by omega)) (Below.refl _ _) (fun _ => rfl)
    (fun pre W => (GridD w.heap.size w.heap.size W (lii (turnAll T.length (pre.map (·.1)))) ∧ Boxed W w1.heap.size 147 (.slice (some ⟨w.heap.size, 0, none⟩) T.length T.length) ∧ Boxed W (w1.heap.size + 1) 147 (.slice A T.length ca)) ∧ Below w.heap.size w W)
    (fun _ _ _ => False)
    (OwnFrom.and (Own.from (fun s W W' row hs hg hr => ⟨gridD_kept hs.1 hg hr, boxed_cells hs.2.1 hg hr, boxed_cells hs.2.2 hg hr⟩) _) (ownFrom_below (Nat.le_refl _) (by omega)))
    (fun _ _ _ _ _ hs _ _ => hs)
    ⟨⟨HO1.out.below hB0, hx1, hx2⟩, hBw⟩
    (fun x => { tmps := #[.slice A T.length ca, undef, .slice none 0 0, .pointer (some ⟨w1.heap.size, 0, none⟩), .int .i64 (x.1.1 : Int), .int .i64 (x.1.2 : Int), .slice A T.length ca, .int .i64 (T.length : Int), .slice (some ⟨w.heap.size, 0, none⟩) T.length T.length, .slice A T.length ca, .func (.func 146) #[] #[.pointer (some ⟨w1.heap.size + 1, 0, none⟩)], .int .i64 (x.1.1 : Int), .int .i64 (x.1.2 : Int), undef, undef, undef, undef, undef, undef, undef, undef, undef, undef, undef], defers := [] }) ?assign ?body ?done ?stop
  case assign =>
    intro l x W K hK
    gi_wp2
    exact hK
  case body =>
    rintro l pre x W ⟨⟨hO, hb1, hb2⟩, hB⟩ hlen
    obtain ⟨⟨from_, to⟩, hfr, hto⟩ := x
    have hlt : to < (lii (turnAll T.length (pre.map (·.1)))).length := by rw [lii_len, turnAll_len]; exact hto
    obtain ⟨u, hcu, hcf, hou⟩ := hO.at to hlt
    gi_wp2
    refine region_held (lets_round l) (fun w' => w'.cell? ⟨w1.heap.size, 0, none⟩ = some (.slice (some ⟨w.heap.size, 0, none⟩) T.length T.length) ∧ w'.cell? ⟨w.heap.size, to, none⟩ = some u) [0, 1, 2, 3, 4, 5, 6, 9] [0, 1, 2, 3, 4, 5, 6, 7, 8, 9, 10]
      (by kernel_rfl) (by kernel_rfl) ?hQ (by kernel_rfl) (by kernel_rfl) rfl ?hpan ?hS ?_
    case hQ => intro a w h; exact h
    case hpan => intro c a d v w h; exact h
    case hS => exact ⟨hb1.cell, hcu⟩
    refine walkH_still _ ?v0 rfl rfl rfl ?y0 ?_
    case y0 => intro w hS; go_simp; first | done | with_reducible rfl
    simp only [Act.put]
    refine walkH_still _ ?v1 rfl rfl rfl ?y1 ?_
    case y1 => intro w hS; go_simp; first | done | with_reducible rfl
    simp only [Act.put]
    refine walkH_still _ ?v2 rfl rfl rfl ?y2 ?_
    case y2 => intro w hS; go_simp; first | done | with_reducible rfl
    simp only [Act.put]
    refine walkH_still _ ?v3 rfl rfl rfl ?y3 ?_
    case y3 => intro w hS; go_simp; first | done | with_reducible rfl
    simp only [Act.put]
    refine walkH_still _ ?v4 rfl rfl rfl ?y4 ?_
    case y4 => intro w hS; go_simp; first | done | with_reducible rfl
    simp only [Act.put]
    refine walkH_still _ ?v5 rfl rfl rfl ?y5 ?_
    case y5 => intro w hS; go_simp; first | done | with_reducible rfl
    simp only [Act.put]
    refine walkH_still _ ?v6 rfl rfl rfl ?y6 ?_
    case y6 => intro w hS; go_simp; first | done | with_reducible rfl
    simp only [Act.put]
    refine walkH_does _ rfl rfl ?_
    go_wp2
    have hA : Below W.heap.size W (W.alloc (.cells #[.int .i64 (from_ : Int)] 3)) := (Below.refl _ _).alloc (Nat.le_refl _) _
    have hs1' := cell_keep hA (Nat.le_refl _) hb1.cell
    have hs2' := cell_keep hA (Nat.le_refl _) hcu
    refine ⟨⟨hs1', hs2'⟩, ?_⟩
    refine walkH_does _ rfl rfl ?_
    have hul := turnAll_row T.length (pre.map (·.1)) to
    rw [List.length_map, List.getD_eq_getElem?_getD, List.getElem?_eq_getElem (by rw [turnAll_len]; exact hto), Option.getD_some] at hul
    have hlt' : to < (turnAll T.length (pre.map (·.1))).length := by rw [turnAll_len]; exact hto
    have hat := lii_at hlt' hlt
    rw [hat] at hou
    have HN := Lib.hid (turn_next (pre.map (·.1)) hfr hto hlt')
    generalize (turnAll T.length (pre.map (·.1)))[to] = row at *
    unfold OwnInts at hou
    rw [li_len] at hou
    go_wp2_with (at_builtin; refine wpList_append1 rfl _ _ 38 rfl w.heap.size 3 i0 (.int .i64 0) 8 Tryz.underlying38 HI.out HZ0.out HZ1.out HZ2.out rfl _ _ _ rfl (World.ownsRow.drew (World.ownsRow.alloc hou _)) ⟨_, 0, none⟩ (.int .i64 (from_ : Int)) rfl (by simp) (by rfl) (by omega) (by omega) (by have := hB.size; simp; omega) ?_)
    intro v' w3 hown' hgrow hmv
    obtain ⟨A', c', rfl⟩ := own_form hown'
    have hOA := (hO.alloc (.cells #[.int .i64 (from_ : Int)] 3)).drew
    obtain ⟨hs3, hf3⟩ := hOA.still hlt hs2' hgrow
    have hst := hOA.store hlt hs2' hgrow (l := li row ++ [(from_ : Int)]) (by unfold OwnInts; rw [List.length_append, li_len, List.map_append]; exact hown') (hmv.or (Nat.le_refl _))
    have hne1 := Boxed.not_row hb1 (by decide) hou
    have hne2 := Boxed.not_row hb2 (by decide) hou
    have hbx3 : Boxed w3 w1.heap.size 147 (.slice (some ⟨w.heap.size, 0, none⟩) T.length T.length) := Boxed.kept (W := (W.alloc (.cells #[.int .i64 (from_ : Int)] 3)).drew) (hb1.alloc _) hgrow hne1
    have hbn3 : Boxed w3 (w1.heap.size + 1) 147 (.slice A T.length ca) := Boxed.kept (W := (W.alloc (.cells #[.int .i64 (from_ : Int)] 3)).drew) (hb2.alloc _) hgrow hne2
    have hcx3 := hbx3.cell
    have HKO := Lib.hid (((KeepsOthers.alloc W (.cells #[.int .i64 (from_ : Int)] 3)).trans (KeepsOthers.drew _)).trans ((KeepsOthers.of_grownBy hgrow (own_isCells (World.ownsRow.drew (World.ownsRow.alloc hou _)))).trans (KeepsOthers.setCell w3 ⟨w.heap.size, to, none⟩ (.slice A' (row.length + 1) c'))))
    have hlow := hou.lt
    have HB3 := Lib.hid ((((hB.alloc hB.size (.cells #[.int .i64 (from_ : Int)] 3)).drew).grown hgrow (by have := hB.size; simp; omega) (fun i hi => (hlow i hi).1)).setCell (p := ⟨w.heap.size, to, none⟩) (Nat.le_refl _) (.slice A' (row.length + 1) c'))
    have HKp := Lib.hid (show Kept w.heap.size (w1.heap.size + 1) W (w3.setCell ⟨w.heap.size, to, none⟩ (.slice A' (row.length + 1) c')) from fun k hk => by
      have hkl : k < W.heap.size := by have := hb2.lt; have := hB.size; omega
      rw [Below.heap_setCell _ _ _ _ (by show k ≠ w.heap.size; omega), hgrow.block k (by simp; omega) (fun e => by
        rcases hk with hk | hk
        · have := hlow k e.symm; omega
        · exact hne2 (by rw [← hk]; exact e))]
      exact Below.heap_alloc _ _ _ hkl)
    have HI3 := Lib.hid (show (GridD w.heap.size w.heap.size (w3.setCell ⟨w.heap.size, to, none⟩ (.slice A' (row.length + 1) c')) (lii (turnAll T.length ((pre ++ [(⟨(from_, to), hfr, hto⟩ : Ed T.length)]).map (·.1)))) ∧ Boxed (w3.setCell ⟨w.heap.size, to, none⟩ (.slice A' (row.length + 1) c')) w1.heap.size 147 (.slice (some ⟨w.heap.size, 0, none⟩) T.length T.length) ∧ Boxed (w3.setCell ⟨w.heap.size, to, none⟩ (.slice A' (row.length + 1) c')) (w1.heap.size + 1) 147 (.slice A T.length ca)) from
      ⟨by rw [List.map_append]; rw [show ([(⟨(from_, to), hfr, hto⟩ : Ed T.length)]).map (·.1) = [(from_, to)] from rfl, HN.out]; exact hst,
        (Below.heap_setCell _ _ _ _ (by show w1.heap.size ≠ w.heap.size; exact box_outer hb1 (by decide) hO)).trans hbx3, (Below.heap_setCell _ _ _ _ (by show w1.heap.size + 1 ≠ w.heap.size; omega)).trans hbn3⟩)
    clear hown' hgrow hmv hst hne1 hne2 hOA hat hs1' hs2' hcu hcf hou hlow
    go_wp2
    refine walkH_still _ ?v9 rfl rfl rfl ?y9 ?_
    case y9 => intro w hS; go_simp; first | done | with_reducible rfl
    simp only [Act.put]
    refine walkH_does _ rfl rfl ?_
    go_wp2
    refine walkH_nil ?_
    gi_wp2
    exact ⟨HKO.out, HKp.out, HI3.out, HB3.out⟩
  case done =>
    rintro D xs W hD hxs ⟨⟨hO, hb1, hb2⟩, hB⟩ hK
    have hcx := hb1.cell
    gi_wp2
    refine ⟨by simp, .inl ⟨_, _, rfl, run_takeDeferred hK, ?_⟩⟩
    refine ⟨_, results_tmp rfl _ _ _, w.heap.size, ?_, ?_, hB.trans (belowK_b (w := w) (Nat.le_refl _) W D _ _ (by omega) hK rfl rfl)⟩
    · rw [turnN, turnAll_len]; rfl
    · rw [turnN, ← hxs]
      exact gridD_kept hO (grownBy_putObj' _ D (.deferred none)) (fun r e => by cases e; exact ⟨_, hK, rfl⟩)
  case stop =>
    rintro D c pre W _ _ h _
    exact h.elim
end Go.Proofs.YtonheiaohgbbcaaGreat.Gc
