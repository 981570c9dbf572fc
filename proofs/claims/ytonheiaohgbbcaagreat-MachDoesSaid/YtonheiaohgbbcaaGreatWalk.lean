/- What package graph's walk answers: the walk, depth first, from block 0 on. -/
import Derived.Test.YtonheiaohgbbcaaGreatVisit
import Derived.Test.YtonheiaohgbbcaaGreatRepeat
import Derived.Laws.EntriesVeiled
namespace Go.Proofs.YtonheiaohgbbcaaGreat.Gc
open Go.ChangeShapes Go.WideShapes Go.ChangeAt Go.RowKit Go.Proofs.YtonheiaohgbbcaaGreat.Mem Go.Proofs.YtonheiaohgbbcaaGreat.Gr Go.Proofs.YtonheiaohgbbcaaGreat.Gn Go.Proofs.YtonheiaohgbbcaaGreat.Rp
set_option linter.unusedVariables false

/-- A walk of the call's own: its four rows, each apart from the others. -/
def OwnWalk (B : Nat) (w : World) (v : Value) (s : St) : Prop := ∃ vc vl vn vp, v = .agg #[vc, vl, vn, vp] ∧ RowsD B w [vc, vl, vn, vp] [li s.came, li s.left, s.number, s.parent]
def MadeWalk (s : St) (w : World) (e : Ending) (w' : World) : Prop := ∃ v, e = .returned v ∧ OwnWalk w.heap.size w' v s ∧ Below w.heap.size w w'
theorem walk_inv {T : G} (hT : Ok T) : Inv T.length (walkN T) := by
  unfold walkN
  have h0 : Inv T.length (St.none T.length) := ⟨by simp [St.none], by simp [St.none, unv], rfl, Nat.le_refl _⟩
  split
  · rename_i h
    exact (visit_inv T hT T.length 0 (-1) (St.none T.length) h0 h (by simp [St.none, List.getD_eq_getElem?_getD, h]) (by simp [unv, St.none])).1
  · rename_i h
    have : T.length = 0 := by omega
    rw [this] at h0 ⊢
    exact h0
set_option maxRecDepth 100000 in
set_option maxHeartbeats 4000000 in
theorem walk_any (w : World) (v : Value) (T : G) (hg : Grid w v (lii T)) (hT : Ok T) (hs : Small (lii T)) :
    Calls Tryz.prog 118 #[v] w (MadeWalk (walkN T) w) := by
  obtain ⟨A, n0, ca, rfl⟩ : ∃ A n c, v = .slice A n c := by obtain ⟨A, c, e, _⟩ := hg; exact ⟨A, _, c, e⟩
  have hg0 := hg
  obtain ⟨rfl, ha1, ha2, hs1, hrow⟩ := grid_rows hg hs
  unfold maxLen at ha2
  have HG := Lib.hid hg0
  have HS := Lib.hid hs
  have HO := Lib.hid hT
  clear hrow hg hg0 hs hT
  go_enter Tryz.func118, Tryz.ntmps118
  go_wp2_with fail
  obtain ⟨W3, hW3⟩ : ∃ W3, ((w.alloc (.cells #[.slice A T.length ca] 147)).alloc (.cells #[.slice none 0 0, .slice none 0 0, .slice none 0 0, .slice none 0 0] 167)).alloc (.cells #[.int .i64 (-1)] 3) = W3 := ⟨_, rfl⟩
  rw [hW3]
  have hz3 : W3.heap.size = w.heap.size + 3 := by rw [← hW3]; simp
  have hB3 : Below w.heap.size w W3 := by rw [← hW3]; exact (((Below.refl _ w).alloc (Nat.le_refl _) _).alloc (by simp) _).alloc (by simp; omega) _
  have hg3 : Boxed W3 w.heap.size 147 (.slice A T.length ca) := by rw [← hW3]; exact ((Boxed.new _ _ _).alloc _).alloc _
  have hr3 : Str W3 (w.heap.size + 1) 167 [.slice none 0 0, .slice none 0 0, .slice none 0 0, .slice none 0 0] := by
    rw [← hW3]
    refine Str.below (w := (w.alloc (.cells #[.slice A T.length ca] 147)).alloc (.cells #[.slice none 0 0, .slice none 0 0, .slice none 0 0, .slice none 0 0] 167)) ?_ ((Below.refl _ _).alloc (Nat.le_refl _) _)
    have := World.alloc_heap_new (w.alloc (.cells #[.slice A T.length ca] 147)) (.cells #[.slice none 0 0, .slice none 0 0, .slice none 0 0, .slice none 0 0] 167)
    rw [World.size_alloc] at this
    exact this
  have hx3 : W3.cell? ⟨w.heap.size + 1 + 1, 0, none⟩ = some (.int .i64 (-1)) := by rw [← hW3]; exact cell_made (by simp)
  clear hW3
  refine (repeat_any W3 (w.heap.size + 1 + 1) T.length (-1) hx3 (by omega)).mono ?_
  rintro e w4 ⟨rfl, hn4, hB4⟩
  have hg4 : Boxed w4 w.heap.size 147 (.slice A T.length ca) := (hB4.block _ hg3.lt).trans hg3
  have HG3 := Lib.hid (HG.out.keep hB3)
  have hz4 := hB4.size
  have HR3 := Lib.hid hr3
  clear hx3 hg3 hr3
  go_upto_region 4 with (fail)
  obtain ⟨W5, hW5⟩ : ∃ W5, (w4.alloc (.cells #[.slice none 0 0, .slice none 0 0, .slice (some ⟨w.heap.size + 3, 0, none⟩) T.length T.length, .slice none 0 0] 167)).alloc (.cells #[.func (.func 134) #[] #[.pointer (some ⟨w4.heap.size, 0, none⟩), .pointer (some ⟨w.heap.size, 0, none⟩), .pointer (some ⟨w4.heap.size + 1, 0, none⟩)]] 179) = W5 := ⟨_, rfl⟩
  rw [hW5]
  have hB5 : Below w4.heap.size w4 W5 := by rw [← hW5]; exact ((Below.refl _ _).alloc (Nat.le_refl _) _).alloc (by simp) _
  have hs5 : Str W5 w4.heap.size 167 [.slice none 0 0, .slice none 0 0, .slice (some ⟨w.heap.size + 3, 0, none⟩) T.length T.length, .slice none 0 0] := by
    rw [← hW5]
    refine Str.below (w := w4.alloc (.cells #[.slice none 0 0, .slice none 0 0, .slice (some ⟨w.heap.size + 3, 0, none⟩) T.length T.length, .slice none 0 0] 167)) ?_ ((Below.refl _ _).alloc (Nat.le_refl _) _)
    exact World.alloc_heap_new w4 _
  have hv5 : Boxed W5 (w4.heap.size + 1) 179 (.func (.func 134) #[] #[.pointer (some ⟨w4.heap.size, 0, none⟩), .pointer (some ⟨w.heap.size, 0, none⟩), .pointer (some ⟨w4.heap.size + 1, 0, none⟩)]) := by
    rw [← hW5]
    have := Boxed.new (w4.alloc (.cells #[.slice none 0 0, .slice none 0 0, .slice (some ⟨w.heap.size + 3, 0, none⟩) T.length T.length, .slice none 0 0] 167)) 179 (.func (.func 134) #[] #[.pointer (some ⟨w4.heap.size, 0, none⟩), .pointer (some ⟨w.heap.size, 0, none⟩), .pointer (some ⟨w4.heap.size + 1, 0, none⟩)])
    rw [World.size_alloc] at this
    exact this
  clear hW5
  rw [hz3] at hn4 hB4
  have hn5 : OwnInts (w.heap.size + 3) W5 (.slice (some ⟨w.heap.size + 3, 0, none⟩) T.length T.length) (List.replicate T.length (-1)) := own_below hn4 hB5
  have hC5 : Core W3 (.slice A T.length ca) w4.heap.size w.heap.size (w4.heap.size + 1) W5 [.slice none 0 0, .slice none 0 0, .slice (some ⟨w.heap.size + 3, 0, none⟩) T.length T.length, .slice none 0 0] [li (St.none T.length).came, li (St.none T.length).left, (St.none T.length).number, (St.none T.length).parent] := by
    refine ⟨by rw [hz3]; exact hB4.trans (hB5.mono (by omega)), by omega, hs5, ?_, (hB5.block _ hg4.lt).trans hg4, hv5⟩
    rw [hz3]
    refine ⟨rfl, fun i hi => ?_, fun i j u v hij hu hv => ?_⟩
    · match i, hi with
      | 0, _ => exact ⟨_, rfl, World.ownsRow_nil _ _ _ _⟩
      | 1, _ => exact ⟨_, rfl, World.ownsRow_nil _ _ _ _⟩
      | 2, _ => exact ⟨_, rfl, hn5⟩
      | 3, _ => exact ⟨_, rfl, World.ownsRow_nil _ _ _ _⟩
    · match i, hu with
      | 0, hu => injection hu with hu; subst hu; exact Or.inl rfl
      | 1, hu => injection hu with hu; subst hu; exact Or.inl rfl
      | 3, hu => injection hu with hu; subst hu; exact Or.inl rfl
      | 2, hu =>
        injection hu with hu; subst hu
        match j, hv with
        | 0, hv => injection hv with hv; subst hv; exact Or.inr (by simp [Value.ownBlock])
        | 1, hv => injection hv with hv; subst hv; exact Or.inr (by simp [Value.ownBlock])
        | 3, hv => injection hv with hv; subst hv; exact Or.inr (by simp [Value.ownBlock])
        | 2, hv => exact absurd rfl hij
  have HC5 := Lib.hid hC5
  have kg := hC5.gbox.cell
  have kv := hC5.vbox.cell
  clear hs5 hv5 hn5 hn4 hg4 hC5
  have hno : Inv T.length (St.none T.length) := ⟨by simp [St.none], by simp [St.none, unv], rfl, Nat.le_refl _⟩
  have hun : unv (St.none T.length) ≤ T.length := by simp [St.none, unv]
  by_cases h0 : 0 < T.length
  · have HWN := Lib.hid (show walkN T = visit T T.length 0 (-1) (St.none T.length) from if_pos h0)
    have hn0 : (St.none T.length).number.getD 0 0 = -1 := by simp [St.none, List.getD_eq_getElem?_getD, h0]
    have HN0 := Lib.hid hn0
    clear hn0
    go_wp2_with fail
    refine (visit_any W3 A T.length ca T _ _ _ HG3.out HO.out HS.out T.length 0 (-1) (St.none T.length) W5 ⟨_, rfl, HC5.out⟩ hno h0 HN0.out hun (by omega) (by omega)).mono ?_
    rintro e w7 ⟨rfl, vs, hl4, hC7⟩
    obtain ⟨vc, vl, vn, vp, rfl⟩ := four hl4
    obtain ⟨Ac, cc, rfl⟩ := (hC7.rows.at (i := 0) rfl rfl).form
    obtain ⟨Al, cl, rfl⟩ := (hC7.rows.at (i := 1) rfl rfl).form
    obtain ⟨An, cn, rfl⟩ := (hC7.rows.at (i := 2) rfl rfl).form
    obtain ⟨Ap, cp, rfl⟩ := (hC7.rows.at (i := 3) rfl rfl).form
    generalize hs7 : visit T T.length 0 (-1) (St.none T.length) = s7 at *
    have HS7 := Lib.hid hs7
    clear hs7
    generalize hqc : (li s7.came).length = nc at *
    generalize hql : (li s7.left).length = nl at *
    generalize hqn : s7.number.length = nn at *
    generalize hqp : s7.parent.length = np at *
    clear hqc hql hqn hqp
    have k0 : w7.cell? ⟨w4.heap.size, 0, none⟩ = some (.slice Ac nc cc) := hC7.str.cell 0
    have k1 : w7.cell? ⟨w4.heap.size, 1, none⟩ = some (.slice Al nl cl) := hC7.str.cell 1
    have k2 : w7.cell? ⟨w4.heap.size, 2, none⟩ = some (.slice An nn cn) := hC7.str.cell 2
    have k3 : w7.cell? ⟨w4.heap.size, 3, none⟩ = some (.slice Ap np cp) := hC7.str.cell 3
    have hr7 := HR3.out.below hC7.below
    have HR7 := Lib.hid hr7
    have HC7 := Lib.hid hC7
    have r0 : w7.cell? ⟨w.heap.size + 1, 0, none⟩ = some (.slice none 0 0) := hr7.cell 0
    have r1 : w7.cell? ⟨w.heap.size + 1, 1, none⟩ = some (.slice none 0 0) := hr7.cell 1
    have r2 : w7.cell? ⟨w.heap.size + 1, 2, none⟩ = some (.slice none 0 0) := hr7.cell 2
    have r3 : w7.cell? ⟨w.heap.size + 1, 3, none⟩ = some (.slice none 0 0) := hr7.cell 3
    have f0 := hr7.frozen 0
    have f1 := hr7.frozen 1
    have f2 := hr7.frozen 2
    have f3 := hr7.frozen 3
    clear hr7 hC7 kg kv
    go_wp2
    have q0 := HR7.out.set 0 (.slice Ac nc cc)
    have q1 := q0.set 1 (.slice Al nl cl)
    have q2 := q1.set 2 (.slice An nn cn)
    have e0 := HC7.out.rows.setStr HR7.out (by decide) 0 (.slice Ac nc cc)
    have e1 := e0.setStr q0 (by decide) 1 (.slice Al nl cl)
    have e2 := e1.setStr q1 (by decide) 2 (.slice An nn cn)
    have e3 := e2.setStr q2 (by decide) 3 (.slice Ap np cp)
    refine bodyPost_ret (v := .agg #[.slice Ac nc cc, .slice Al nl cl, .slice An nn cn, .slice Ap np cp]) (by simp [results, Tryz.f118, go_sem, r0, r1, r2, r3]) rfl ⟨_, rfl, ⟨_, _, _, _, rfl, ?_⟩, ?_⟩
    · rw [HWN.out]; exact e3.base (by omega)
    · exact ((((hB3.trans (HC7.out.below.mono (by omega))).setCell (p := ⟨w.heap.size + 1, 0, none⟩) (Nat.le_succ _) _).setCell (p := ⟨w.heap.size + 1, 1, none⟩) (Nat.le_succ _) _).setCell (p := ⟨w.heap.size + 1, 2, none⟩) (Nat.le_succ _) _).setCell (p := ⟨w.heap.size + 1, 3, none⟩) (Nat.le_succ _) _
  · have hz0 : T.length = 0 := by omega
    have HWN := Lib.hid (show walkN T = St.none T.length from by unfold walkN; rw [if_neg h0, hz0])
    have d0 : decide (0 < T.length) = false := decide_eq_false h0
    have d1 : decide ((0 : Int) < (T.length : Int)) = false := decide_eq_false (by omega)
    have hr5 := (HR3.out.below (hB4.mono (by omega))).below (hB5.mono (Nat.le_refl _))
    have HR5 := Lib.hid hr5
    have k0 : W5.cell? ⟨w4.heap.size, 0, none⟩ = some (.slice none 0 0) := HC5.out.str.cell 0
    have k1 : W5.cell? ⟨w4.heap.size, 1, none⟩ = some (.slice none 0 0) := HC5.out.str.cell 1
    have k2 : W5.cell? ⟨w4.heap.size, 2, none⟩ = some (.slice (some ⟨w.heap.size + 3, 0, none⟩) T.length T.length) := HC5.out.str.cell 2
    have k3 : W5.cell? ⟨w4.heap.size, 3, none⟩ = some (.slice none 0 0) := HC5.out.str.cell 3
    have r0 : W5.cell? ⟨w.heap.size + 1, 0, none⟩ = some (.slice none 0 0) := hr5.cell 0
    have r1 : W5.cell? ⟨w.heap.size + 1, 1, none⟩ = some (.slice none 0 0) := hr5.cell 1
    have r2 : W5.cell? ⟨w.heap.size + 1, 2, none⟩ = some (.slice none 0 0) := hr5.cell 2
    have r3 : W5.cell? ⟨w.heap.size + 1, 3, none⟩ = some (.slice none 0 0) := hr5.cell 3
    have f0 := hr5.frozen 0
    have f1 := hr5.frozen 1
    have f2 := hr5.frozen 2
    have f3 := hr5.frozen 3
    clear hr5 kv hz0 h0
    go_wp2
    have q0 := HR5.out.set 0 (.slice none 0 0)
    have q1 := q0.set 1 (.slice none 0 0)
    have q2 := q1.set 2 (.slice (some ⟨w.heap.size + 3, 0, none⟩) T.length T.length)
    have e0 := HC5.out.rows.setStr HR5.out (by decide) 0 (.slice none 0 0)
    have e1 := e0.setStr q0 (by decide) 1 (.slice none 0 0)
    have e2 := e1.setStr q1 (by decide) 2 (.slice (some ⟨w.heap.size + 3, 0, none⟩) T.length T.length)
    have e3 := e2.setStr q2 (by decide) 3 (.slice none 0 0)
    refine bodyPost_ret (v := .agg #[.slice none 0 0, .slice none 0 0, .slice (some ⟨w.heap.size + 3, 0, none⟩) T.length T.length, .slice none 0 0]) (by simp [results, Tryz.f118, go_sem, r0, r1, r2, r3]) rfl ⟨_, rfl, ⟨_, _, _, _, rfl, ?_⟩, ?_⟩
    · rw [HWN.out]; exact e3.base (by omega)
    · exact ((((hB3.trans (HC5.out.below.mono (by omega))).setCell (p := ⟨w.heap.size + 1, 0, none⟩) (Nat.le_succ _) _).setCell (p := ⟨w.heap.size + 1, 1, none⟩) (Nat.le_succ _) _).setCell (p := ⟨w.heap.size + 1, 2, none⟩) (Nat.le_succ _) _).setCell (p := ⟨w.heap.size + 1, 3, none⟩) (Nat.le_succ _) _
end Go.Proofs.YtonheiaohgbbcaaGreat.Gc
