/- What package graph's back answers: by spans. -/
import Derived.Test.YthanbedmiaacdaaFlow
import Derived.Test.YthanbedmiaacdaaDominates
import Derived.StillTailTactics
namespace Go.Proofs.Ythanbedmiaacdaa.Gc
open Go.ChangeShapes Go.WideShapes Go.ChangeAt Go.RowKit Go.Shelf Go.Proofs.Ythanbedmiaacdaa.Mem Go.Proofs.Ythanbedmiaacdaa.Gr Go.Proofs.Ythanbedmiaacdaa.Gn Go.Proofs.Ythanbedmiaacdaa.Br Go.Proofs.Ythanbedmiaacdaa.Rp
set_option linter.unusedVariables false

theorem spansOf_len {T : G} (hT : Ok T) : (spansOf T).length = T.length := by
  unfold spansOf spansN
  rw [(spanTo_len _ _ _).2, idomN_len, (walk_inv hT).number]
theorem getD_at {α : Type} {l : List α} {i : Nat} (h : i < l.length) (d : α) : l.getD i d = l[i] := by rw [List.getD_eq_getElem?_getD, List.getElem?_eq_getElem h]; rfl
theorem backN_of {T : G} {a b : Nat} {p q : Int × Int} (hp : (spansOf T)[a]? = some p) (hq : (spansOf T)[b]? = some q) : backN T a b = (decide (q.1 ≤ p.1) && decide (p.1 < q.2)) := by
  unfold backN backS
  rw [List.getD_eq_getElem?_getD, List.getD_eq_getElem?_getD, hp, hq]; rfl
set_option maxRecDepth 100000 in
set_option maxHeartbeats 2000000 in
theorem back_any (w : World) (x : Value) (T : G) (a b : Nat) (hT : Ok T) (hx : ReadFlow w x T) (ha : a < T.length) (hb : b < T.length) (hl : T.length ≤ 1000) :
    Calls Try.prog 51 #[x, .int .i64 a, .int .i64 b] w (AnswersB (backN T a b) w) := by
  obtain ⟨vc, vl, vn, vp, b1, b3, vs, rfl, h1, h2, h3, h4⟩ := hx.is
  obtain ⟨A, c, rfl, h5, h6, h7⟩ := h4
  have hsl := spansOf_len hT
  have ha' : a < (spansOf T).length := by omega
  have hb' : b < (spansOf T).length := by omega
  obtain ⟨g, rfl, a1, a2⟩ := h7 a ha'
  obtain ⟨g', e, b1', b2'⟩ := h7 b hb'
  injection e with e
  injection e with e
  subst e
  have hv := backN_of (List.getElem?_eq_getElem ha') (List.getElem?_eq_getElem hb')
  generalize (spansOf T)[b] = q at *
  generalize (spansOf T)[a] = p at *
  obtain ⟨p1, p2⟩ := p
  obtain ⟨q1, q2⟩ := q
  have HV := Lib.hid hv
  clear h1 h2 h3 h7 hv hx
  simp only at a1 a2 b1' b2'
  rw [hsl] at h5 ⊢
  clear ha' hb' hsl
  unfold maxLen at h6
  go_enter Try.func51, Try.ntmps51
  go_wp2
  obtain ⟨W1, hW1⟩ : ∃ W1, w.alloc (.cells #[vc, vl, vn, vp, .slice (some ⟨b1, 0, none⟩) T.length T.length, .slice (some ⟨b3, 0, none⟩) T.length T.length, .slice (some ⟨g, 0, none⟩) T.length c] 70) = W1 := ⟨_, rfl⟩
  rw [hW1]
  have hB1 : Below w.heap.size w W1 := by rw [← hW1]; exact (Below.refl _ _).alloc (Nat.le_refl _) _
  have hs1 : Str W1 w.heap.size 70 [vc, vl, vn, vp, .slice (some ⟨b1, 0, none⟩) T.length T.length, .slice (some ⟨b3, 0, none⟩) T.length T.length, .slice (some ⟨g, 0, none⟩) T.length c] := by rw [← hW1]; exact World.alloc_heap_new w _
  clear hW1
  have c6 : W1.cell? ⟨w.heap.size, 6, none⟩ = some (.slice (some ⟨g, 0, none⟩) T.length c) := hs1.cell 6
  have k1 := cell_keep hB1 (Nat.le_refl _) a1
  have k2 := cell_keep hB1 (Nat.le_refl _) a2
  have k3 := cell_keep hB1 (Nat.le_refl _) b1'
  have k4 := cell_keep hB1 (Nat.le_refl _) b2'
  have HB1 := Lib.hid hB1
  have hB1z := hB1.size
  clear hB1 hs1 a1 a2 b1' b2'
  refine region_tree_wp (fun w' => w'.cell? ⟨w.heap.size, 6, none⟩ = some (.slice (some ⟨g, 0, none⟩) T.length c) ∧ (w'.cell? ⟨g, a * 2, none⟩ = some (.int .i64 p1) ∧ w'.cell? ⟨g, a * 2 + 1, none⟩ = some (.int .i64 p2)) ∧ (w'.cell? ⟨g, b * 2, none⟩ = some (.int .i64 q1) ∧ w'.cell? ⟨g, b * 2 + 1, none⟩ = some (.int .i64 q2))) (by kernel_rfl) ?_
  change wpAnyT _ _ _ _ _ _ _ _ W1.drew
  obtain ⟨Wd, hWd⟩ : ∃ Wd, W1.drew = Wd := ⟨_, rfl⟩
  rw [hWd]
  have keep : ∀ W2, Below W1.heap.size W1 W2 → (fun w' => w'.cell? ⟨w.heap.size, 6, none⟩ = some (.slice (some ⟨g, 0, none⟩) T.length c) ∧ (w'.cell? ⟨g, a * 2, none⟩ = some (.int .i64 p1) ∧ w'.cell? ⟨g, a * 2 + 1, none⟩ = some (.int .i64 p2)) ∧ (w'.cell? ⟨g, b * 2, none⟩ = some (.int .i64 q1) ∧ w'.cell? ⟨g, b * 2 + 1, none⟩ = some (.int .i64 q2))) W2 := fun W2 hb => ⟨cell_keep hb (Nat.le_refl _) c6, ⟨cell_keep hb (Nat.le_refl _) k1, cell_keep hb (Nat.le_refl _) k2⟩, cell_keep hb (Nat.le_refl _) k3, cell_keep hb (Nat.le_refl _) k4⟩
  have KEEP := Lib.hid keep
  have hbd : Below W1.heap.size W1 Wd := by rw [← hWd]; exact (Below.refl _ _).drew
  have hzd : W1.heap.size ≤ Wd.heap.size := by rw [← hWd]; exact Nat.le_refl _
  clear hWd
  refine anyT_take (i := 0) _ ?vg0 rfl (by kernel_rfl) (by kernel_rfl) (by kernel_rfl) (by intro c a d v w h; cases d <;> exact h) rfl ?yg0 (KEEP.out _ hbd) ?_
  case yg0 => intro w hS; go_simp; first | done | with_reducible rfl
  simp only [Act.put]
  refine anyT_take (i := 1) _ ?vg1 rfl (by kernel_rfl) (by kernel_rfl) (by kernel_rfl) (by intro c a d v w h; cases d <;> exact h) rfl ?yg1 (KEEP.out _ hbd) ?_
  case yg1 => intro w hS; go_simp; first | done | with_reducible rfl
  simp only [Act.put]
  refine anyT_take (i := 2) _ ?vg2 rfl (by kernel_rfl) (by kernel_rfl) (by kernel_rfl) (by intro c a d v w h; cases d <;> exact h) rfl ?yg2 (KEEP.out _ hbd) ?_
  case yg2 => intro w hS; go_simp; first | done | with_reducible rfl
  simp only [Act.put]
  refine anyT_take (i := 3) _ ?vg3 rfl (by kernel_rfl) (by kernel_rfl) (by kernel_rfl) (by intro c a d v w h; cases d <;> exact h) rfl ?yg3 (KEEP.out _ hbd) ?_
  case yg3 => intro w hS; go_simp; first | done | with_reducible rfl
  simp only [Act.put]
  refine anyT_take (i := 4) _ ?vg4 rfl (by kernel_rfl) (by kernel_rfl) (by kernel_rfl) (by intro c a d v w h; cases d <;> exact h) rfl ?yg4 (KEEP.out _ hbd) ?_
  case yg4 => intro w hS; go_simp; first | done | with_reducible rfl
  simp only [Act.put]
  refine anyT_take (i := 5) _ ?vg5 rfl (by kernel_rfl) (by kernel_rfl) (by kernel_rfl) (by intro c a d v w h; cases d <;> exact h) rfl ?yg5 (KEEP.out _ hbd) ?_
  case yg5 => intro w hS; go_simp; first | done | with_reducible rfl
  simp only [Act.put]
  refine anyT_take (i := 6) _ ?vg6 rfl (by kernel_rfl) (by kernel_rfl) (by kernel_rfl) (by intro c a d v w h; cases d <;> exact h) rfl ?yg6 (KEEP.out _ hbd) ?_
  case yg6 => intro w hS; go_simp; first | done | with_reducible rfl
  simp only [Act.put]
  refine anyT_take (i := 7) _ ?vg7 rfl (by kernel_rfl) (by kernel_rfl) (by kernel_rfl) (by intro c a d v w h; cases d <;> exact h) rfl ?yg7 (KEEP.out _ hbd) ?_
  case yg7 => intro w hS; go_simp; first | done | with_reducible rfl
  simp only [Act.put]
  refine anyT_take (i := 8) _ ?vg8 rfl (by kernel_rfl) (by kernel_rfl) (by kernel_rfl) (by intro c a d v w h; cases d <;> exact h) rfl ?yg8 (KEEP.out _ hbd) ?_
  case yg8 => intro w hS; go_simp; first | done | with_reducible rfl
  simp only [Act.put]
  refine anyT_take (i := 9) _ ?vg9 rfl (by kernel_rfl) (by kernel_rfl) (by kernel_rfl) (by intro c a d v w h; cases d <;> exact h) rfl ?yg9 (KEEP.out _ hbd) ?_
  case yg9 => intro w hS; go_simp; first | done | with_reducible rfl
  simp only [Act.put]
  simp only [List.setIfInBounds_toArray, List.set_cons_zero, List.set_cons_succ]
  refine anyT_two (i := 10) (j := 11) _ _ rfl rfl (by kernel_rfl) ?_ ?_
  · go_wp2
    obtain ⟨W2, hW2⟩ : ∃ W2, Wd.alloc (.cells #[.int .i64 0, .int .i64 0] 88) = W2 := ⟨_, rfl⟩
    rw [hW2]
    have hb2 : Below W1.heap.size W1 W2 := by rw [← hW2]; exact hbd.alloc (by omega) _
    have hs2 : Str W2 Wd.heap.size 88 [.int .i64 0, .int .i64 0] := by rw [← hW2]; exact World.alloc_heap_new Wd _
    have hz2 : Wd.heap.size < W2.heap.size := by rw [← hW2]; simp
    clear hW2
    refine behind_normal (KEEP.out _ hb2) ?_
    refine anyT_one (i := 11) _ rfl (by kernel_rfl) ?_
    go_wp2
    obtain ⟨W3, hW3⟩ : ∃ W3, W2.alloc (.cells #[.int .i64 0, .int .i64 0] 88) = W3 := ⟨_, rfl⟩
    rw [hW3]
    have hb3 : Below W1.heap.size W1 W3 := by rw [← hW3]; exact hb2.alloc (by omega) _
    have hs3 : Str W3 Wd.heap.size 88 [.int .i64 0, .int .i64 0] := by rw [← hW3]; exact hs2.below ((Below.refl _ _).alloc (Nat.le_refl _) _)
    have hs4 : Str W3 W2.heap.size 88 [.int .i64 0, .int .i64 0] := by rw [← hW3]; exact World.alloc_heap_new W2 _
    clear hW3 hs2
    refine behind_normal (KEEP.out _ hb3) ?_
    refine anyT_one (i := 12) _ rfl (by kernel_rfl) ?_
    have s0 := hs3.cell 0
    have s1 := hs3.cell 1
    have sf0 := hs3.frozen 0
    have sf1 := hs3.frozen 1
    go_wp2
    have hne : W2.heap.size ≠ Wd.heap.size := by omega
    have hne' : Wd.heap.size ≠ W2.heap.size := by omega
    have bx : W1.heap.size ≤ Wd.heap.size := by omega
    have bY : W1.heap.size ≤ W2.heap.size := by omega
    have hb4 := (hb3.setCell (p := ⟨Wd.heap.size, 0, none⟩) bx (.int .i64 p1)).setCell (p := ⟨Wd.heap.size, 1, none⟩) bx (.int .i64 p2)
    have hx4 := (hs3.set 0 (.int .i64 p1)).set 1 (.int .i64 p2)
    have hy4 := Str.kept (Str.kept hs4 (setCell_grownBy W3 ⟨Wd.heap.size, 0, none⟩ (.int .i64 p1)) (fun e => hne (Option.some.inj e))) (setCell_grownBy _ ⟨Wd.heap.size, 1, none⟩ (.int .i64 p2)) (fun e => hne (Option.some.inj e))
    generalize (W3.setCell ⟨Wd.heap.size, 0, none⟩ (.int .i64 p1)).setCell ⟨Wd.heap.size, 1, none⟩ (.int .i64 p2) = W4 at *
    refine behind_normal (KEEP.out _ hb4) ?_
    refine anyT_one (i := 13) _ rfl (by kernel_rfl) ?_
    have t0 := hy4.cell 0
    have t1 := hy4.cell 1
    have tf0 := hy4.frozen 0
    have tf1 := hy4.frozen 1
    go_wp2
    have hb5 := (hb4.setCell (p := ⟨W2.heap.size, 0, none⟩) bY (.int .i64 q1)).setCell (p := ⟨W2.heap.size, 1, none⟩) bY (.int .i64 q2)
    have hy5 := (hy4.set 0 (.int .i64 q1)).set 1 (.int .i64 q2)
    have hx5 := Str.kept (Str.kept hx4 (setCell_grownBy W4 ⟨W2.heap.size, 0, none⟩ (.int .i64 q1)) (fun e => hne' (Option.some.inj e))) (setCell_grownBy _ ⟨W2.heap.size, 1, none⟩ (.int .i64 q2)) (fun e => hne' (Option.some.inj e))
    generalize (W4.setCell ⟨W2.heap.size, 0, none⟩ (.int .i64 q1)).setCell ⟨W2.heap.size, 1, none⟩ (.int .i64 q2) = W5 at *
    refine behind_last (by kernel_rfl) (anyT_done (by kernel_rfl) ?_ _)
    have m0 := hx5.cell 0
    have m1 := hx5.cell 1
    have n0 := hy5.cell 0
    have n1 := hy5.cell 1
    have HB5 := Lib.hid ((HB1.out.trans (hb5.mono hB1z)))
    clear hx4 hy4 hx5 hy5 hb4 hb5 hb3 hb2 hs3 hs4 s0 s1 sf0 sf1 t0 t1 tf0 tf1 k1 k2 k3 k4 c6 hbd
    by_cases y1 : q1 ≤ p1
    · by_cases y2 : p1 < q2
      · go_wp2
        go_ret
        exact ⟨ret_bool (by rw [HV.out]; first | (simp [y1, y2]; done) | (simp; omega)), HB5.out⟩
      · go_wp2
        go_ret
        exact ⟨ret_bool (by rw [HV.out]; first | (simp [y1, y2]; done) | (simp; omega)), HB5.out⟩
    · go_wp2
      go_ret
      exact ⟨ret_bool (by rw [HV.out]; simp; omega), HB5.out⟩
  · go_wp2
    obtain ⟨W2, hW2⟩ : ∃ W2, Wd.alloc (.cells #[.int .i64 0, .int .i64 0] 88) = W2 := ⟨_, rfl⟩
    rw [hW2]
    have hb2 : Below W1.heap.size W1 W2 := by rw [← hW2]; exact hbd.alloc (by omega) _
    have hs2 : Str W2 Wd.heap.size 88 [.int .i64 0, .int .i64 0] := by rw [← hW2]; exact World.alloc_heap_new Wd _
    have hz2 : Wd.heap.size < W2.heap.size := by rw [← hW2]; simp
    clear hW2
    refine behind_normal (KEEP.out _ hb2) ?_
    refine anyT_one (i := 10) _ rfl (by kernel_rfl) ?_
    go_wp2
    obtain ⟨W3, hW3⟩ : ∃ W3, W2.alloc (.cells #[.int .i64 0, .int .i64 0] 88) = W3 := ⟨_, rfl⟩
    rw [hW3]
    have hb3 : Below W1.heap.size W1 W3 := by rw [← hW3]; exact hb2.alloc (by omega) _
    have hs3 : Str W3 Wd.heap.size 88 [.int .i64 0, .int .i64 0] := by rw [← hW3]; exact hs2.below ((Below.refl _ _).alloc (Nat.le_refl _) _)
    have hs4 : Str W3 W2.heap.size 88 [.int .i64 0, .int .i64 0] := by rw [← hW3]; exact World.alloc_heap_new W2 _
    clear hW3 hs2
    refine behind_normal (KEEP.out _ hb3) ?_
    refine anyT_one (i := 12) _ rfl (by kernel_rfl) ?_
    have s0 := hs4.cell 0
    have s1 := hs4.cell 1
    have sf0 := hs4.frozen 0
    have sf1 := hs4.frozen 1
    go_wp2
    have hne : Wd.heap.size ≠ W2.heap.size := by omega
    have hne' : W2.heap.size ≠ Wd.heap.size := by omega
    have bx : W1.heap.size ≤ W2.heap.size := by omega
    have bY : W1.heap.size ≤ Wd.heap.size := by omega
    have hb4 := (hb3.setCell (p := ⟨W2.heap.size, 0, none⟩) bx (.int .i64 p1)).setCell (p := ⟨W2.heap.size, 1, none⟩) bx (.int .i64 p2)
    have hx4 := (hs4.set 0 (.int .i64 p1)).set 1 (.int .i64 p2)
    have hy4 := Str.kept (Str.kept hs3 (setCell_grownBy W3 ⟨W2.heap.size, 0, none⟩ (.int .i64 p1)) (fun e => hne (Option.some.inj e))) (setCell_grownBy _ ⟨W2.heap.size, 1, none⟩ (.int .i64 p2)) (fun e => hne (Option.some.inj e))
    generalize (W3.setCell ⟨W2.heap.size, 0, none⟩ (.int .i64 p1)).setCell ⟨W2.heap.size, 1, none⟩ (.int .i64 p2) = W4 at *
    refine behind_normal (KEEP.out _ hb4) ?_
    refine anyT_one (i := 13) _ rfl (by kernel_rfl) ?_
    have t0 := hy4.cell 0
    have t1 := hy4.cell 1
    have tf0 := hy4.frozen 0
    have tf1 := hy4.frozen 1
    go_wp2
    have hb5 := (hb4.setCell (p := ⟨Wd.heap.size, 0, none⟩) bY (.int .i64 q1)).setCell (p := ⟨Wd.heap.size, 1, none⟩) bY (.int .i64 q2)
    have hy5 := (hy4.set 0 (.int .i64 q1)).set 1 (.int .i64 q2)
    have hx5 := Str.kept (Str.kept hx4 (setCell_grownBy W4 ⟨Wd.heap.size, 0, none⟩ (.int .i64 q1)) (fun e => hne' (Option.some.inj e))) (setCell_grownBy _ ⟨Wd.heap.size, 1, none⟩ (.int .i64 q2)) (fun e => hne' (Option.some.inj e))
    generalize (W4.setCell ⟨Wd.heap.size, 0, none⟩ (.int .i64 q1)).setCell ⟨Wd.heap.size, 1, none⟩ (.int .i64 q2) = W5 at *
    refine behind_last (by kernel_rfl) (anyT_done (by kernel_rfl) ?_ _)
    have m0 := hx5.cell 0
    have m1 := hx5.cell 1
    have n0 := hy5.cell 0
    have n1 := hy5.cell 1
    have HB5 := Lib.hid ((HB1.out.trans (hb5.mono hB1z)))
    clear hx4 hy4 hx5 hy5 hb4 hb5 hb3 hb2 hs3 hs4 s0 s1 sf0 sf1 t0 t1 tf0 tf1 k1 k2 k3 k4 c6 hbd
    by_cases y1 : q1 ≤ p1
    · by_cases y2 : p1 < q2
      · go_wp2
        go_ret
        exact ⟨ret_bool (by rw [HV.out]; first | (simp [y1, y2]; done) | (simp; omega)), HB5.out⟩
      · go_wp2
        go_ret
        exact ⟨ret_bool (by rw [HV.out]; first | (simp [y1, y2]; done) | (simp; omega)), HB5.out⟩
    · go_wp2
      go_ret
      exact ⟨ret_bool (by rw [HV.out]; simp; omega), HB5.out⟩
end Go.Proofs.Ythanbedmiaacdaa.Gc
