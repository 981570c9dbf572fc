/- Stage 3: known, note, phi, ins, term. -/
import Derived.Test.YtdfehpcbcgbidaaKA
import Derived.Test.YtdfehpcbcgbidaaMem
import Derived.RangeFuncRecord
import Derived.Deep.Cut
import Derived.Deep.QuietTactic
import Derived.BigQuiet
import Derived.Test.YtdfehpcbcgbidaaBridge
import Derived.Test.YtdfehpcbcgbidaaStruct
import Derived.Test.YtdfehpcbcgbidaaHeld
/- Stage 3: whether a value is known at a spot, where it is a parameter, not made, or made in the same block: check's known. -/
namespace Go.Proofs.Ytdfehpcbcgbidaa.Kc
open Go.ChangeShapes Go.WideShapes Go.ChangeAt Go.RowKit Go.Proofs.Ytdfehpcbcgbidaa.Mem Go.Proofs.Ytdfehpcbcgbidaa.Br
set_option linter.unusedVariables false
theorem ret_boolK {a b : Bool} (h : a = b) : Ending.returned (.bool a) = .returned (.bool b) := by rw [h]
set_option maxRecDepth 100000 in
set_option maxHeartbeats 4000000 in
theorem known_any (w : World) (cb mb sb cc n c : Nat) (params v p : Int) (a : Nat) (f : Spots) (sp : Nat → Int × Int)
    (k0 : w.cell? ⟨cb, 0, none⟩ = some (.int .i64 params)) (k2 : w.cell? ⟨cb, 2, none⟩ = some (.map (some mb))) (k4 : w.cell? ⟨cb, 4, none⟩ = some (.slice (some ⟨sb, 0, none⟩) n c)) (hs : SpotAt w mb cc f)
    (hsp : ∀ b, b < n → w.cell? ⟨sb, b * 2, none⟩ = some (.int .i64 (sp b).1) ∧ w.cell? ⟨sb, b * 2 + 1, none⟩ = some (.int .i64 (sp b).2)) (hv : -9223372036854775808 ≤ v ∧ v ≤ 9223372036854775807) (ha : a < n) (hn : n ≤ 100000)
    (hf : ∀ x s, f x = some s → ∃ b : Nat, s.1 = (b : Int) ∧ b < n):
    Calls Try.prog 58 #[.pointer (some ⟨cb, 0, none⟩), .int .i64 v, .agg #[.int .i64 a, .int .i64 p]] w (Says (knownB params f sp v a p) w) := by
  have hb1 : Below w.heap.size w (w.alloc (.cells #[.int .i64 (a : Int), .int .i64 p] 56)) := (Below.refl _ _).alloc (Nat.le_refl _) _
  have k0 := cell_keep hb1 (Nat.le_refl _) k0
  have k2 := cell_keep hb1 (Nat.le_refl _) k2
  have k4 := cell_keep hb1 (Nat.le_refl _) k4
  have HS1 := Lib.hid (hs.below hb1)
  have HSP := Lib.hid (show ∀ b, b < n → _ ∧ _ from fun b hb => And.intro (cell_keep hb1 (Nat.le_refl _) (hsp b hb).1) (cell_keep hb1 (Nat.le_refl _) (hsp b hb).2))
  have HB1 := Lib.hid hb1
  have HF := Lib.hid hf
  have hh := World.alloc_heap_new w (.cells #[.int .i64 (a : Int), .int .i64 p] 56)
  have q0 : (w.alloc (.cells #[.int .i64 (a : Int), .int .i64 p] 56)).cell? ⟨w.heap.size, 0, none⟩ = some (.int .i64 (a : Int)) := by unfold World.cell?; rw [hh]; rfl
  have q1 : (w.alloc (.cells #[.int .i64 (a : Int), .int .i64 p] 56)).cell? ⟨w.heap.size, 1, none⟩ = some (.int .i64 p) := by unfold World.cell?; rw [hh]; rfl
  clear hs hsp hb1 hf hh
  go_enter Try.func58, Try.ntmps58
  go_upto_region 1 with (fail)
  generalize w.alloc (.cells #[.int .i64 (a : Int), .int .i64 p] 56) = W at *
  by_cases hin : 0 ≤ v ∧ v < params
  · obtain ⟨h1, h2⟩ := hin
    have HM := Lib.hid (show knownB params f sp v a p = true from if_pos ⟨h1, h2⟩)
    go_wp2
    go_ret
    exact ⟨by rw [HM.out]; rfl, HB1.out⟩
  · have hlk := HS1.out.look hv
    have HN := Lib.hid hin
    cases hfv : f v with
    | none =>
      rw [hfv] at hlk
      have HM := Lib.hid (show knownB params f sp v a p = false by unfold knownB; rw [if_neg hin, hfv])
      have HB2 := Lib.hid (HB1.out.alloc HB1.out.size (.cells #[.int .i64 0, .int .i64 0] 56))
      by_cases h1 : 0 ≤ v
      · have h2 : ¬ v < params := fun k => hin ⟨h1, k⟩
        clear hin hfv
        go_wp2
        go_ret
        exact ⟨by rw [HM.out]; rfl, HB2.out⟩
      · clear hin hfv
        go_wp2
        go_ret
        exact ⟨by rw [HM.out]; rfl, HB2.out⟩
    | some s =>
      rw [hfv] at hlk
      obtain ⟨b, hsb, hbn⟩ := HF.out v s hfv
      obtain ⟨s1, s2⟩ := s
      simp only at hsb
      subst hsb
      have HB2 := Lib.hid (HB1.out.alloc HB1.out.size (.cells #[.int .i64 (b : Int), .int .i64 s2] 56))
      have hbV : Below W.heap.size W (W.alloc (.cells #[.int .i64 (b : Int), .int .i64 s2] 56)) := (Below.refl _ _).alloc (Nat.le_refl _) _
      have r0 := cell_keep hbV (Nat.le_refl _) q0
      have r1 := cell_keep hbV (Nat.le_refl _) q1
      have r4 := cell_keep hbV (Nat.le_refl _) k4
      have HSV := Lib.hid (show ∀ b, b < n → _ ∧ _ from fun b hb => And.intro (cell_keep hbV (Nat.le_refl _) (HSP.out b hb).1) (cell_keep hbV (Nat.le_refl _) (HSP.out b hb).2))
      clear hbV
      have hg : (0 ≤ v ∧ ¬ v < params) ∨ ¬ 0 ≤ v := by
        by_cases h1 : 0 ≤ v
        · exact Or.inl ⟨h1, fun k => hin ⟨h1, k⟩⟩
        · exact Or.inr h1
      by_cases hba : b = a
      · have HM := Lib.hid (show knownB params f sp v a p = decide (s2 < p) by
          unfold knownB; rw [if_neg hin, hfv]; simp [hba])
        have hbb : ((b : Int) == (a : Int)) = true := beq_iff_eq.2 (by omega)
        clear hin hfv hba HN
        rcases hg with ⟨h1, h2⟩ | h1
        all_goals
          go_wp2
          go_ret
          exact ⟨by rw [HM.out]; rfl, HB2.out⟩
      · have HM := Lib.hid (show knownB params f sp v a p = holds (sp b) (sp a) by
          unfold knownB; rw [if_neg hin, hfv]; show (if (b : Int) = (a : Int) then _ else _) = _; rw [if_neg (by omega)]; rfl)
        have hbb : ((b : Int) == (a : Int)) = false := beq_eq_false_iff_ne.2 (by omega)
        obtain ⟨k1, k2'⟩ := HSV.out b hbn
        obtain ⟨k3, k4'⟩ := HSV.out a ha
        have HV := Lib.hid (show holds (sp b) (sp a) = (decide ((sp b).1 ≤ (sp a).1) && decide ((sp a).1 < (sp b).2)) from rfl)
        generalize sp b = fo at *
        generalize sp a = gi at *
        obtain ⟨f1, f2⟩ := fo
        obtain ⟨g1, g2⟩ := gi
        simp only at k1 k2' k3 k4' HV
        have k2 := k2'
        have k4 := k4'
        have u0 : (W.alloc (.cells #[.int .i64 (b : Int), .int .i64 s2] 56)).cell? ⟨W.heap.size, 0, none⟩ = some (.int .i64 (b : Int)) := Str.cell (vs := [.int .i64 (b : Int), .int .i64 s2]) (World.alloc_heap_new W _) 0
        clear hin hfv hba HN k2' k4'
        have hgd : (0 ≤ v ∧ ¬ v < params) ∨ ¬ 0 ≤ v := hg
        rcases hg with ⟨h1, h2⟩ | h1
        all_goals
          go_wp2
          obtain ⟨W1, hW1⟩ : ∃ W1, W.alloc (.cells #[.int .i64 (b : Int), .int .i64 s2] 56) = W1 := ⟨_, rfl⟩
          rw [hW1] at r0 r4 k1 k2 k3 k4 u0 HB2
          rw [hW1]
          have hB1z := HB2.out.size
          have hzW1 : W1.heap.size = W.heap.size + 1 := by rw [← hW1]; simp
          have hWw : w.heap.size < W.heap.size := lt_of_cell q0
          clear hW1 hlk
          refine region_tree_wp (fun w' => w'.cell? ⟨cb, 4, none⟩ = some (.slice (some ⟨sb, 0, none⟩) n c) ∧ w'.cell? ⟨W.heap.size, 0, none⟩ = some (.int .i64 (b : Int)) ∧ w'.cell? ⟨w.heap.size, 0, none⟩ = some (.int .i64 (a : Int)) ∧ (w'.cell? ⟨sb, b * 2, none⟩ = some (.int .i64 f1) ∧ w'.cell? ⟨sb, b * 2 + 1, none⟩ = some (.int .i64 f2)) ∧ (w'.cell? ⟨sb, a * 2, none⟩ = some (.int .i64 g1) ∧ w'.cell? ⟨sb, a * 2 + 1, none⟩ = some (.int .i64 g2))) (by kernel_rfl) ?_
          change wpAnyT _ _ _ _ _ _ _ _ W1.drew
          obtain ⟨Wd, hWd⟩ : ∃ Wd, W1.drew = Wd := ⟨_, rfl⟩
          rw [hWd]
          have keep : ∀ W2, Below W1.heap.size W1 W2 → (fun w' => w'.cell? ⟨cb, 4, none⟩ = some (.slice (some ⟨sb, 0, none⟩) n c) ∧ w'.cell? ⟨W.heap.size, 0, none⟩ = some (.int .i64 (b : Int)) ∧ w'.cell? ⟨w.heap.size, 0, none⟩ = some (.int .i64 (a : Int)) ∧ (w'.cell? ⟨sb, b * 2, none⟩ = some (.int .i64 f1) ∧ w'.cell? ⟨sb, b * 2 + 1, none⟩ = some (.int .i64 f2)) ∧ (w'.cell? ⟨sb, a * 2, none⟩ = some (.int .i64 g1) ∧ w'.cell? ⟨sb, a * 2 + 1, none⟩ = some (.int .i64 g2))) W2 := fun W2 hb => ⟨cell_keep hb (Nat.le_refl _) r4, cell_keep hb (Nat.le_refl _) u0, cell_keep hb (Nat.le_refl _) r0, ⟨cell_keep hb (Nat.le_refl _) k1, cell_keep hb (Nat.le_refl _) k2⟩, cell_keep hb (Nat.le_refl _) k3, cell_keep hb (Nat.le_refl _) k4⟩
          have KEEP := Lib.hid keep
          have hbd : Below W1.heap.size W1 Wd := by rw [← hWd]; exact (Below.refl _ _).drew
          have hzd : W1.heap.size ≤ Wd.heap.size := by rw [← hWd]; exact Nat.le_refl _
          clear hWd
          refine anyT_take (i := 0) _ ?vg0 rfl (by kernel_rfl) (by kernel_rfl) (by kernel_rfl) (by intro c a d v w h; cases d <;> exact h) rfl ?yg0 (KEEP.out _ hbd) ?_
          case yg0 => intro w hS; go_simp; first | done | with_reducible rfl
          simp only [Act.put]
          refine anyT_take (i := 1) _ ?vg1 rfl (by kernel_rfl) (by kernel_rfl) (by kernel_rfl) (by intro c a d v w h; cases d <;> exact h) rfl ?yg1 (KEEP.out _ hbd) ?_
          case yg1 => intro w hS; go_simp; first | done | with_reducible rfl
          simp only [Act.put]
          refine anyT_take (i := 2) _ ?vg2 rfl (by kernel_rfl) (by kernel_rfl) (by kernel_rfl) (by intro c a d v w h; cases d <;> exact h) rfl ?yg2 (KEEP.out _ hbd) ?_
          case yg2 => intro w hS; go_simp; first | done | with_reducible rfl
          simp only [Act.put]
          refine anyT_take (i := 3) _ ?vg3 rfl (by kernel_rfl) (by kernel_rfl) (by kernel_rfl) (by intro c a d v w h; cases d <;> exact h) rfl ?yg3 (KEEP.out _ hbd) ?_
          case yg3 => intro w hS; go_simp; first | done | with_reducible rfl
          simp only [Act.put]
          refine anyT_take (i := 4) _ ?vg4 rfl (by kernel_rfl) (by kernel_rfl) (by kernel_rfl) (by intro c a d v w h; cases d <;> exact h) rfl ?yg4 (KEEP.out _ hbd) ?_
          case yg4 => intro w hS; go_simp; first | done | with_reducible rfl
          simp only [Act.put]
          refine anyT_take (i := 5) _ ?vg5 rfl (by kernel_rfl) (by kernel_rfl) (by kernel_rfl) (by intro c a d v w h; cases d <;> exact h) rfl ?yg5 (KEEP.out _ hbd) ?_
          case yg5 => intro w hS; go_simp; first | done | with_reducible rfl
          simp only [Act.put]
          refine anyT_take (i := 6) _ ?vg6 rfl (by kernel_rfl) (by kernel_rfl) (by kernel_rfl) (by intro c a d v w h; cases d <;> exact h) rfl ?yg6 (KEEP.out _ hbd) ?_
          case yg6 => intro w hS; go_simp; first | done | with_reducible rfl
          simp only [Act.put]
          refine anyT_take (i := 7) _ ?vg7 rfl (by kernel_rfl) (by kernel_rfl) (by kernel_rfl) (by intro c a d v w h; cases d <;> exact h) rfl ?yg7 (KEEP.out _ hbd) ?_
          case yg7 => intro w hS; go_simp; first | done | with_reducible rfl
          simp only [Act.put]
          refine anyT_take (i := 8) _ ?vg8 rfl (by kernel_rfl) (by kernel_rfl) (by kernel_rfl) (by intro c a d v w h; cases d <;> exact h) rfl ?yg8 (KEEP.out _ hbd) ?_
          case yg8 => intro w hS; go_simp; first | done | with_reducible rfl
          simp only [Act.put]
          refine anyT_take (i := 9) _ ?vg9 rfl (by kernel_rfl) (by kernel_rfl) (by kernel_rfl) (by intro c a d v w h; cases d <;> exact h) rfl ?yg9 (KEEP.out _ hbd) ?_
          case yg9 => intro w hS; go_simp; first | done | with_reducible rfl
          simp only [Act.put]
          refine anyT_take (i := 10) _ ?vg10 rfl (by kernel_rfl) (by kernel_rfl) (by kernel_rfl) (by intro c a d v w h; cases d <;> exact h) rfl ?yg10 (KEEP.out _ hbd) ?_
          case yg10 => intro w hS; go_simp; first | done | with_reducible rfl
          simp only [Act.put]
          refine anyT_take (i := 11) _ ?vg11 rfl (by kernel_rfl) (by kernel_rfl) (by kernel_rfl) (by intro c a d v w h; cases d <;> exact h) rfl ?yg11 (KEEP.out _ hbd) ?_
          case yg11 => intro w hS; go_simp; first | done | with_reducible rfl
          simp only [Act.put]
          refine anyT_take (i := 12) _ ?vg12 rfl (by kernel_rfl) (by kernel_rfl) (by kernel_rfl) (by intro c a d v w h; cases d <;> exact h) rfl ?yg12 (KEEP.out _ hbd) ?_
          case yg12 => intro w hS; go_simp; first | done | with_reducible rfl
          simp only [Act.put]
          refine anyT_take (i := 13) _ ?vg13 rfl (by kernel_rfl) (by kernel_rfl) (by kernel_rfl) (by intro c a d v w h; cases d <;> exact h) rfl ?yg13 (KEEP.out _ hbd) ?_
          case yg13 => intro w hS; go_simp; first | done | with_reducible rfl
          simp only [Act.put]
          refine anyT_take (i := 14) _ ?vg14 rfl (by kernel_rfl) (by kernel_rfl) (by kernel_rfl) (by intro c a d v w h; cases d <;> exact h) rfl ?yg14 (KEEP.out _ hbd) ?_
          case yg14 => intro w hS; go_simp; first | done | with_reducible rfl
          simp only [Act.put]
          refine anyT_take (i := 15) _ ?vg15 rfl (by kernel_rfl) (by kernel_rfl) (by kernel_rfl) (by intro c a d v w h; cases d <;> exact h) rfl ?yg15 (KEEP.out _ hbd) ?_
          case yg15 => intro w hS; go_simp; first | done | with_reducible rfl
          simp only [Act.put]
          simp only [List.setIfInBounds_toArray, List.set_cons_zero, List.set_cons_succ]
          refine anyT_two (i := 16) (j := 17) _ _ rfl rfl (by kernel_rfl) ?_ ?_
          · go_wp2
            obtain ⟨W2, hW2⟩ : ∃ W2, Wd.alloc (.cells #[.int .i64 0, .int .i64 0] 121) = W2 := ⟨_, rfl⟩
            rw [hW2]
            have hb2 : Below W1.heap.size W1 W2 := by rw [← hW2]; exact hbd.alloc (by omega) _
            have hs2 : Str W2 Wd.heap.size 121 [.int .i64 0, .int .i64 0] := by rw [← hW2]; exact World.alloc_heap_new Wd _
            have hz2 : Wd.heap.size < W2.heap.size := by rw [← hW2]; simp
            clear hW2
            refine behind_normal (KEEP.out _ hb2) ?_
            refine anyT_one (i := 17) _ rfl (by kernel_rfl) ?_
            go_wp2
            obtain ⟨W3, hW3⟩ : ∃ W3, W2.alloc (.cells #[.int .i64 0, .int .i64 0] 121) = W3 := ⟨_, rfl⟩
            rw [hW3]
            have hb3 : Below W1.heap.size W1 W3 := by rw [← hW3]; exact hb2.alloc (by omega) _
            have hs3 : Str W3 Wd.heap.size 121 [.int .i64 0, .int .i64 0] := by rw [← hW3]; exact hs2.below ((Below.refl _ _).alloc (Nat.le_refl _) _)
            have hs4 : Str W3 W2.heap.size 121 [.int .i64 0, .int .i64 0] := by rw [← hW3]; exact World.alloc_heap_new W2 _
            clear hW3 hs2
            refine behind_normal (KEEP.out _ hb3) ?_
            refine anyT_one (i := 18) _ rfl (by kernel_rfl) ?_
            have s0 := hs3.cell 0
            have s1 := hs3.cell 1
            have sf0 := hs3.frozen 0
            have sf1 := hs3.frozen 1
            go_wp2
            have hne : W2.heap.size ≠ Wd.heap.size := by omega
            have hne' : Wd.heap.size ≠ W2.heap.size := by omega
            have bx : W1.heap.size ≤ Wd.heap.size := by omega
            have bY : W1.heap.size ≤ W2.heap.size := by omega
            have hb4 := (hb3.setCell (p := ⟨Wd.heap.size, 0, none⟩) bx (.int .i64 f1)).setCell (p := ⟨Wd.heap.size, 1, none⟩) bx (.int .i64 f2)
            have hx4 := (hs3.set 0 (.int .i64 f1)).set 1 (.int .i64 f2)
            have hy4 := Str.kept (Str.kept hs4 (setCell_grownBy W3 ⟨Wd.heap.size, 0, none⟩ (.int .i64 f1)) (fun e => hne (Option.some.inj e))) (setCell_grownBy _ ⟨Wd.heap.size, 1, none⟩ (.int .i64 f2)) (fun e => hne (Option.some.inj e))
            generalize (W3.setCell ⟨Wd.heap.size, 0, none⟩ (.int .i64 f1)).setCell ⟨Wd.heap.size, 1, none⟩ (.int .i64 f2) = W4 at *
            refine behind_normal (KEEP.out _ hb4) ?_
            refine anyT_one (i := 19) _ rfl (by kernel_rfl) ?_
            have t0 := hy4.cell 0
            have t1 := hy4.cell 1
            have tf0 := hy4.frozen 0
            have tf1 := hy4.frozen 1
            go_wp2
            have hb5 := (hb4.setCell (p := ⟨W2.heap.size, 0, none⟩) bY (.int .i64 g1)).setCell (p := ⟨W2.heap.size, 1, none⟩) bY (.int .i64 g2)
            have hy5 := (hy4.set 0 (.int .i64 g1)).set 1 (.int .i64 g2)
            have hx5 := Str.kept (Str.kept hx4 (setCell_grownBy W4 ⟨W2.heap.size, 0, none⟩ (.int .i64 g1)) (fun e => hne' (Option.some.inj e))) (setCell_grownBy _ ⟨W2.heap.size, 1, none⟩ (.int .i64 g2)) (fun e => hne' (Option.some.inj e))
            generalize (W4.setCell ⟨W2.heap.size, 0, none⟩ (.int .i64 g1)).setCell ⟨W2.heap.size, 1, none⟩ (.int .i64 g2) = W5 at *
            refine behind_last (by kernel_rfl) (anyT_done (by kernel_rfl) ?_ _)
            have m0 := hx5.cell 0
            have m1 := hx5.cell 1
            have n0 := hy5.cell 0
            have n1 := hy5.cell 1
            have HB5 := Lib.hid ((HB2.out.trans (hb5.mono hB1z)))
            clear hx4 hy4 hx5 hy5 hb4 hb5 hb3 hb2 hs3 hs4 s0 s1 sf0 sf1 t0 t1 tf0 tf1 k1 k2 k3 k4 hbd r0 r4 u0
            by_cases y1 : f1 ≤ g1
            · by_cases y2 : g1 < f2
              · go_wp2
                go_ret
                exact ⟨ret_boolK (by rw [HM.out, HV.out]; first | (simp [y1, y2]; done) | (simp; omega)), HB5.out⟩
              · go_wp2
                go_ret
                exact ⟨ret_boolK (by rw [HM.out, HV.out]; first | (simp [y1, y2]; done) | (simp; omega)), HB5.out⟩
            · go_wp2
              go_ret
              exact ⟨ret_boolK (by rw [HM.out, HV.out]; simp; omega), HB5.out⟩
          · go_wp2
            obtain ⟨W2, hW2⟩ : ∃ W2, Wd.alloc (.cells #[.int .i64 0, .int .i64 0] 121) = W2 := ⟨_, rfl⟩
            rw [hW2]
            have hb2 : Below W1.heap.size W1 W2 := by rw [← hW2]; exact hbd.alloc (by omega) _
            have hs2 : Str W2 Wd.heap.size 121 [.int .i64 0, .int .i64 0] := by rw [← hW2]; exact World.alloc_heap_new Wd _
            have hz2 : Wd.heap.size < W2.heap.size := by rw [← hW2]; simp
            clear hW2
            refine behind_normal (KEEP.out _ hb2) ?_
            refine anyT_one (i := 16) _ rfl (by kernel_rfl) ?_
            go_wp2
            obtain ⟨W3, hW3⟩ : ∃ W3, W2.alloc (.cells #[.int .i64 0, .int .i64 0] 121) = W3 := ⟨_, rfl⟩
            rw [hW3]
            have hb3 : Below W1.heap.size W1 W3 := by rw [← hW3]; exact hb2.alloc (by omega) _
            have hs3 : Str W3 Wd.heap.size 121 [.int .i64 0, .int .i64 0] := by rw [← hW3]; exact hs2.below ((Below.refl _ _).alloc (Nat.le_refl _) _)
            have hs4 : Str W3 W2.heap.size 121 [.int .i64 0, .int .i64 0] := by rw [← hW3]; exact World.alloc_heap_new W2 _
            clear hW3 hs2
            refine behind_normal (KEEP.out _ hb3) ?_
            refine anyT_one (i := 18) _ rfl (by kernel_rfl) ?_
            have s0 := hs4.cell 0
            have s1 := hs4.cell 1
            have sf0 := hs4.frozen 0
            have sf1 := hs4.frozen 1
            go_wp2
            have hne : Wd.heap.size ≠ W2.heap.size := by omega
            have hne' : W2.heap.size ≠ Wd.heap.size := by omega
            have bx : W1.heap.size ≤ W2.heap.size := by omega
            have bY : W1.heap.size ≤ Wd.heap.size := by omega
            have hb4 := (hb3.setCell (p := ⟨W2.heap.size, 0, none⟩) bx (.int .i64 f1)).setCell (p := ⟨W2.heap.size, 1, none⟩) bx (.int .i64 f2)
            have hx4 := (hs4.set 0 (.int .i64 f1)).set 1 (.int .i64 f2)
            have hy4 := Str.kept (Str.kept hs3 (setCell_grownBy W3 ⟨W2.heap.size, 0, none⟩ (.int .i64 f1)) (fun e => hne (Option.some.inj e))) (setCell_grownBy _ ⟨W2.heap.size, 1, none⟩ (.int .i64 f2)) (fun e => hne (Option.some.inj e))
            generalize (W3.setCell ⟨W2.heap.size, 0, none⟩ (.int .i64 f1)).setCell ⟨W2.heap.size, 1, none⟩ (.int .i64 f2) = W4 at *
            refine behind_normal (KEEP.out _ hb4) ?_
            refine anyT_one (i := 19) _ rfl (by kernel_rfl) ?_
            have t0 := hy4.cell 0
            have t1 := hy4.cell 1
            have tf0 := hy4.frozen 0
            have tf1 := hy4.frozen 1
            go_wp2
            have hb5 := (hb4.setCell (p := ⟨Wd.heap.size, 0, none⟩) bY (.int .i64 g1)).setCell (p := ⟨Wd.heap.size, 1, none⟩) bY (.int .i64 g2)
            have hy5 := (hy4.set 0 (.int .i64 g1)).set 1 (.int .i64 g2)
            have hx5 := Str.kept (Str.kept hx4 (setCell_grownBy W4 ⟨Wd.heap.size, 0, none⟩ (.int .i64 g1)) (fun e => hne' (Option.some.inj e))) (setCell_grownBy _ ⟨Wd.heap.size, 1, none⟩ (.int .i64 g2)) (fun e => hne' (Option.some.inj e))
            generalize (W4.setCell ⟨Wd.heap.size, 0, none⟩ (.int .i64 g1)).setCell ⟨Wd.heap.size, 1, none⟩ (.int .i64 g2) = W5 at *
            refine behind_last (by kernel_rfl) (anyT_done (by kernel_rfl) ?_ _)
            have m0 := hx5.cell 0
            have m1 := hx5.cell 1
            have n0 := hy5.cell 0
            have n1 := hy5.cell 1
            have HB5 := Lib.hid ((HB2.out.trans (hb5.mono hB1z)))
            clear hx4 hy4 hx5 hy5 hb4 hb5 hb3 hb2 hs3 hs4 s0 s1 sf0 sf1 t0 t1 tf0 tf1 k1 k2 k3 k4 hbd r0 r4 u0
            by_cases y1 : f1 ≤ g1
            · by_cases y2 : g1 < f2
              · go_wp2
                go_ret
                exact ⟨ret_boolK (by rw [HM.out, HV.out]; first | (simp [y1, y2]; done) | (simp; omega)), HB5.out⟩
              · go_wp2
                go_ret
                exact ⟨ret_boolK (by rw [HM.out, HV.out]; first | (simp [y1, y2]; done) | (simp; omega)), HB5.out⟩
            · go_wp2
              go_ret
              exact ⟨ret_boolK (by rw [HM.out, HV.out]; simp; omega), HB5.out⟩
end Go.Proofs.Ytdfehpcbcgbidaa.Kc
/- Stage 3: values are noted down where they are made: check's note. -/
namespace Go.Proofs.Ytdfehpcbcgbidaa.Kc
open Go.ChangeShapes Go.WideShapes Go.ChangeAt Go.RowKit Go.Maps Go.Proofs.Ytdfehpcbcgbidaa.Mem Go.Proofs.Ytdfehpcbcgbidaa.Br
set_option linter.unusedVariables false
/-- All but block m is as it was. -/
structure But (m : Nat) (w w' : World) : Prop where
  os : w'.os = w.os
  tape : w'.tape = w.tape
  output : w'.output = w.output
  size : w.heap.size ≤ w'.heap.size
  block : ∀ k, k < w.heap.size → k ≠ m → w'.heap[k]? = w.heap[k]?
theorem But.refl (m : Nat) (w : World) : But m w w := ⟨rfl, rfl, rfl, Nat.le_refl _, fun _ _ _ => rfl⟩
theorem But.of_below {m : Nat} {w w' : World} (h : Below w.heap.size w w') : But m w w' := ⟨h.os, h.tape, h.output, h.size, fun k hk _ => h.block k hk⟩
theorem But.trans {m : Nat} {a b c : World} (h : But m a b) (k : But m b c) : But m a c :=
  ⟨k.os.trans h.os, k.tape.trans h.tape, k.output.trans h.output, Nat.le_trans h.size k.size, fun i hi hn => (k.block i (Nat.lt_of_lt_of_le hi h.size) hn).trans (h.block i hi hn)⟩
theorem But.of_grown {m : Nat} {a b : World} (h : a.grownBy b (some m)) : But m a b := ⟨h.os, h.tape, h.output, h.size, fun k hk hn => h.block k hk (fun e => hn (Option.some.inj e))⟩
theorem But.drew {m : Nat} {a b : World} (h : But m a b) : But m a b.drew := ⟨h.os, h.tape, h.output, h.size, h.block⟩
theorem But.below {m B : Nat} {a b : World} (h : But m a b) (hB : B ≤ m) (hs : B ≤ a.heap.size) : Below B a b := ⟨h.os, h.tape, h.output, h.size, fun k hk => h.block k (Nat.lt_of_lt_of_le hk hs) (by omega)⟩
theorem But.cell {m : Nat} {a b : World} (h : But m a b) {p : Addr} {v : Value} (hc : a.cell? p = some v) (hn : p.block ≠ m) : b.cell? p = some v := by
  rw [World.cell?_of_block (h.block _ (lt_of_cell hc) hn)]; exact hc
theorem But.str {m : Nat} {a b : World} (h : But m a b) {x : Nat} {t : TypeId} {vs : List Value} (hc : Str a x t vs) (hn : x ≠ m) : Str b x t vs := (h.block x hc.lt hn).trans hc
/-- How a step ends: given up, or with what it knows then; all but block m is as it was. -/
def Ends {σ : Type} (m : Nat) (R : Except Fault σ) (I : σ → World → Prop) (w : World) (en : Ending) (w' : World) : Prop :=
  match R with
  | .error f => en = .panicked [{ v := denied f.1 f.2.1 f.2.2, recovered := false }] ∧ But m w w'
  | .ok s => en = .returned (.tuple #[]) ∧ But m w w' ∧ I s w'
theorem putE_drop {b p : Int} {vs : List Int} {k : Nat} (hk : k < vs.length) (f : Spots) : putE b p (vs.drop k) f = if (f vs[k]).isSome then .error (12, b, p) else putE b p (vs.drop (k + 1)) (noted f vs[k] (b, p)) := by
  rw [List.drop_eq_getElem_cons hk]; rfl
theorem any_take_succ {vs : List Int} {q : Int → Bool} {k : Nat} (hk : k < vs.length) (h : (vs.take k).any q = false) : (vs.take (k + 1)).any q = q vs[k] := by
  rw [List.take_succ_eq_append_getElem hk, List.any_append, h]; simp
theorem any_of_take {vs : List Int} {q : Int → Bool} {k : Nat} (h : (vs.take k).any q = true) : vs.any q = true := by
  obtain ⟨x, hx, hq⟩ := List.any_eq_true.1 h
  exact List.any_eq_true.2 ⟨x, List.mem_of_mem_take hx, hq⟩
set_option maxRecDepth 100000 in
set_option maxHeartbeats 4000000 in
theorem note_any (w : World) (cb mb cc : Nat) (params b p : Int) (vs : List Int) (v : Value) (f : Spots) (k0 : w.cell? ⟨cb, 0, none⟩ = some (.int .i64 params)) (k2 : w.cell? ⟨cb, 2, none⟩ = some (.map (some mb)))
    (hs : SpotAt w mb cc f) (hv : Ints w v vs) (hcc : cc + vs.length ≤ 100000) (hI : ∀ x ∈ vs, InI x) (hne : cb ≠ mb) (hvm : ∀ g o e l c, v = .slice (some ⟨g, o, e⟩) l c → g ≠ mb) :
    Calls Try.prog 48 #[.pointer (some ⟨cb, 0, none⟩), .agg #[.int .i64 b, .int .i64 p], v] w (Ends mb (noteE params b p vs f) (fun f' w' => SpotAt w' mb (cc + vs.length) f') w) := by
  have hml := hs.lt
  have hcl := lt_of_cell k0
  obtain ⟨A, c, rfl, hv1, hv2, hv3⟩ := hv
  unfold maxLen at hv2
  have HV := Lib.hid hv3
  have HII := Lib.hid hI
  have HVM := Lib.hid hvm
  have HSP := Lib.hid hs
  clear hv3 hI hvm hs
  go_enter Try.func48, Try.ntmps48
  go_upto_region 1 with (fail)
  obtain ⟨W, hW⟩ : ∃ W, w.alloc (.cells #[.int .i64 b, .int .i64 p] 56) = W := ⟨_, rfl⟩
  rw [hW]
  have hbW : Below w.heap.size w W := by rw [← hW]; exact (Below.refl _ _).alloc (Nat.le_refl _) _
  have hsW : Str W w.heap.size 56 [.int .i64 b, .int .i64 p] := by rw [← hW]; exact World.alloc_heap_new w _
  have HBW := Lib.hid hbW
  have HSW := Lib.hid hsW
  have hWz : w.heap.size < W.heap.size := hsW.lt
  clear hW hbW hsW
  go_wp2_with fail
  go_loopw [7, 14] (fun _ i wr => ∃ k : Nat, k ≤ vs.length ∧ i = .int .i64 k ∧ (vs.take k).any (outB params) = false ∧ Below W.heap.size W wr) (fun _ i _ => vs.length - (intOf i).toNat)
  case atStart => exact ⟨0, by omega, rfl, by simp, Below.refl _ _⟩
  case round =>
    obtain ⟨k, hk, rfl, hany, hb⟩ := hrel
    obtain ⟨wo, rfl⟩ : ∃ wo : World, wo = wr := ⟨_, rfl⟩
    have HB := Lib.hid hb
    have HBwo := Lib.hid (HBW.out.trans (hb.mono HBW.out.size))
    have HANY := Lib.hid hany
    clear hb hany
    by_cases hlt : k < vs.length
    · obtain ⟨ad, rfl, hx0⟩ := HV.out k hlt
      have hx := cell_keep HBwo.out (Nat.le_refl _) hx0
      have c0 := cell_keep HBwo.out (Nat.le_refl _) k0
      have d0 : wo.cell? ⟨w.heap.size, 0, none⟩ = some (.int .i64 b) := (HSW.out.below HB.out).cell 0
      have d1 : wo.cell? ⟨w.heap.size, 1, none⟩ = some (.int .i64 p) := (HSW.out.below HB.out).cell 1
      have HTS := Lib.hid (any_take_succ hlt HANY.out)
      have HOT := Lib.hid (fun h => @any_of_take vs (outB params) (k + 1) h)
      generalize vs[k] = x at *
      clear hx0
      by_cases h1 : x < params
      · have h1b : decide (x < params) = true := decide_eq_true h1
        have HE := Lib.hid (show noteE params b p vs f = .error (11, b, p) by
          unfold noteE
          rw [if_pos (HOT.out (by rw [HTS.out]; unfold outB; rw [h1b]; rfl))])
        clear h1
        go_wp2_with fail
        refine region_heldC_wp (fun w' => w'.cell? ⟨cb, 0, none⟩ = some (.int .i64 params) ∧ w'.cell? ⟨w.heap.size, 0, none⟩ = some (.int .i64 b) ∧ w'.cell? ⟨w.heap.size, 1, none⟩ = some (.int .i64 p)) [0, 1, 2, 3, 4, 5, 6, 7, 8, 9, 10, 11] [0, 1, 2, 3, 4, 5, 6, 7, 8, 9, 10, 11, 12] (by kernel_rfl) (by kernel_rfl) (by kernel_rfl) rfl (by intro c a d v w h; cases d <;> exact h) ⟨c0, d0, d1⟩ ?_
        refine walkC_still _ ?s0 rfl rfl rfl ?sy0 ?_
        case sy0 => intro w hS; go_simp; first | done | with_reducible rfl
        simp only [Act.put]
        refine walkC_still _ ?s1 rfl rfl rfl ?sy1 ?_
        case sy1 => intro w hS; go_simp; first | done | with_reducible rfl
        simp only [Act.put]
        refine walkC_still _ ?s2 rfl rfl rfl ?sy2 ?_
        case sy2 => intro w hS; go_simp; first | done | with_reducible rfl
        simp only [Act.put]
        refine walkC_still _ ?s3 rfl rfl rfl ?sy3 ?_
        case sy3 => intro w hS; go_simp; first | done | with_reducible rfl
        simp only [Act.put]
        refine walkC_still _ ?s4 rfl rfl rfl ?sy4 ?_
        case sy4 => intro w hS; go_simp; first | done | with_reducible rfl
        simp only [Act.put]
        refine walkC_still _ ?s5 rfl rfl rfl ?sy5 ?_
        case sy5 => intro w hS; go_simp; first | done | with_reducible rfl
        simp only [Act.put]
        refine walkC_still _ ?s6 rfl rfl rfl ?sy6 ?_
        case sy6 => intro w hS; go_simp; first | done | with_reducible rfl
        simp only [Act.put]
        refine walkC_still _ ?s7 rfl rfl rfl ?sy7 ?_
        case sy7 => intro w hS; go_simp; first | done | with_reducible rfl
        simp only [Act.put]
        refine walkC_skip _ rfl rfl (by kernel_rfl) ?_
        simp only [Act.put]
        refine walkC_skip _ rfl rfl (by kernel_rfl) ?_
        simp only [Act.put]
        refine walkC_still _ ?s10 rfl rfl rfl ?sy10 ?_
        case sy10 => intro w hS; go_simp; first | done | with_reducible rfl
        simp only [Act.put]
        refine walkC_still _ ?s11 rfl rfl rfl ?sy11 ?_
        case sy11 => intro w hS; go_simp; first | done | with_reducible rfl
        simp only [Act.put]
        simp only [List.setIfInBounds_toArray, List.set_cons_zero, List.set_cons_succ]
        refine walkC_does _ rfl rfl ?_
        go_wp2_with fail
        refine (deny_y _ 11 b p rfl).mono ?_
        rintro e w' ⟨rfl, hb⟩
        refine ⟨rfl, ?_⟩
        show Ends mb (noteE params b p vs f) _ w (.panicked _) w'
        rw [HE.out]
        exact ⟨rfl, But.of_below (HBwo.out.drew.trans (hb.mono HBwo.out.size))⟩
      · have h1b : decide (x < params) = false := decide_eq_false h1
        by_cases h3 : (8192 : Int) ≤ x
        rotate_left
        · have h2 : decide ((8192 : Int) ≤ x) = false := decide_eq_false h3
          clear h3
          have HO := Lib.hid (show (vs.take (k + 1)).any (outB params) = false by rw [HTS.out]; unfold outB; rw [h1b, h2]; rfl)
          go_wp2_with fail
          refine region_heldC_wp (fun w' => w'.cell? ⟨cb, 0, none⟩ = some (.int .i64 params) ∧ w'.cell? ⟨w.heap.size, 0, none⟩ = some (.int .i64 b) ∧ w'.cell? ⟨w.heap.size, 1, none⟩ = some (.int .i64 p)) [0, 1, 2, 3, 4, 5, 6, 7, 8, 9, 10, 11] [0, 1, 2, 3, 4, 5, 6, 7, 8, 9, 10, 11, 12] (by kernel_rfl) (by kernel_rfl) (by kernel_rfl) rfl (by intro c a d v w h; cases d <;> exact h) ⟨c0, d0, d1⟩ ?_
          refine walkC_still _ ?n0 rfl rfl rfl ?ny0 ?_
          case ny0 => intro w hS; go_simp; first | done | with_reducible rfl
          simp only [Act.put]
          refine walkC_still _ ?n1 rfl rfl rfl ?ny1 ?_
          case ny1 => intro w hS; go_simp; first | done | with_reducible rfl
          simp only [Act.put]
          refine walkC_still _ ?n2 rfl rfl rfl ?ny2 ?_
          case ny2 => intro w hS; go_simp; first | done | with_reducible rfl
          simp only [Act.put]
          refine walkC_still _ ?n3 rfl rfl rfl ?ny3 ?_
          case ny3 => intro w hS; go_simp; first | done | with_reducible rfl
          simp only [Act.put]
          refine walkC_still _ ?n4 rfl rfl rfl ?ny4 ?_
          case ny4 => intro w hS; go_simp; first | done | with_reducible rfl
          simp only [Act.put]
          refine walkC_still _ ?n5 rfl rfl rfl ?ny5 ?_
          case ny5 => intro w hS; go_simp; first | done | with_reducible rfl
          simp only [Act.put]
          refine walkC_still _ ?n6 rfl rfl rfl ?ny6 ?_
          case ny6 => intro w hS; go_simp; first | done | with_reducible rfl
          simp only [Act.put]
          refine walkC_still _ ?n7 rfl rfl rfl ?ny7 ?_
          case ny7 => intro w hS; go_simp; first | done | with_reducible rfl
          simp only [Act.put]
          refine walkC_still _ ?n8 rfl rfl (by kernel_rfl) ?ny8 ?_
          case ny8 => intro w hS; go_simp; first | done | with_reducible rfl
          simp only [Act.put]
          refine walkC_still _ ?n9 rfl rfl (by kernel_rfl) ?ny9 ?_
          case ny9 => intro w hS; go_simp; first | done | with_reducible rfl
          simp only [Act.put]
          refine walkC_still _ ?n10 rfl rfl rfl ?ny10 ?_
          case ny10 => intro w hS; go_simp; first | done | with_reducible rfl
          simp only [Act.put]
          refine walkC_still _ ?n11 rfl rfl rfl ?ny11 ?_
          case ny11 => intro w hS; go_simp; first | done | with_reducible rfl
          simp only [Act.put]
          simp only [List.setIfInBounds_toArray, List.set_cons_zero, List.set_cons_succ]
          refine walkC_does _ rfl rfl ?_
          go_wp2_with fail
          refine (deny_n _ 11 b p (by first | rfl | exact h2 | simp [h2])).mono ?_
          rintro e w' ⟨rfl, hb⟩
          have HB2 := Lib.hid (HB.out.drew.trans (hb.mono HB.out.size))
          have hbo : Below wo.heap.size wo w' := (Below.refl _ _).drew.trans hb
          go_wp2
          refine behindC ⟨cell_keep hbo (Nat.le_refl _) c0, cell_keep hbo (Nat.le_refl _) d0, cell_keep hbo (Nat.le_refl _) d1⟩ (walkC_nil ?_)
          go_wp2
          go_roundw
          case rel => exact ⟨k + 1, by omega, by go_num, HO.out, HB2.out⟩
          case measure => simp [intOf]; omega
        · have h2 : decide ((8192 : Int) ≤ x) = true := decide_eq_true h3
          have HE := Lib.hid (show noteE params b p vs f = .error (11, b, p) by
            unfold noteE
            rw [if_pos (HOT.out (by rw [HTS.out]; unfold outB; rw [h1b, h2]; rfl))])
          have H2 := Lib.hid h2
          clear h2
          go_wp2_with fail
          refine region_heldC_wp (fun w' => w'.cell? ⟨cb, 0, none⟩ = some (.int .i64 params) ∧ w'.cell? ⟨w.heap.size, 0, none⟩ = some (.int .i64 b) ∧ w'.cell? ⟨w.heap.size, 1, none⟩ = some (.int .i64 p)) [0, 1, 2, 3, 4, 5, 6, 7, 8, 9, 10, 11] [0, 1, 2, 3, 4, 5, 6, 7, 8, 9, 10, 11, 12] (by kernel_rfl) (by kernel_rfl) (by kernel_rfl) rfl (by intro c a d v w h; cases d <;> exact h) ⟨c0, d0, d1⟩ ?_
          refine walkC_still _ ?m0 rfl rfl rfl ?my0 ?_
          case my0 => intro w hS; go_simp; first | done | with_reducible rfl
          simp only [Act.put]
          refine walkC_still _ ?m1 rfl rfl rfl ?my1 ?_
          case my1 => intro w hS; go_simp; first | done | with_reducible rfl
          simp only [Act.put]
          refine walkC_still _ ?m2 rfl rfl rfl ?my2 ?_
          case my2 => intro w hS; go_simp; first | done | with_reducible rfl
          simp only [Act.put]
          refine walkC_still _ ?m3 rfl rfl rfl ?my3 ?_
          case my3 => intro w hS; go_simp; first | done | with_reducible rfl
          simp only [Act.put]
          refine walkC_still _ ?m4 rfl rfl rfl ?my4 ?_
          case my4 => intro w hS; go_simp; first | done | with_reducible rfl
          simp only [Act.put]
          refine walkC_still _ ?m5 rfl rfl rfl ?my5 ?_
          case my5 => intro w hS; go_simp; first | done | with_reducible rfl
          simp only [Act.put]
          refine walkC_still _ ?m6 rfl rfl rfl ?my6 ?_
          case my6 => intro w hS; go_simp; first | done | with_reducible rfl
          simp only [Act.put]
          refine walkC_still _ ?m7 rfl rfl rfl ?my7 ?_
          case my7 => intro w hS; go_simp; first | done | with_reducible rfl
          simp only [Act.put]
          refine walkC_still _ ?m8 rfl rfl (by kernel_rfl) ?my8 ?_
          case my8 => intro w hS; go_simp; first | done | with_reducible rfl
          simp only [Act.put]
          refine walkC_still _ ?m9 rfl rfl (by kernel_rfl) ?my9 ?_
          case my9 => intro w hS; go_simp; first | done | with_reducible rfl
          simp only [Act.put]
          refine walkC_still _ ?m10 rfl rfl rfl ?my10 ?_
          case my10 => intro w hS; go_simp; first | done | with_reducible rfl
          simp only [Act.put]
          refine walkC_still _ ?m11 rfl rfl rfl ?my11 ?_
          case my11 => intro w hS; go_simp; first | done | with_reducible rfl
          simp only [Act.put]
          simp only [List.setIfInBounds_toArray, List.set_cons_zero, List.set_cons_succ]
          refine walkC_does _ rfl rfl ?_
          go_wp2_with fail
          refine (deny_y _ 11 b p (by first | rfl | exact H2.out | simp [H2.out])).mono ?_
          rintro e w' ⟨rfl, hb⟩
          refine ⟨rfl, ?_⟩
          show Ends mb (noteE params b p vs f) _ w (.panicked _) w'
          rw [HE.out]
          exact ⟨rfl, But.of_below (HBwo.out.drew.trans (hb.mono HBwo.out.size))⟩
    · obtain rfl : k = vs.length := by omega
      rw [List.take_length] at HANY
      have HN := Lib.hid (show noteE params b p vs f = putE b p vs f by unfold noteE; exact if_neg (by rw [HANY.out]; exact Bool.false_ne_true))
      clear HANY
      go_wp2_with fail
      go_loopw [9, 34] (fun _ i wr => ∃ (k : Nat) (g : Spots), k ≤ vs.length ∧ i = .int .i64 k ∧ But mb wo wr ∧ SpotAt wr mb (cc + k) g ∧ putE b p (vs.drop k) g = noteE params b p vs f) (fun _ i _ => vs.length - (intOf i).toNat)
      case atStart => exact ⟨0, f, by omega, rfl, But.refl _ _, HSP.out.below HBwo.out, by rw [List.drop_zero]; exact HN.out.symm⟩
      case round =>
        obtain ⟨k, g, hk, rfl, hbt, hsp, hput⟩ := hrel
        obtain ⟨wi, rfl⟩ : ∃ wi : World, wi = wr := ⟨_, rfl⟩
        have HBT := Lib.hid hbt
        have HSG := Lib.hid hsp
        have HPUT := Lib.hid hput
        have HBW2 := Lib.hid ((But.of_below (m := mb) HBwo.out).trans hbt)
        clear hbt hsp hput
        by_cases hlt : k < vs.length
        · obtain ⟨ad, rfl, hx0⟩ := HV.out k hlt
          have hadm : ad.block ≠ mb := by
            obtain ⟨g0, o0, e0⟩ := ad
            exact HVM.out g0 o0 e0 _ _ rfl
          have hx := HBW2.out.cell hx0 (by unfold Addr.add; split <;> exact hadm)
          have c2 := HBW2.out.cell k2 hne
          have hwm : w.heap.size ≠ mb := by omega
          have d0 : wi.cell? ⟨w.heap.size, 0, none⟩ = some (.int .i64 b) := (HBT.out.str (HSW.out.below HB.out) hwm).cell 0
          have d1 : wi.cell? ⟨w.heap.size, 1, none⟩ = some (.int .i64 p) := (HBT.out.str (HSW.out.below HB.out) hwm).cell 1
          have HPD := Lib.hid (putE_drop (b := b) (p := p) hlt g)
          have hxi := HII.out _ (List.getElem_mem hlt)
          have hszi := HBT.out.size
          have hszo := HB.out.size
          generalize vs[k] = x at *
          have hlk := HSG.out.look hxi
          clear hx0
          cases hgx : g x with
          | some s =>
            rw [hgx] at hlk
            have HE := Lib.hid (show noteE params b p vs f = .error (12, b, p) by rw [← HPUT.out, HPD.out, hgx]; rfl)
            clear hgx
            obtain ⟨s1, s2⟩ := s
            have hbV : Below wi.heap.size wi (wi.alloc (.cells #[.int .i64 s1, .int .i64 s2] 56)) := (Below.refl _ _).alloc (Nat.le_refl _) _
            have r0 := cell_keep hbV (Nat.le_refl _) d0
            have r1 := cell_keep hbV (Nat.le_refl _) d1
            clear hbV
            go_wp2_with fail
            refine (deny_y _ 12 b p (by rfl)).mono ?_
            rintro e w' ⟨rfl, hb⟩
            refine ⟨rfl, ?_⟩
            show Ends mb (noteE params b p vs f) _ w (.panicked _) w'
            rw [HE.out]
            exact ⟨rfl, HBW2.out.trans (But.of_below (((Below.refl _ _).alloc (Nat.le_refl _) _).trans (hb.mono (by simp))))⟩
          | none =>
            rw [hgx] at hlk
            have HP2 := Lib.hid (show putE b p (vs.drop (k + 1)) (noted g x (b, p)) = noteE params b p vs f by rw [← HPUT.out, HPD.out, hgx]; rfl)
            clear hgx
            have hbV : Below wi.heap.size wi (wi.alloc (.cells #[.int .i64 0, .int .i64 0] 56)) := (Below.refl _ _).alloc (Nat.le_refl _) _
            have r0 := cell_keep hbV (Nat.le_refl _) d0
            have r1 := cell_keep hbV (Nat.le_refl _) d1
            clear hbV
            go_wp2_with fail
            refine (deny_n _ 12 b p (by rfl)).mono ?_
            rintro e w6 ⟨rfl, hb⟩
            have hb6 : Below wi.heap.size wi w6 := ((Below.refl _ _).alloc (Nat.le_refl _) _).trans (hb.mono (by simp))
            have c2 := cell_keep hb6 (Nat.le_refl _) c2
            have d0 := cell_keep hb6 (Nat.le_refl _) d0
            have d1 := cell_keep hb6 (Nat.le_refl _) d1
            have HS6 := Lib.hid (HSG.out.below hb6)
            have HB6 := Lib.hid (HBW2.out.trans (But.of_below hb6))
            have HT6 := Lib.hid (HBT.out.trans (But.of_below hb6))
            clear hb hb6 hlk hx
            go_wp2_with fail
            refine region_heldC_wp (fun w' => w'.cell? ⟨cb, 2, none⟩ = some (.map (some mb)) ∧ w'.cell? ⟨w.heap.size, 0, none⟩ = some (.int .i64 b) ∧ w'.cell? ⟨w.heap.size, 1, none⟩ = some (.int .i64 p)) [0, 1, 2, 3, 4, 5] [0, 1, 2, 3, 4, 5, 6] (by kernel_rfl) (by kernel_rfl) (by kernel_rfl) rfl (by intro c a d v w h; cases d <;> exact h) ⟨c2, d0, d1⟩ ?_
            refine walkC_still _ ?u0 rfl rfl rfl ?uy0 ?_
            case uy0 => intro w hS; go_simp; first | done | with_reducible rfl
            simp only [Act.put]
            refine walkC_still _ ?u1 rfl rfl rfl ?uy1 ?_
            case uy1 => intro w hS; go_simp; first | done | with_reducible rfl
            simp only [Act.put]
            refine walkC_still _ ?u2 rfl rfl rfl ?uy2 ?_
            case uy2 => intro w hS; go_simp; first | done | with_reducible rfl
            simp only [Act.put]
            refine walkC_still _ ?u3 rfl rfl rfl ?uy3 ?_
            case uy3 => intro w hS; go_simp; first | done | with_reducible rfl
            simp only [Act.put]
            refine walkC_still _ ?u4 rfl rfl rfl ?uy4 ?_
            case uy4 => intro w hS; go_simp; first | done | with_reducible rfl
            simp only [Act.put]
            refine walkC_still _ ?u5 rfl rfl rfl ?uy5 ?_
            case uy5 => intro w hS; go_simp; first | done | with_reducible rfl
            simp only [Act.put]
            simp only [List.setIfInBounds_toArray, List.set_cons_zero, List.set_cons_succ]
            refine walkC_does _ rfl rfl ?_
            refine wpList_note rfl _ _ _ rfl mb (cc + k) g rfl (HS6.out.below (Below.refl _ _).drew) (by omega) x (b, p) rfl rfl hxi ?_
            intro w7 hs7 hg7
            have hb7 : But mb w6 w7 := (But.refl mb w6).drew.trans (But.of_grown hg7)
            refine wpList_nil (behindC ⟨hb7.cell c2 hne, hb7.cell d0 hwm, hb7.cell d1 hwm⟩ (walkC_nil ?_))
            have HS7 := Lib.hid hs7
            have HT7 := Lib.hid (HT6.out.trans hb7)
            clear hs7 hg7 hb7 c2 d0 d1
            go_wp2
            go_roundw
            case rel => exact ⟨k + 1, noted g x (b, p), by omega, by go_num, HT7.out, HS7.out, HP2.out⟩
            case measure => simp [intOf]; omega
        · obtain rfl : k = vs.length := by omega
          have HE := Lib.hid (show noteE params b p vs f = .ok g by rw [← HPUT.out, List.drop_length]; rfl)
          go_wp2
          go_end0
          show Ends mb (noteE params b p vs f) _ w (.returned _) wi
          rw [HE.out]
          exact ⟨rfl, HBW2.out, HSG.out⟩
end Go.Proofs.Ytdfehpcbcgbidaa.Kc
/- Stage 3: what is asked of a phi, an instruction, a term first: check's phi, ins and term. -/
namespace Go.Proofs.Ytdfehpcbcgbidaa.Kc
open Go.ChangeShapes Go.WideShapes Go.ChangeAt Go.RowKit Go.Maps Go.Proofs.Ytdfehpcbcgbidaa.Mem Go.Proofs.Ytdfehpcbcgbidaa.Br
set_option linter.unusedVariables false
/-- The checker's cells: how many parameters, where values are made. -/
structure ChkAt (w : World) (cb mb cc : Nat) (params : Int) (bv : Value) (f : Spots) : Prop where
  c0 : w.cell? ⟨cb, 0, none⟩ = some (.int .i64 params)
  c1 : w.cell? ⟨cb, 1, none⟩ = some bv
  c2 : w.cell? ⟨cb, 2, none⟩ = some (.map (some mb))
  spots : SpotAt w mb cc f
  ne : cb ≠ mb
  str : ∃ pv sv : Value, Str w cb 63 [.int .i64 params, bv, .map (some mb), pv, sv]
theorem ChkAt.below {w w' : World} {cb mb cc : Nat} {params : Int} {bv : Value} {f : Spots} (h : ChkAt w cb mb cc params bv f) (hb : Below w.heap.size w w') : ChkAt w' cb mb cc params bv f :=
  ⟨cell_keep hb (Nat.le_refl _) h.c0, cell_keep hb (Nat.le_refl _) h.c1, cell_keep hb (Nat.le_refl _) h.c2, h.spots.below hb, h.ne, h.str.elim fun pv hp => hp.elim fun sv hs => ⟨pv, sv, hs.below hb⟩⟩
theorem ChkAt.but {w w' : World} {cb mb cc cc' : Nat} {params : Int} {bv : Value} {f f' : Spots} (h : ChkAt w cb mb cc params bv f) (hb : But mb w w') (hs : SpotAt w' mb cc' f') : ChkAt w' cb mb cc' params bv f' :=
  ⟨hb.cell h.c0 h.ne, hb.cell h.c1 h.ne, hb.cell h.c2 h.ne, hs, h.ne, h.str.elim fun pv hp => hp.elim fun sv hs => ⟨pv, sv, hb.str hs h.ne⟩⟩
theorem Ends.imp {σ : Type} {m : Nat} {R : Except Fault σ} {I J : σ → World → Prop} {w w0 : World} {en : Ending} {w' : World} (h : Ends m R I w en w') (hb : But m w0 w) (hI : ∀ s, But m w0 w' → I s w' → J s w') : Ends m R J w0 en w' := by
  cases R with
  | error f => exact ⟨h.1, hb.trans h.2⟩
  | ok s => exact ⟨h.1, hb.trans h.2.1, hI s (hb.trans h.2.1) h.2.2⟩
def Ended {σ : Type} (m : Nat) (R : Except Fault σ) (I : σ → World → Prop) (w : World) (en : Ending) (w' : World) : Prop := Ends m R I w en w'
set_option maxRecDepth 100000 in
set_option maxHeartbeats 4000000 in
theorem phi_any (w : World) (cb mb cc : Nat) (params b p dst : Int) (A : Option Addr) (n c : Nat) (bv : Value) (f : Spots) (hc : ChkAt w cb mb cc params bv f) (hcc : cc + 1 ≤ 100000) (hI : InI dst) :
    Calls Try.prog 22 #[.pointer (some ⟨cb, 0, none⟩), .agg #[.int .i64 b, .int .i64 p], .agg #[.int .i64 dst, .slice A n c]] w (Ends mb (noteE params b p [dst] f) (fun f' w' => ChkAt w' cb mb (cc + 1) params bv f') w) := by
  have hml := hc.spots.lt
  have HC := Lib.hid hc
  clear hc
  go_enter Try.func22, Try.ntmps22
  go_upto_region 1 with (fail)
  obtain ⟨W, hW⟩ : ∃ W, w.alloc (.cells #[.int .i64 b, .int .i64 p] 56) = W := ⟨_, rfl⟩
  rw [hW]
  have hbW : Below w.heap.size w W := by rw [← hW]; exact (Below.refl _ _).alloc (Nat.le_refl _) _
  have hsW : Str W w.heap.size 56 [.int .i64 b, .int .i64 p] := by rw [← hW]; exact World.alloc_heap_new w _
  have hz1 : W.heap.size = w.heap.size + 1 := by rw [← hW]; simp
  clear hW
  obtain ⟨W2, hW2⟩ : ∃ W2, W.alloc (.cells #[.int .i64 dst, .slice A n c] 54) = W2 := ⟨_, rfl⟩
  rw [hW2]
  have hbW2 : Below W.heap.size W W2 := by rw [← hW2]; exact (Below.refl _ _).alloc (Nat.le_refl _) _
  have hsW2 : Str W2 W.heap.size 54 [.int .i64 dst, .slice A n c] := by rw [← hW2]; exact World.alloc_heap_new W _
  clear hW2
  have d0 : W2.cell? ⟨w.heap.size, 0, none⟩ = some (.int .i64 b) := (hsW.below hbW2).cell 0
  have d1 : W2.cell? ⟨w.heap.size, 1, none⟩ = some (.int .i64 p) := (hsW.below hbW2).cell 1
  have e0 : W2.cell? ⟨w.heap.size + 1, 0, none⟩ = some (.int .i64 dst) := by rw [← hz1]; exact hsW2.cell 0
  have HB := Lib.hid (hbW.trans (hbW2.mono hbW.size))
  have hz := HB.out.size
  clear hbW hsW hbW2 hsW2 hz1
  have hbx : Below W2.heap.size W2 (W2.alloc (.cells #[.int .i64 dst] 3)) := (Below.refl _ _).alloc (Nat.le_refl _) _
  have hint : Ints (W2.alloc (.cells #[.int .i64 dst] 3)) (.slice (some ⟨W2.heap.size, 0, none⟩) 1 1) [dst] := ⟨_, _, rfl, Nat.le_refl _, by unfold maxLen; decide, fun k hk => ⟨_, rfl, by
    have hk0 : k = 0 := by simp at hk; omega
    subst hk0; exact cell_made rfl⟩⟩
  have HIN := Lib.hid hint
  have HX := Lib.hid hbx
  clear hint hbx
  go_wp2_with fail
  refine (note_any _ cb mb cc params b p [dst] _ f (HC.out.below (HB.out.trans (HX.out.mono hz))).c0 (HC.out.below (HB.out.trans (HX.out.mono hz))).c2 (HC.out.below (HB.out.trans (HX.out.mono hz))).spots HIN.out hcc (fun x hx => by simp at hx; subst hx; exact hI) HC.out.ne (fun g o e l c h => by injection h with h; injection h with h; injection h with h; omega)).mono ?_
  rintro e w' he
  have HE := Lib.hid (he.imp (J := fun f' w' => ChkAt w' cb mb (cc + 1) params bv f') (But.of_below (HB.out.trans (HX.out.mono hz))) (fun s hbt hs => HC.out.but hbt hs))
  cases hR : noteE params b p [dst] f with
  | error x =>
    rw [hR] at he
    obtain ⟨rfl, _⟩ := he
    exact ⟨rfl, HE.out⟩
  | ok g =>
    rw [hR] at he
    obtain ⟨rfl, _⟩ := he
    clear hR
    go_wp2
    go_end0
    exact HE.out
set_option maxRecDepth 100000 in
set_option maxHeartbeats 4000000 in
theorem ins_any (w : World) (cb mb cc : Nat) (params b p op dst two imm : Int) (A : Option Addr) (n c : Nat) (bv : Value) (f : Spots) (hc : ChkAt w cb mb cc params bv f) (hcc : cc + 2 ≤ 100000) (hI : InI dst) (hI2 : InI two) :
    Calls Try.prog 23 #[.pointer (some ⟨cb, 0, none⟩), .agg #[.int .i64 b, .int .i64 p], .agg #[.int .i64 op, .int .i64 dst, .int .i64 two, .slice A n c, .int .i32 imm]] w
      (Ends mb (insE params b p op dst two n f) (fun f' w' => ChkAt w' cb mb (cc + (prodL op dst two).length) params bv f') w) := by
  have hml := hc.spots.lt
  have HC := Lib.hid hc
  clear hc
  go_enter Try.func23, Try.ntmps23
  go_upto_region 1 with (fail)
  obtain ⟨W, hW⟩ : ∃ W, w.alloc (.cells #[.int .i64 b, .int .i64 p] 56) = W := ⟨_, rfl⟩
  rw [hW]
  have hbW : Below w.heap.size w W := by rw [← hW]; exact (Below.refl _ _).alloc (Nat.le_refl _) _
  have hsW : Str W w.heap.size 56 [.int .i64 b, .int .i64 p] := by rw [← hW]; exact World.alloc_heap_new w _
  have hz1 : W.heap.size = w.heap.size + 1 := by rw [← hW]; simp
  clear hW
  obtain ⟨W2, hW2⟩ : ∃ W2, W.alloc (.cells #[.int .i64 op, .int .i64 dst, .int .i64 two, .slice A n c, .int .i32 imm] 36) = W2 := ⟨_, rfl⟩
  rw [hW2]
  have hbW2 : Below W.heap.size W W2 := by rw [← hW2]; exact (Below.refl _ _).alloc (Nat.le_refl _) _
  have hsW2 : Str W2 W.heap.size 36 [.int .i64 op, .int .i64 dst, .int .i64 two, .slice A n c, .int .i32 imm] := by rw [← hW2]; exact World.alloc_heap_new W _
  clear hW2
  have HST := Lib.hid (hsW.below hbW2)
  rw [hz1] at hsW2
  have HSI := Lib.hid hsW2
  have HB := Lib.hid (hbW.trans (hbW2.mono hbW.size))
  have hz := HB.out.size
  clear hbW hsW hbW2 hsW2 hz1
  have d0 : W2.cell? ⟨w.heap.size, 0, none⟩ = some (.int .i64 b) := HST.out.cell 0
  have d1 : W2.cell? ⟨w.heap.size, 1, none⟩ = some (.int .i64 p) := HST.out.cell 1
  have e0 : W2.cell? ⟨w.heap.size + 1, 0, none⟩ = _ := HSI.out.cell 0
  have e1 : W2.cell? ⟨w.heap.size + 1, 1, none⟩ = _ := HSI.out.cell 1
  have e2 : W2.cell? ⟨w.heap.size + 1, 2, none⟩ = _ := HSI.out.cell 2
  have e3 : W2.cell? ⟨w.heap.size + 1, 3, none⟩ = _ := HSI.out.cell 3
  have e4 : W2.cell? ⟨w.heap.size + 1, 4, none⟩ = _ := HSI.out.cell 4
  cases hm : mayB op n with
  | false =>
    have HM := Lib.hid hm
    clear hm
    refine region_heldC_wp (fun w' => w'.cell? ⟨w.heap.size, 0, none⟩ = some (.int .i64 b) ∧ w'.cell? ⟨w.heap.size, 1, none⟩ = some (.int .i64 p) ∧ w'.cell? ⟨w.heap.size + 1, 0, none⟩ = some (.int .i64 op) ∧ w'.cell? ⟨w.heap.size + 1, 1, none⟩ = some (.int .i64 dst) ∧ w'.cell? ⟨w.heap.size + 1, 2, none⟩ = some (.int .i64 two) ∧ w'.cell? ⟨w.heap.size + 1, 3, none⟩ = some (.slice A n c) ∧ w'.cell? ⟨w.heap.size + 1, 4, none⟩ = some (.int .i32 imm)) [0, 2, 3] [0, 3, 1, 2, 4] (by kernel_rfl) (by kernel_rfl) (by kernel_rfl) rfl (by intro c a d v w h; cases d <;> exact h) ⟨d0, d1, e0, e1, e2, e3, e4⟩ ?_
    refine walkC_still _ ?s0 rfl rfl rfl ?sy0 ?_
    case sy0 => intro w hS; go_simp; first | done | with_reducible rfl
    simp only [Act.put]
    refine walkC_still _ ?s3 rfl rfl rfl ?sy3 ?_
    case sy3 => intro w hS; go_simp; first | done | with_reducible rfl
    simp only [Act.put]
    try simp only [List.setIfInBounds_toArray, List.set_cons_zero, List.set_cons_succ]
    refine walkC_does _ rfl rfl ?_
    go_wp2_with fail
    refine (maybe_any _ op dst two A n c imm).mono ?_
    rintro e w3 ⟨rfl, hb⟩
    rw [HM.out]
    have hb3 : Below W2.heap.size W2 w3 := (Below.refl _ _).drew.trans hb
    go_wp2
    refine behindC ⟨cell_keep hb3 (Nat.le_refl _) d0, cell_keep hb3 (Nat.le_refl _) d1, cell_keep hb3 (Nat.le_refl _) e0, cell_keep hb3 (Nat.le_refl _) e1, cell_keep hb3 (Nat.le_refl _) e2, cell_keep hb3 (Nat.le_refl _) e3, cell_keep hb3 (Nat.le_refl _) e4⟩ ?_
    refine walkC_still _ ?s2 rfl rfl rfl ?sy2 ?_
    case sy2 => intro w hS; go_simp; first | done | with_reducible rfl
    simp only [Act.put]
    try simp only [List.setIfInBounds_toArray, List.set_cons_zero, List.set_cons_succ]
    refine walkC_does _ rfl rfl ?_
    go_wp2_with fail
    refine (deny_y _ 10 b p (by rfl)).mono ?_
    rintro e w4 ⟨rfl, hb⟩
    refine ⟨rfl, ?_⟩
    rw [show insE params b p op dst two n f = .error (10, b, p) from if_neg (by rw [HM.out]; exact Bool.false_ne_true)]
    exact ⟨rfl, But.of_below ((HB.out.trans (hb3.mono hz)).trans (hb.mono (Nat.le_trans hz hb3.size)))⟩
  | true =>
    have HM := Lib.hid hm
    clear hm
    refine region_heldC_wp (fun w' => w'.cell? ⟨w.heap.size, 0, none⟩ = some (.int .i64 b) ∧ w'.cell? ⟨w.heap.size, 1, none⟩ = some (.int .i64 p) ∧ w'.cell? ⟨w.heap.size + 1, 0, none⟩ = some (.int .i64 op) ∧ w'.cell? ⟨w.heap.size + 1, 1, none⟩ = some (.int .i64 dst) ∧ w'.cell? ⟨w.heap.size + 1, 2, none⟩ = some (.int .i64 two) ∧ w'.cell? ⟨w.heap.size + 1, 3, none⟩ = some (.slice A n c) ∧ w'.cell? ⟨w.heap.size + 1, 4, none⟩ = some (.int .i32 imm)) [0, 2, 3] [0, 3, 1, 2, 4] (by kernel_rfl) (by kernel_rfl) (by kernel_rfl) rfl (by intro c a d v w h; cases d <;> exact h) ⟨d0, d1, e0, e1, e2, e3, e4⟩ ?_
    refine walkC_still _ ?t0 rfl rfl rfl ?ty0 ?_
    case ty0 => intro w hS; go_simp; first | done | with_reducible rfl
    simp only [Act.put]
    refine walkC_still _ ?t3 rfl rfl rfl ?ty3 ?_
    case ty3 => intro w hS; go_simp; first | done | with_reducible rfl
    simp only [Act.put]
    try simp only [List.setIfInBounds_toArray, List.set_cons_zero, List.set_cons_succ]
    refine walkC_does _ rfl rfl ?_
    go_wp2_with fail
    refine (maybe_any _ op dst two A n c imm).mono ?_
    rintro e w3 ⟨rfl, hb⟩
    rw [HM.out]
    have hb3 : Below W2.heap.size W2 w3 := (Below.refl _ _).drew.trans hb
    go_wp2
    refine behindC ⟨cell_keep hb3 (Nat.le_refl _) d0, cell_keep hb3 (Nat.le_refl _) d1, cell_keep hb3 (Nat.le_refl _) e0, cell_keep hb3 (Nat.le_refl _) e1, cell_keep hb3 (Nat.le_refl _) e2, cell_keep hb3 (Nat.le_refl _) e3, cell_keep hb3 (Nat.le_refl _) e4⟩ ?_
    refine walkC_still _ ?t2 rfl rfl rfl ?ty2 ?_
    case ty2 => intro w hS; go_simp; first | done | with_reducible rfl
    simp only [Act.put]
    try simp only [List.setIfInBounds_toArray, List.set_cons_zero, List.set_cons_succ]
    refine walkC_does _ rfl rfl ?_
    go_wp2_with fail
    refine (deny_n _ 10 b p (by rfl)).mono ?_
    rintro e w4 ⟨rfl, hb⟩
    have hb4 : Below W2.heap.size W2 w4 := hb3.trans (hb.mono hb3.size)
    have HB4 := Lib.hid hb4
    have d0 := cell_keep hb4 (Nat.le_refl _) d0
    have d1 := cell_keep hb4 (Nat.le_refl _) d1
    have e0 := cell_keep hb4 (Nat.le_refl _) e0
    have e1 := cell_keep hb4 (Nat.le_refl _) e1
    have e2 := cell_keep hb4 (Nat.le_refl _) e2
    have e3 := cell_keep hb4 (Nat.le_refl _) e3
    have e4 := cell_keep hb4 (Nat.le_refl _) e4
    clear hb hb3 hb4
    go_wp2
    refine behindC ⟨d0, d1, e0, e1, e2, e3, e4⟩ (walkC_nil ?_)
    have hm4 : mb < w4.heap.size := by have := HB4.out.size; omega
    go_wp2_with fail
    refine region_heldC_wp (fun w' => w'.cell? ⟨w.heap.size, 0, none⟩ = some (.int .i64 b) ∧ w'.cell? ⟨w.heap.size, 1, none⟩ = some (.int .i64 p) ∧ w'.cell? ⟨w.heap.size + 1, 0, none⟩ = some (.int .i64 op) ∧ w'.cell? ⟨w.heap.size + 1, 1, none⟩ = some (.int .i64 dst) ∧ w'.cell? ⟨w.heap.size + 1, 2, none⟩ = some (.int .i64 two) ∧ w'.cell? ⟨w.heap.size + 1, 3, none⟩ = some (.slice A n c) ∧ w'.cell? ⟨w.heap.size + 1, 4, none⟩ = some (.int .i32 imm)) [0, 1, 2] [0, 1, 2, 3, 4] (by kernel_rfl) (by kernel_rfl) (by kernel_rfl) rfl (by intro c a d v w h; cases d <;> exact h) ⟨d0, d1, e0, e1, e2, e3, e4⟩ ?_
    refine walkC_still _ ?u0 rfl rfl rfl ?uy0 ?_
    case uy0 => intro w hS; go_simp; first | done | with_reducible rfl
    simp only [Act.put]
    refine walkC_still _ ?u1 rfl rfl rfl ?uy1 ?_
    case uy1 => intro w hS; go_simp; first | done | with_reducible rfl
    simp only [Act.put]
    refine walkC_still _ ?u2 rfl rfl rfl ?uy2 ?_
    case uy2 => intro w hS; go_simp; first | done | with_reducible rfl
    simp only [Act.put]
    try simp only [List.setIfInBounds_toArray, List.set_cons_zero, List.set_cons_succ]
    refine walkC_does _ rfl rfl ?_
    go_wp2_with fail
    refine (products_any _ op dst two A n c imm).mono ?_
    rintro e w5 ⟨v5, rfl, hi5, hn5, hb⟩
    have hb5 : Below w4.heap.size w4 w5 := (Below.refl _ _).drew.trans hb
    have hz5 := hb5.size
    go_wp2
    have d0 := cell_keep hb5 (Nat.le_refl _) d0
    have d1 := cell_keep hb5 (Nat.le_refl _) d1
    have e0 := cell_keep hb5 (Nat.le_refl _) e0
    have e1 := cell_keep hb5 (Nat.le_refl _) e1
    have e2 := cell_keep hb5 (Nat.le_refl _) e2
    have e3 := cell_keep hb5 (Nat.le_refl _) e3
    have e4 := cell_keep hb5 (Nat.le_refl _) e4
    refine behindC ⟨d0, d1, e0, e1, e2, e3, e4⟩ ?_
    try simp only [List.setIfInBounds_toArray, List.set_cons_zero, List.set_cons_succ]
    refine walkC_does _ rfl rfl ?_
    go_wp2_with fail
    have HB5 := Lib.hid ((HB.out.trans (HB4.out.mono hz)).trans (hb5.mono (Nat.le_trans hz HB4.out.size)))
    have hpl : (prodL op dst two).length ≤ 2 := by
      unfold prodL
      split
      · decide
      · split <;> simp
    refine (note_any _ cb mb cc params b p (prodL op dst two) v5 f (HC.out.below HB5.out).c0 (HC.out.below HB5.out).c2 (HC.out.below HB5.out).spots hi5 (by omega) (fun x hx => ?_) HC.out.ne (fun g o e l c h => ?_)).mono ?_
    · unfold prodL at hx
      split at hx
      · simp at hx
      · split at hx
        · simp at hx; rcases hx with rfl | rfl <;> assumption
        · simp at hx; subst hx; assumption
    · have h9 : w4.heap.size ≤ g := hn5 _ _ _ _ _ h
      omega
    rintro e w' he
    have HE := Lib.hid (he.imp (J := fun f' w' => ChkAt w' cb mb (cc + (prodL op dst two).length) params bv f') (But.of_below HB5.out) (fun s hbt hs => HC.out.but hbt hs))
    cases hR : noteE params b p (prodL op dst two) f with
    | error x =>
      rw [hR] at he
      obtain ⟨rfl, _⟩ := he
      refine ⟨rfl, ?_⟩
      rw [show insE params b p op dst two n f = noteE params b p (prodL op dst two) f from if_pos HM.out]
      exact HE.out
    | ok g =>
      rw [hR] at he
      obtain ⟨rfl, hbt, _⟩ := he
      clear hR
      have q1 : w.heap.size ≠ mb := by omega
      have q2 : w.heap.size + 1 ≠ mb := by omega
      go_wp2
      refine behindC ⟨hbt.cell d0 q1, hbt.cell d1 q1, hbt.cell e0 q2, hbt.cell e1 q2, hbt.cell e2 q2, hbt.cell e3 q2, hbt.cell e4 q2⟩ (walkC_nil ?_)
      go_wp2
      go_end0
      rw [show insE params b p op dst two n f = noteE params b p (prodL op dst two) f from if_pos HM.out]
      exact HE.out
end Go.Proofs.Ytdfehpcbcgbidaa.Kc
/- Stage 3: what is asked of a term first: check's term. -/
namespace Go.Proofs.Ytdfehpcbcgbidaa.Kc
open Go.ChangeShapes Go.WideShapes Go.ChangeAt Go.RowKit Go.Maps Go.Proofs.Ytdfehpcbcgbidaa.Mem Go.Proofs.Ytdfehpcbcgbidaa.Br
set_option linter.unusedVariables false
set_option maxRecDepth 100000 in
set_option maxHeartbeats 4000000 in
theorem term_any (w : World) (cb mb cc : Nat) (params b p kind imm : Int) (A : Option Addr) (n c : Nat) (T : Option Addr) (ct : Nat) (to : List Int) (AB : Option Addr) (nb cB : Nat) (f : Spots)
    (hc : ChkAt w cb mb cc params (.slice AB nb cB) f) (hto : Ints w (.slice T to.length ct) to) :
    Calls Try.prog 24 #[.pointer (some ⟨cb, 0, none⟩), .agg #[.int .i64 b, .int .i64 p], .agg #[.int .i64 kind, .slice A n c, .slice T to.length ct, .int .i32 imm]] w
      (Ends mb (termE nb b p kind n to f) (fun f' w' => ChkAt w' cb mb cc params (.slice AB nb cB) f') w) := by
  have hml := hc.spots.lt
  have HC := Lib.hid hc
  have HTO := Lib.hid hto
  clear hc hto
  go_enter Try.func24, Try.ntmps24
  go_upto_region 1 with (fail)
  obtain ⟨W, hW⟩ : ∃ W, w.alloc (.cells #[.int .i64 b, .int .i64 p] 56) = W := ⟨_, rfl⟩
  rw [hW]
  have hbW : Below w.heap.size w W := by rw [← hW]; exact (Below.refl _ _).alloc (Nat.le_refl _) _
  have hsW : Str W w.heap.size 56 [.int .i64 b, .int .i64 p] := by rw [← hW]; exact World.alloc_heap_new w _
  have hz1 : W.heap.size = w.heap.size + 1 := by rw [← hW]; simp
  clear hW
  obtain ⟨W2, hW2⟩ : ∃ W2, W.alloc (.cells #[.int .i64 kind, .slice A n c, .slice T to.length ct, .int .i32 imm] 30) = W2 := ⟨_, rfl⟩
  rw [hW2]
  have hbW2 : Below W.heap.size W W2 := by rw [← hW2]; exact (Below.refl _ _).alloc (Nat.le_refl _) _
  have hsW2 : Str W2 W.heap.size 30 [.int .i64 kind, .slice A n c, .slice T to.length ct, .int .i32 imm] := by rw [← hW2]; exact World.alloc_heap_new W _
  clear hW2
  have HST := Lib.hid (hsW.below hbW2)
  rw [hz1] at hsW2
  have HSI := Lib.hid hsW2
  have HB := Lib.hid (hbW.trans (hbW2.mono hbW.size))
  have hz := HB.out.size
  clear hbW hsW hbW2 hsW2 hz1
  have d0 : W2.cell? ⟨w.heap.size, 0, none⟩ = some (.int .i64 b) := HST.out.cell 0
  have d1 : W2.cell? ⟨w.heap.size, 1, none⟩ = some (.int .i64 p) := HST.out.cell 1
  have e0 : W2.cell? ⟨w.heap.size + 1, 0, none⟩ = _ := HSI.out.cell 0
  have e1 : W2.cell? ⟨w.heap.size + 1, 1, none⟩ = _ := HSI.out.cell 1
  have e2 : W2.cell? ⟨w.heap.size + 1, 2, none⟩ = _ := HSI.out.cell 2
  have e3 : W2.cell? ⟨w.heap.size + 1, 3, none⟩ = _ := HSI.out.cell 3
  cases hm : endB kind n to.length with
  | false =>
    have HM := Lib.hid hm
    clear hm
    refine region_heldC_wp (fun w' => w'.cell? ⟨w.heap.size, 0, none⟩ = some (.int .i64 b) ∧ w'.cell? ⟨w.heap.size, 1, none⟩ = some (.int .i64 p) ∧ w'.cell? ⟨w.heap.size + 1, 0, none⟩ = some (.int .i64 kind) ∧ w'.cell? ⟨w.heap.size + 1, 1, none⟩ = some (.slice A n c) ∧ w'.cell? ⟨w.heap.size + 1, 2, none⟩ = some (.slice T to.length ct) ∧ w'.cell? ⟨w.heap.size + 1, 3, none⟩ = some (.int .i32 imm)) [0, 2, 3] [0, 3, 1, 2, 4] (by kernel_rfl) (by kernel_rfl) (by kernel_rfl) rfl (by intro c a d v w h; cases d <;> exact h) ⟨d0, d1, e0, e1, e2, e3⟩ ?_
    refine walkC_still _ ?s0 rfl rfl rfl ?sy0 ?_
    case sy0 => intro w hS; go_simp; first | done | with_reducible rfl
    simp only [Act.put]
    refine walkC_still _ ?s3 rfl rfl rfl ?sy3 ?_
    case sy3 => intro w hS; go_simp; first | done | with_reducible rfl
    simp only [Act.put]
    try simp only [List.setIfInBounds_toArray, List.set_cons_zero, List.set_cons_succ]
    refine walkC_does _ rfl rfl ?_
    go_wp2_with fail
    refine (mayEnd_any _ kind A n c T to.length ct imm).mono ?_
    rintro e w3 ⟨rfl, hb⟩
    rw [HM.out]
    have hb3 : Below W2.heap.size W2 w3 := (Below.refl _ _).drew.trans hb
    go_wp2
    refine behindC ⟨cell_keep hb3 (Nat.le_refl _) d0, cell_keep hb3 (Nat.le_refl _) d1, cell_keep hb3 (Nat.le_refl _) e0, cell_keep hb3 (Nat.le_refl _) e1, cell_keep hb3 (Nat.le_refl _) e2, cell_keep hb3 (Nat.le_refl _) e3⟩ ?_
    refine walkC_still _ ?s2 rfl rfl rfl ?sy2 ?_
    case sy2 => intro w hS; go_simp; first | done | with_reducible rfl
    simp only [Act.put]
    try simp only [List.setIfInBounds_toArray, List.set_cons_zero, List.set_cons_succ]
    refine walkC_does _ rfl rfl ?_
    go_wp2_with fail
    refine (deny_y _ 10 b p (by rfl)).mono ?_
    rintro e w4 ⟨rfl, hb⟩
    refine ⟨rfl, ?_⟩
    rw [show termE nb b p kind n to f = .error (10, b, p) from if_neg (by rw [HM.out]; exact Bool.false_ne_true)]
    exact ⟨rfl, But.of_below ((HB.out.trans (hb3.mono hz)).trans (hb.mono (Nat.le_trans hz hb3.size)))⟩
  | true =>
    have HP := Lib.hid (show ∀ en w', Ends mb (if to.any (toB nb) then Except.error (14, b, p) else Except.ok f) (fun f' w' => ChkAt w' cb mb cc params (.slice AB nb cB) f') w en w' → Ends mb (termE nb b p kind n to f) (fun f' w' => ChkAt w' cb mb cc params (.slice AB nb cB) f') w en w' from
      fun en w' h => by unfold termE; rw [if_pos hm]; exact h)
    have HM := Lib.hid hm
    clear hm
    refine region_heldC_wp (fun w' => w'.cell? ⟨w.heap.size, 0, none⟩ = some (.int .i64 b) ∧ w'.cell? ⟨w.heap.size, 1, none⟩ = some (.int .i64 p) ∧ w'.cell? ⟨w.heap.size + 1, 0, none⟩ = some (.int .i64 kind) ∧ w'.cell? ⟨w.heap.size + 1, 1, none⟩ = some (.slice A n c) ∧ w'.cell? ⟨w.heap.size + 1, 2, none⟩ = some (.slice T to.length ct) ∧ w'.cell? ⟨w.heap.size + 1, 3, none⟩ = some (.int .i32 imm)) [0, 2, 3] [0, 3, 1, 2, 4] (by kernel_rfl) (by kernel_rfl) (by kernel_rfl) rfl (by intro c a d v w h; cases d <;> exact h) ⟨d0, d1, e0, e1, e2, e3⟩ ?_
    refine walkC_still _ ?t0 rfl rfl rfl ?ty0 ?_
    case ty0 => intro w hS; go_simp; first | done | with_reducible rfl
    simp only [Act.put]
    refine walkC_still _ ?t3 rfl rfl rfl ?ty3 ?_
    case ty3 => intro w hS; go_simp; first | done | with_reducible rfl
    simp only [Act.put]
    try simp only [List.setIfInBounds_toArray, List.set_cons_zero, List.set_cons_succ]
    refine walkC_does _ rfl rfl ?_
    go_wp2_with fail
    refine (mayEnd_any _ kind A n c T to.length ct imm).mono ?_
    rintro e w3 ⟨rfl, hb⟩
    rw [HM.out]
    have hb3 : Below W2.heap.size W2 w3 := (Below.refl _ _).drew.trans hb
    go_wp2
    refine behindC ⟨cell_keep hb3 (Nat.le_refl _) d0, cell_keep hb3 (Nat.le_refl _) d1, cell_keep hb3 (Nat.le_refl _) e0, cell_keep hb3 (Nat.le_refl _) e1, cell_keep hb3 (Nat.le_refl _) e2, cell_keep hb3 (Nat.le_refl _) e3⟩ ?_
    refine walkC_still _ ?t2 rfl rfl rfl ?ty2 ?_
    case ty2 => intro w hS; go_simp; first | done | with_reducible rfl
    simp only [Act.put]
    try simp only [List.setIfInBounds_toArray, List.set_cons_zero, List.set_cons_succ]
    refine walkC_does _ rfl rfl ?_
    go_wp2_with fail
    refine (deny_n _ 10 b p (by rfl)).mono ?_
    rintro e w4 ⟨rfl, hb⟩
    have hb4 : Below W2.heap.size W2 w4 := hb3.trans (hb.mono hb3.size)
    have HB4 := Lib.hid (HB.out.trans (hb4.mono hz))
    have d0 := cell_keep hb4 (Nat.le_refl _) d0
    have d1 := cell_keep hb4 (Nat.le_refl _) d1
    have e0 := cell_keep hb4 (Nat.le_refl _) e0
    have e1 := cell_keep hb4 (Nat.le_refl _) e1
    have e2 := cell_keep hb4 (Nat.le_refl _) e2
    have e3 := cell_keep hb4 (Nat.le_refl _) e3
    have HC4 := Lib.hid (HC.out.below HB4.out)
    obtain ⟨T', ct', et, ht1, ht2, ht3⟩ := HTO.out.keep HB4.out
    injection et with et1 _ et3
    subst et1 et3
    unfold maxLen at ht2
    have HT3 := Lib.hid ht3
    clear hb hb3 hb4 ht3
    go_wp2
    refine behindC ⟨d0, d1, e0, e1, e2, e3⟩ (walkC_nil ?_)
    go_wp2_with fail
    go_loopw [7, 16] (fun _ i wr => ∃ k : Nat, k ≤ to.length ∧ i = .int .i64 k ∧ (to.take k).any (toB nb) = false ∧ Below w4.heap.size w4 wr) (fun _ i _ => to.length - (intOf i).toNat)
    case atStart => exact ⟨0, by omega, rfl, by simp, Below.refl _ _⟩
    case round =>
      obtain ⟨k, hk, rfl, hany, hb⟩ := hrel
      obtain ⟨wo, rfl⟩ : ∃ wo : World, wo = wr := ⟨_, rfl⟩
      have HB5 := Lib.hid hb
      have HBwo := Lib.hid (HB4.out.trans (hb.mono HB4.out.size))
      have HANY := Lib.hid hany
      by_cases hlt : k < to.length
      · obtain ⟨ad, rfl, hx0⟩ := HT3.out k hlt
        have hx := cell_keep hb (Nat.le_refl _) hx0
        have d0 := cell_keep hb (Nat.le_refl _) d0
        have d1 := cell_keep hb (Nat.le_refl _) d1
        have k1 := (HC4.out.below hb).c1
        have HTS := Lib.hid (any_take_succ hlt HANY.out)
        have HOT := Lib.hid (fun h => @any_of_take to (toB nb) (k + 1) h)
        generalize to[k] = x at *
        clear hx0 hb hany e0 e1 e2 e3
        by_cases h1 : x < 1
        · have h1b : decide (x < 1) = true := decide_eq_true h1
          have HE := Lib.hid (HOT.out (by rw [HTS.out]; unfold toB; rw [h1b]; rfl))
          clear h1
          go_wp2_with fail
          refine region_heldC_wp (fun w' => w'.cell? ⟨w.heap.size, 0, none⟩ = some (.int .i64 b) ∧ w'.cell? ⟨w.heap.size, 1, none⟩ = some (.int .i64 p) ∧ w'.cell? ⟨cb, 1, none⟩ = some (.slice AB nb cB)) [0, 1, 2, 3, 4, 5, 6, 7, 8, 9, 10, 11, 12] [0, 1, 2, 3, 4, 5, 6, 7, 8, 9, 10, 11, 12, 13] (by kernel_rfl) (by kernel_rfl) (by kernel_rfl) rfl (by intro c a d v w h; cases d <;> exact h) ⟨d0, d1, k1⟩ ?_
          refine walkC_still _ ?u0 rfl rfl rfl ?uy0 ?_
          case uy0 => intro w hS; go_simp; first | done | with_reducible rfl
          simp only [Act.put]
          refine walkC_still _ ?u1 rfl rfl rfl ?uy1 ?_
          case uy1 => intro w hS; go_simp; first | done | with_reducible rfl
          simp only [Act.put]
          refine walkC_still _ ?u2 rfl rfl rfl ?uy2 ?_
          case uy2 => intro w hS; go_simp; first | done | with_reducible rfl
          simp only [Act.put]
          refine walkC_skip _ rfl rfl (by kernel_rfl) ?_
          simp only [Act.put]
          refine walkC_skip _ rfl rfl (by kernel_rfl) ?_
          simp only [Act.put]
          refine walkC_skip _ rfl rfl (by kernel_rfl) ?_
          simp only [Act.put]
          refine walkC_skip _ rfl rfl (by kernel_rfl) ?_
          simp only [Act.put]
          refine walkC_skip _ rfl rfl (by kernel_rfl) ?_
          simp only [Act.put]
          refine walkC_skip _ rfl rfl (by kernel_rfl) ?_
          simp only [Act.put]
          refine walkC_skip _ rfl rfl (by kernel_rfl) ?_
          simp only [Act.put]
          refine walkC_skip _ rfl rfl (by kernel_rfl) ?_
          simp only [Act.put]
          refine walkC_still _ ?u11 rfl rfl rfl ?uy11 ?_
          case uy11 => intro w hS; go_simp; first | done | with_reducible rfl
          simp only [Act.put]
          refine walkC_still _ ?u12 rfl rfl rfl ?uy12 ?_
          case uy12 => intro w hS; go_simp; first | done | with_reducible rfl
          simp only [Act.put]
          try simp only [List.setIfInBounds_toArray, List.set_cons_zero, List.set_cons_succ]
          refine walkC_does _ rfl rfl ?_
          go_wp2_with fail
          refine (deny_y _ 14 b p (by rfl)).mono ?_
          rintro e w' ⟨rfl, hb⟩
          refine ⟨rfl, HP.out _ _ ?_⟩
          rw [if_pos HE.out]
          exact ⟨rfl, But.of_below (HBwo.out.drew.trans (hb.mono HBwo.out.size))⟩
        · have h1b : decide (x < 1) = false := decide_eq_false h1
          by_cases h2 : (nb : Int) ≤ x
          · have h2b : decide ((nb : Int) ≤ x) = true := decide_eq_true h2
            have HE := Lib.hid (HOT.out (by rw [HTS.out]; unfold toB; rw [h1b, h2b]; rfl))
            have H2 := Lib.hid h2
            clear h2 h2b
            go_wp2_with fail
            refine region_heldC_wp (fun w' => w'.cell? ⟨w.heap.size, 0, none⟩ = some (.int .i64 b) ∧ w'.cell? ⟨w.heap.size, 1, none⟩ = some (.int .i64 p) ∧ w'.cell? ⟨cb, 1, none⟩ = some (.slice AB nb cB)) [0, 1, 2, 3, 4, 5, 6, 7, 8, 9, 10, 11, 12] [0, 1, 2, 3, 4, 5, 6, 7, 8, 9, 10, 11, 12, 13] (by kernel_rfl) (by kernel_rfl) (by kernel_rfl) rfl (by intro c a d v w h; cases d <;> exact h) ⟨d0, d1, k1⟩ ?_
            refine walkC_still _ ?x0 rfl rfl rfl ?xy0 ?_
            case xy0 => intro w hS; go_simp; first | done | with_reducible rfl
            simp only [Act.put]
            refine walkC_still _ ?x1 rfl rfl rfl ?xy1 ?_
            case xy1 => intro w hS; go_simp; first | done | with_reducible rfl
            simp only [Act.put]
            refine walkC_still _ ?x2 rfl rfl rfl ?xy2 ?_
            case xy2 => intro w hS; go_simp; first | done | with_reducible rfl
            simp only [Act.put]
            refine walkC_still _ ?x3 rfl rfl (by kernel_rfl) ?xy3 ?_
            case xy3 => intro w hS; go_simp; first | done | with_reducible rfl
            simp only [Act.put]
            refine walkC_still _ ?x4 rfl rfl (by kernel_rfl) ?xy4 ?_
            case xy4 => intro w hS; go_simp; first | done | with_reducible rfl
            simp only [Act.put]
            refine walkC_still _ ?x5 rfl rfl (by kernel_rfl) ?xy5 ?_
            case xy5 => intro w hS; go_simp; first | done | with_reducible rfl
            simp only [Act.put]
            refine walkC_still _ ?x6 rfl rfl (by kernel_rfl) ?xy6 ?_
            case xy6 => intro w hS; go_simp; first | done | with_reducible rfl
            simp only [Act.put]
            refine walkC_still _ ?x7 rfl rfl (by kernel_rfl) ?xy7 ?_
            case xy7 => intro w hS; go_simp; first | done | with_reducible rfl
            simp only [Act.put]
            refine walkC_still _ ?x8 rfl rfl (by kernel_rfl) ?xy8 ?_
            case xy8 => intro w hS; go_simp; first | done | with_reducible rfl
            simp only [Act.put]
            refine walkC_still _ ?x9 rfl rfl (by kernel_rfl) ?xy9 ?_
            case xy9 => intro w hS; go_simp; first | done | with_reducible rfl
            simp only [Act.put]
            refine walkC_still _ ?x10 rfl rfl (by kernel_rfl) ?xy10 ?_
            case xy10 => intro w hS; go_simp; first | done | with_reducible rfl
            simp only [Act.put]
            refine walkC_still _ ?x11 rfl rfl rfl ?xy11 ?_
            case xy11 => intro w hS; go_simp; first | done | with_reducible rfl
            simp only [Act.put]
            refine walkC_still _ ?x12 rfl rfl rfl ?xy12 ?_
            case xy12 => intro w hS; go_simp; first | done | with_reducible rfl
            simp only [Act.put]
            try simp only [List.setIfInBounds_toArray, List.set_cons_zero, List.set_cons_succ]
            refine walkC_does _ rfl rfl ?_
            go_wp2_with fail
            refine (deny_y _ 14 b p (by first | exact decide_eq_true H2.out | simp [H2.out])).mono ?_
            rintro e w' ⟨rfl, hb⟩
            refine ⟨rfl, HP.out _ _ ?_⟩
            rw [if_pos HE.out]
            exact ⟨rfl, But.of_below (HBwo.out.drew.trans (hb.mono HBwo.out.size))⟩
          · have h2b : decide ((nb : Int) ≤ x) = false := decide_eq_false h2
            have HO := Lib.hid (show (to.take (k + 1)).any (toB nb) = false by rw [HTS.out]; unfold toB; rw [h1b, h2b]; rfl)
            have H2 := Lib.hid h2
            clear h2 h2b
            go_wp2_with fail
            refine region_heldC_wp (fun w' => w'.cell? ⟨w.heap.size, 0, none⟩ = some (.int .i64 b) ∧ w'.cell? ⟨w.heap.size, 1, none⟩ = some (.int .i64 p) ∧ w'.cell? ⟨cb, 1, none⟩ = some (.slice AB nb cB)) [0, 1, 2, 3, 4, 5, 6, 7, 8, 9, 10, 11, 12] [0, 1, 2, 3, 4, 5, 6, 7, 8, 9, 10, 11, 12, 13] (by kernel_rfl) (by kernel_rfl) (by kernel_rfl) rfl (by intro c a d v w h; cases d <;> exact h) ⟨d0, d1, k1⟩ ?_
            refine walkC_still _ ?y0 rfl rfl rfl ?yy0 ?_
            case yy0 => intro w hS; go_simp; first | done | with_reducible rfl
            simp only [Act.put]
            refine walkC_still _ ?y1 rfl rfl rfl ?yy1 ?_
            case yy1 => intro w hS; go_simp; first | done | with_reducible rfl
            simp only [Act.put]
            refine walkC_still _ ?y2 rfl rfl rfl ?yy2 ?_
            case yy2 => intro w hS; go_simp; first | done | with_reducible rfl
            simp only [Act.put]
            refine walkC_still _ ?y3 rfl rfl (by kernel_rfl) ?yy3 ?_
            case yy3 => intro w hS; go_simp; first | done | with_reducible rfl
            simp only [Act.put]
            refine walkC_still _ ?y4 rfl rfl (by kernel_rfl) ?yy4 ?_
            case yy4 => intro w hS; go_simp; first | done | with_reducible rfl
            simp only [Act.put]
            refine walkC_still _ ?y5 rfl rfl (by kernel_rfl) ?yy5 ?_
            case yy5 => intro w hS; go_simp; first | done | with_reducible rfl
            simp only [Act.put]
            refine walkC_still _ ?y6 rfl rfl (by kernel_rfl) ?yy6 ?_
            case yy6 => intro w hS; go_simp; first | done | with_reducible rfl
            simp only [Act.put]
            refine walkC_still _ ?y7 rfl rfl (by kernel_rfl) ?yy7 ?_
            case yy7 => intro w hS; go_simp; first | done | with_reducible rfl
            simp only [Act.put]
            refine walkC_still _ ?y8 rfl rfl (by kernel_rfl) ?yy8 ?_
            case yy8 => intro w hS; go_simp; first | done | with_reducible rfl
            simp only [Act.put]
            refine walkC_still _ ?y9 rfl rfl (by kernel_rfl) ?yy9 ?_
            case yy9 => intro w hS; go_simp; first | done | with_reducible rfl
            simp only [Act.put]
            refine walkC_still _ ?y10 rfl rfl (by kernel_rfl) ?yy10 ?_
            case yy10 => intro w hS; go_simp; first | done | with_reducible rfl
            simp only [Act.put]
            refine walkC_still _ ?y11 rfl rfl rfl ?yy11 ?_
            case yy11 => intro w hS; go_simp; first | done | with_reducible rfl
            simp only [Act.put]
            refine walkC_still _ ?y12 rfl rfl rfl ?yy12 ?_
            case yy12 => intro w hS; go_simp; first | done | with_reducible rfl
            simp only [Act.put]
            try simp only [List.setIfInBounds_toArray, List.set_cons_zero, List.set_cons_succ]
            refine walkC_does _ rfl rfl ?_
            go_wp2_with fail
            refine (deny_n _ 14 b p (by first | exact decide_eq_false H2.out | simp [H2.out])).mono ?_
            rintro e w' ⟨rfl, hb⟩
            have hbo : Below wo.heap.size wo w' := (Below.refl _ _).drew.trans hb
            have HB6 := Lib.hid (HB5.out.trans (hbo.mono HB5.out.size))
            clear hb
            go_wp2
            refine behindC ⟨cell_keep hbo (Nat.le_refl _) d0, cell_keep hbo (Nat.le_refl _) d1, cell_keep hbo (Nat.le_refl _) k1⟩ (walkC_nil ?_)
            clear hbo
            go_wp2
            go_roundw
            case rel => exact ⟨k + 1, by omega, by go_num, HO.out, HB6.out⟩
            case measure => simp [intOf]; omega
      · obtain rfl : k = to.length := by omega
        rw [List.take_length] at hany
        have HAN := Lib.hid hany
        clear hb hany HANY
        go_wp2
        go_end0
        refine HP.out _ _ ?_
        rw [if_neg (by rw [HAN.out]; exact Bool.false_ne_true)]
        exact ⟨rfl, But.of_below HBwo.out, HC.out.below HBwo.out⟩
end Go.Proofs.Ytdfehpcbcgbidaa.Kc
