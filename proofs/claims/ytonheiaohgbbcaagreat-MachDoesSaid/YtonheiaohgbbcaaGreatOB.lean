/- Stage 7's reference: what an instruction takes and makes, what an end needs. -/
import Derived.Test.YtonheiaohgbbcaaGreatOA
namespace Go.Proofs.YtonheiaohgbbcaaGreat.Mc
open Go.ChangeShapes Go.WideShapes Go.ChangeAt Go.RowKit Go.Maps Go.Proofs.YtonheiaohgbbcaaGreat.Mem Go.Proofs.YtonheiaohgbbcaaGreat.Kc Go.Proofs.YtonheiaohgbbcaaGreat.Br Go.Proofs.YtonheiaohgbbcaaGreat.Pl Go.Proofs.YtonheiaohgbbcaaGreat.Mw Go.Proofs.YtonheiaohgbbcaaGreat.Gr
set_option linter.unusedVariables false
set_option linter.unusedSimpArgs false
theorem takesN_two {op : Int} (h1 : 5 ≤ op) (h2 : op ≤ 17) : takesN op = 2 := by
  unfold takesN
  rw [if_neg (by omega), if_neg (by omega), if_neg (by omega), if_neg (by omega), if_pos ⟨h1, h2⟩]
theorem takesN_one {op : Int} (h1 : 18 ≤ op) (h2 : op ≤ 22) : takesN op = 1 := by
  unfold takesN
  rw [if_neg (by omega), if_neg (by omega), if_neg (by omega), if_neg (by omega), if_neg (by omega), if_pos ⟨h1, h2⟩]
theorem makesN_one {op : Int} (h1 : 5 ≤ op) (h2 : op ≤ 22) : makesN op = 1 := by
  unfold makesN
  rw [if_neg (by omega), if_neg (by omega), if_neg (by omega), if_neg (by omega), if_neg (by omega), if_pos ⟨by omega, by omega⟩]
set_option maxRecDepth 100000 in
set_option maxHeartbeats 8000000 in
theorem rtakes_any (w : World) (i : PMach) (A : Option Addr) (n k : Nat) (hv : Ints w (.slice A n k) i.args) (hl : i.args.length ≤ 1000000) :
    Calls Tryz.prog 23 #[.agg #[.int .i64 i.op, .int .i64 i.d, .int .i64 i.e, .int .i64 i.a, .int .i64 i.b, .int .i64 i.c, .int .i32 i.imm, .slice A n k]] w (RowPost (takesL i) w) := by
  obtain ⟨op, d, e, a, b, c, imm, args⟩ := i
  simp only at *
  have HV := Lib.hid hv
  clear hv
  rcases (show op = 1 ∨ op = 2 ∨ op = 3 ∨ op = 4 ∨ (5 ≤ op ∧ op ≤ 17) ∨ (18 ≤ op ∧ op ≤ 22) ∨ op = 23 ∨ op = 24 ∨ op = 25 ∨ op = 26 ∨ op = 27 ∨ op = 28 ∨ op = 29 ∨ op = 30 ∨ op = 31 ∨ op < 1 ∨ 31 < op by omega) with h | h | h | h | h | h | h | h | h | h | h | h | h | h | h | h | h
  · subst h
    have HT := Lib.hid (show takesL ⟨1, d, e, a, b, c, imm, args⟩ = [a] from rfl)
    go_enter Tryz.func23, Tryz.ntmps23
    go_upto_region 1 with (fail)
    obtain ⟨W1, hW1⟩ : ∃ W1, w.alloc (.cells #[.int .i64 1, .int .i64 d, .int .i64 e, .int .i64 a, .int .i64 b, .int .i64 c, .int .i32 imm, .slice A n k] 40) = W1 := ⟨_, rfl⟩
    have hbW1 : Below w.heap.size w W1 := by rw [← hW1]; exact (Below.refl _ _).alloc (Nat.le_refl _) _
    have hsW1 : Str W1 w.heap.size 40 [.int .i64 1, .int .i64 d, .int .i64 e, .int .i64 a, .int .i64 b, .int .i64 c, .int .i32 imm, .slice A n k] := by rw [← hW1]; exact World.alloc_heap_new w _
    rw [hW1]
    clear hW1
    have m0 : W1.cell? ⟨w.heap.size, 0, none⟩ = some (.int .i64 1) := hsW1.cell 0
    have m1 : W1.cell? ⟨w.heap.size, 1, none⟩ = some (.int .i64 d) := hsW1.cell 1
    have m2 : W1.cell? ⟨w.heap.size, 2, none⟩ = some (.int .i64 e) := hsW1.cell 2
    have m3 : W1.cell? ⟨w.heap.size, 3, none⟩ = some (.int .i64 a) := hsW1.cell 3
    have m4 : W1.cell? ⟨w.heap.size, 4, none⟩ = some (.int .i64 b) := hsW1.cell 4
    have m5 : W1.cell? ⟨w.heap.size, 5, none⟩ = some (.int .i64 c) := hsW1.cell 5
    have m6 : W1.cell? ⟨w.heap.size, 6, none⟩ = some (.int .i32 imm) := hsW1.cell 6
    have m7 : W1.cell? ⟨w.heap.size, 7, none⟩ = some (.slice A n k) := hsW1.cell 7
    have HB := Lib.hid hbW1
    clear hsW1 hbW1
    go_wp2
    go_ret
    refine ⟨_, rfl, ?_, HB.out.alloc HB.out.size _⟩
    rw [HT.out]
    exact World.ownsRow_lit W1 #[.int .i64 a] 1 HB.out.size (by decide) rfl
  · subst h
    have HT := Lib.hid (show takesL ⟨2, d, e, a, b, c, imm, args⟩ = [a, b] from rfl)
    go_enter Tryz.func23, Tryz.ntmps23
    go_upto_region 1 with (fail)
    obtain ⟨W1, hW1⟩ : ∃ W1, w.alloc (.cells #[.int .i64 2, .int .i64 d, .int .i64 e, .int .i64 a, .int .i64 b, .int .i64 c, .int .i32 imm, .slice A n k] 40) = W1 := ⟨_, rfl⟩
    have hbW1 : Below w.heap.size w W1 := by rw [← hW1]; exact (Below.refl _ _).alloc (Nat.le_refl _) _
    have hsW1 : Str W1 w.heap.size 40 [.int .i64 2, .int .i64 d, .int .i64 e, .int .i64 a, .int .i64 b, .int .i64 c, .int .i32 imm, .slice A n k] := by rw [← hW1]; exact World.alloc_heap_new w _
    rw [hW1]
    clear hW1
    have m0 : W1.cell? ⟨w.heap.size, 0, none⟩ = some (.int .i64 2) := hsW1.cell 0
    have m1 : W1.cell? ⟨w.heap.size, 1, none⟩ = some (.int .i64 d) := hsW1.cell 1
    have m2 : W1.cell? ⟨w.heap.size, 2, none⟩ = some (.int .i64 e) := hsW1.cell 2
    have m3 : W1.cell? ⟨w.heap.size, 3, none⟩ = some (.int .i64 a) := hsW1.cell 3
    have m4 : W1.cell? ⟨w.heap.size, 4, none⟩ = some (.int .i64 b) := hsW1.cell 4
    have m5 : W1.cell? ⟨w.heap.size, 5, none⟩ = some (.int .i64 c) := hsW1.cell 5
    have m6 : W1.cell? ⟨w.heap.size, 6, none⟩ = some (.int .i32 imm) := hsW1.cell 6
    have m7 : W1.cell? ⟨w.heap.size, 7, none⟩ = some (.slice A n k) := hsW1.cell 7
    have HB := Lib.hid hbW1
    clear hsW1 hbW1
    go_wp2
    go_ret
    refine ⟨_, rfl, ?_, HB.out.alloc HB.out.size _⟩
    rw [HT.out]
    exact World.ownsRow_lit W1 #[.int .i64 a, .int .i64 b] 2 HB.out.size (by decide) rfl
  · subst h
    have HT := Lib.hid (show takesL ⟨3, d, e, a, b, c, imm, args⟩ = [] from rfl)
    go_enter Tryz.func23, Tryz.ntmps23
    go_upto_region 1 with (fail)
    obtain ⟨W1, hW1⟩ : ∃ W1, w.alloc (.cells #[.int .i64 3, .int .i64 d, .int .i64 e, .int .i64 a, .int .i64 b, .int .i64 c, .int .i32 imm, .slice A n k] 40) = W1 := ⟨_, rfl⟩
    have hbW1 : Below w.heap.size w W1 := by rw [← hW1]; exact (Below.refl _ _).alloc (Nat.le_refl _) _
    have hsW1 : Str W1 w.heap.size 40 [.int .i64 3, .int .i64 d, .int .i64 e, .int .i64 a, .int .i64 b, .int .i64 c, .int .i32 imm, .slice A n k] := by rw [← hW1]; exact World.alloc_heap_new w _
    rw [hW1]
    clear hW1
    have m0 : W1.cell? ⟨w.heap.size, 0, none⟩ = some (.int .i64 3) := hsW1.cell 0
    have m1 : W1.cell? ⟨w.heap.size, 1, none⟩ = some (.int .i64 d) := hsW1.cell 1
    have m2 : W1.cell? ⟨w.heap.size, 2, none⟩ = some (.int .i64 e) := hsW1.cell 2
    have m3 : W1.cell? ⟨w.heap.size, 3, none⟩ = some (.int .i64 a) := hsW1.cell 3
    have m4 : W1.cell? ⟨w.heap.size, 4, none⟩ = some (.int .i64 b) := hsW1.cell 4
    have m5 : W1.cell? ⟨w.heap.size, 5, none⟩ = some (.int .i64 c) := hsW1.cell 5
    have m6 : W1.cell? ⟨w.heap.size, 6, none⟩ = some (.int .i32 imm) := hsW1.cell 6
    have m7 : W1.cell? ⟨w.heap.size, 7, none⟩ = some (.slice A n k) := hsW1.cell 7
    have HB := Lib.hid hbW1
    clear hsW1 hbW1
    go_wp2
    go_ret
    refine ⟨_, rfl, ?_, HB.out⟩
    rw [HT.out]
    exact World.ownsRow_nil _ _ _ _
  · subst h
    have HT := Lib.hid (show takesL ⟨4, d, e, a, b, c, imm, args⟩ = [] from rfl)
    go_enter Tryz.func23, Tryz.ntmps23
    go_upto_region 1 with (fail)
    obtain ⟨W1, hW1⟩ : ∃ W1, w.alloc (.cells #[.int .i64 4, .int .i64 d, .int .i64 e, .int .i64 a, .int .i64 b, .int .i64 c, .int .i32 imm, .slice A n k] 40) = W1 := ⟨_, rfl⟩
    have hbW1 : Below w.heap.size w W1 := by rw [← hW1]; exact (Below.refl _ _).alloc (Nat.le_refl _) _
    have hsW1 : Str W1 w.heap.size 40 [.int .i64 4, .int .i64 d, .int .i64 e, .int .i64 a, .int .i64 b, .int .i64 c, .int .i32 imm, .slice A n k] := by rw [← hW1]; exact World.alloc_heap_new w _
    rw [hW1]
    clear hW1
    have m0 : W1.cell? ⟨w.heap.size, 0, none⟩ = some (.int .i64 4) := hsW1.cell 0
    have m1 : W1.cell? ⟨w.heap.size, 1, none⟩ = some (.int .i64 d) := hsW1.cell 1
    have m2 : W1.cell? ⟨w.heap.size, 2, none⟩ = some (.int .i64 e) := hsW1.cell 2
    have m3 : W1.cell? ⟨w.heap.size, 3, none⟩ = some (.int .i64 a) := hsW1.cell 3
    have m4 : W1.cell? ⟨w.heap.size, 4, none⟩ = some (.int .i64 b) := hsW1.cell 4
    have m5 : W1.cell? ⟨w.heap.size, 5, none⟩ = some (.int .i64 c) := hsW1.cell 5
    have m6 : W1.cell? ⟨w.heap.size, 6, none⟩ = some (.int .i32 imm) := hsW1.cell 6
    have m7 : W1.cell? ⟨w.heap.size, 7, none⟩ = some (.slice A n k) := hsW1.cell 7
    have HB := Lib.hid hbW1
    clear hsW1 hbW1
    go_wp2
    go_ret
    refine ⟨_, rfl, ?_, HB.out⟩
    rw [HT.out]
    exact World.ownsRow_nil _ _ _ _
  · obtain ⟨h1, h2⟩ := h
    have g1 : (op == 1) = false := beq_eq_false_iff_ne.2 (by omega)
    have g24 : (op == 24) = false := beq_eq_false_iff_ne.2 (by omega)
    have g31 : (op == 31) = false := beq_eq_false_iff_ne.2 (by omega)
    have g2 : (op == 2) = false := beq_eq_false_iff_ne.2 (by omega)
    have g25 : (op == 25) = false := beq_eq_false_iff_ne.2 (by omega)
    have g26 : (op == 26) = false := beq_eq_false_iff_ne.2 (by omega)
    have g29 : (op == 29) = false := beq_eq_false_iff_ne.2 (by omega)
    have g23 : (op == 23) = false := beq_eq_false_iff_ne.2 (by omega)
    have g27 : (op == 27) = false := beq_eq_false_iff_ne.2 (by omega)
    have g28 : (op == 28) = false := beq_eq_false_iff_ne.2 (by omega)
    have HT := Lib.hid (show takesL ⟨op, d, e, a, b, c, imm, args⟩ = [a, b] from by unfold takesL; rw [if_neg (by simp only; omega), show takesN _ = 2 from takesN_two h1 h2]; rfl)
    go_enter Tryz.func23, Tryz.ntmps23
    go_upto_region 1 with (fail)
    obtain ⟨W1, hW1⟩ : ∃ W1, w.alloc (.cells #[.int .i64 op, .int .i64 d, .int .i64 e, .int .i64 a, .int .i64 b, .int .i64 c, .int .i32 imm, .slice A n k] 40) = W1 := ⟨_, rfl⟩
    have hbW1 : Below w.heap.size w W1 := by rw [← hW1]; exact (Below.refl _ _).alloc (Nat.le_refl _) _
    have hsW1 : Str W1 w.heap.size 40 [.int .i64 op, .int .i64 d, .int .i64 e, .int .i64 a, .int .i64 b, .int .i64 c, .int .i32 imm, .slice A n k] := by rw [← hW1]; exact World.alloc_heap_new w _
    rw [hW1]
    clear hW1
    have m0 : W1.cell? ⟨w.heap.size, 0, none⟩ = some (.int .i64 op) := hsW1.cell 0
    have m1 : W1.cell? ⟨w.heap.size, 1, none⟩ = some (.int .i64 d) := hsW1.cell 1
    have m2 : W1.cell? ⟨w.heap.size, 2, none⟩ = some (.int .i64 e) := hsW1.cell 2
    have m3 : W1.cell? ⟨w.heap.size, 3, none⟩ = some (.int .i64 a) := hsW1.cell 3
    have m4 : W1.cell? ⟨w.heap.size, 4, none⟩ = some (.int .i64 b) := hsW1.cell 4
    have m5 : W1.cell? ⟨w.heap.size, 5, none⟩ = some (.int .i64 c) := hsW1.cell 5
    have m6 : W1.cell? ⟨w.heap.size, 6, none⟩ = some (.int .i32 imm) := hsW1.cell 6
    have m7 : W1.cell? ⟨w.heap.size, 7, none⟩ = some (.slice A n k) := hsW1.cell 7
    have HB := Lib.hid hbW1
    clear hsW1 hbW1
    go_wp2
    go_ret
    refine ⟨_, rfl, ?_, HB.out.alloc HB.out.size _⟩
    rw [HT.out]
    exact World.ownsRow_lit W1 #[.int .i64 a, .int .i64 b] 2 HB.out.size (by decide) rfl
  · obtain ⟨h1, h2⟩ := h
    have g1 : (op == 1) = false := beq_eq_false_iff_ne.2 (by omega)
    have g24 : (op == 24) = false := beq_eq_false_iff_ne.2 (by omega)
    have g31 : (op == 31) = false := beq_eq_false_iff_ne.2 (by omega)
    have g2 : (op == 2) = false := beq_eq_false_iff_ne.2 (by omega)
    have g25 : (op == 25) = false := beq_eq_false_iff_ne.2 (by omega)
    have g26 : (op == 26) = false := beq_eq_false_iff_ne.2 (by omega)
    have g29 : (op == 29) = false := beq_eq_false_iff_ne.2 (by omega)
    have g23 : (op == 23) = false := beq_eq_false_iff_ne.2 (by omega)
    have g27 : (op == 27) = false := beq_eq_false_iff_ne.2 (by omega)
    have g28 : (op == 28) = false := beq_eq_false_iff_ne.2 (by omega)
    have HT := Lib.hid (show takesL ⟨op, d, e, a, b, c, imm, args⟩ = [a] from by unfold takesL; rw [if_neg (by simp only; omega), show takesN _ = 1 from takesN_one h1 h2]; rfl)
    go_enter Tryz.func23, Tryz.ntmps23
    go_upto_region 1 with (fail)
    obtain ⟨W1, hW1⟩ : ∃ W1, w.alloc (.cells #[.int .i64 op, .int .i64 d, .int .i64 e, .int .i64 a, .int .i64 b, .int .i64 c, .int .i32 imm, .slice A n k] 40) = W1 := ⟨_, rfl⟩
    have hbW1 : Below w.heap.size w W1 := by rw [← hW1]; exact (Below.refl _ _).alloc (Nat.le_refl _) _
    have hsW1 : Str W1 w.heap.size 40 [.int .i64 op, .int .i64 d, .int .i64 e, .int .i64 a, .int .i64 b, .int .i64 c, .int .i32 imm, .slice A n k] := by rw [← hW1]; exact World.alloc_heap_new w _
    rw [hW1]
    clear hW1
    have m0 : W1.cell? ⟨w.heap.size, 0, none⟩ = some (.int .i64 op) := hsW1.cell 0
    have m1 : W1.cell? ⟨w.heap.size, 1, none⟩ = some (.int .i64 d) := hsW1.cell 1
    have m2 : W1.cell? ⟨w.heap.size, 2, none⟩ = some (.int .i64 e) := hsW1.cell 2
    have m3 : W1.cell? ⟨w.heap.size, 3, none⟩ = some (.int .i64 a) := hsW1.cell 3
    have m4 : W1.cell? ⟨w.heap.size, 4, none⟩ = some (.int .i64 b) := hsW1.cell 4
    have m5 : W1.cell? ⟨w.heap.size, 5, none⟩ = some (.int .i64 c) := hsW1.cell 5
    have m6 : W1.cell? ⟨w.heap.size, 6, none⟩ = some (.int .i32 imm) := hsW1.cell 6
    have m7 : W1.cell? ⟨w.heap.size, 7, none⟩ = some (.slice A n k) := hsW1.cell 7
    have HB := Lib.hid hbW1
    clear hsW1 hbW1
    go_wp2
    go_ret
    refine ⟨_, rfl, ?_, HB.out.alloc HB.out.size _⟩
    rw [HT.out]
    exact World.ownsRow_lit W1 #[.int .i64 a] 1 HB.out.size (by decide) rfl
  · subst h
    have HT := Lib.hid (show takesL ⟨23, d, e, a, b, c, imm, args⟩ = [a, b, c] from rfl)
    go_enter Tryz.func23, Tryz.ntmps23
    go_upto_region 1 with (fail)
    obtain ⟨W1, hW1⟩ : ∃ W1, w.alloc (.cells #[.int .i64 23, .int .i64 d, .int .i64 e, .int .i64 a, .int .i64 b, .int .i64 c, .int .i32 imm, .slice A n k] 40) = W1 := ⟨_, rfl⟩
    have hbW1 : Below w.heap.size w W1 := by rw [← hW1]; exact (Below.refl _ _).alloc (Nat.le_refl _) _
    have hsW1 : Str W1 w.heap.size 40 [.int .i64 23, .int .i64 d, .int .i64 e, .int .i64 a, .int .i64 b, .int .i64 c, .int .i32 imm, .slice A n k] := by rw [← hW1]; exact World.alloc_heap_new w _
    rw [hW1]
    clear hW1
    have m0 : W1.cell? ⟨w.heap.size, 0, none⟩ = some (.int .i64 23) := hsW1.cell 0
    have m1 : W1.cell? ⟨w.heap.size, 1, none⟩ = some (.int .i64 d) := hsW1.cell 1
    have m2 : W1.cell? ⟨w.heap.size, 2, none⟩ = some (.int .i64 e) := hsW1.cell 2
    have m3 : W1.cell? ⟨w.heap.size, 3, none⟩ = some (.int .i64 a) := hsW1.cell 3
    have m4 : W1.cell? ⟨w.heap.size, 4, none⟩ = some (.int .i64 b) := hsW1.cell 4
    have m5 : W1.cell? ⟨w.heap.size, 5, none⟩ = some (.int .i64 c) := hsW1.cell 5
    have m6 : W1.cell? ⟨w.heap.size, 6, none⟩ = some (.int .i32 imm) := hsW1.cell 6
    have m7 : W1.cell? ⟨w.heap.size, 7, none⟩ = some (.slice A n k) := hsW1.cell 7
    have HB := Lib.hid hbW1
    clear hsW1 hbW1
    go_wp2
    go_ret
    refine ⟨_, rfl, ?_, HB.out.alloc HB.out.size _⟩
    rw [HT.out]
    exact World.ownsRow_lit W1 #[.int .i64 a, .int .i64 b, .int .i64 c] 3 HB.out.size (by decide) rfl
  · subst h
    have HT := Lib.hid (show takesL ⟨24, d, e, a, b, c, imm, args⟩ = [a] from rfl)
    go_enter Tryz.func23, Tryz.ntmps23
    go_upto_region 1 with (fail)
    obtain ⟨W1, hW1⟩ : ∃ W1, w.alloc (.cells #[.int .i64 24, .int .i64 d, .int .i64 e, .int .i64 a, .int .i64 b, .int .i64 c, .int .i32 imm, .slice A n k] 40) = W1 := ⟨_, rfl⟩
    have hbW1 : Below w.heap.size w W1 := by rw [← hW1]; exact (Below.refl _ _).alloc (Nat.le_refl _) _
    have hsW1 : Str W1 w.heap.size 40 [.int .i64 24, .int .i64 d, .int .i64 e, .int .i64 a, .int .i64 b, .int .i64 c, .int .i32 imm, .slice A n k] := by rw [← hW1]; exact World.alloc_heap_new w _
    rw [hW1]
    clear hW1
    have m0 : W1.cell? ⟨w.heap.size, 0, none⟩ = some (.int .i64 24) := hsW1.cell 0
    have m1 : W1.cell? ⟨w.heap.size, 1, none⟩ = some (.int .i64 d) := hsW1.cell 1
    have m2 : W1.cell? ⟨w.heap.size, 2, none⟩ = some (.int .i64 e) := hsW1.cell 2
    have m3 : W1.cell? ⟨w.heap.size, 3, none⟩ = some (.int .i64 a) := hsW1.cell 3
    have m4 : W1.cell? ⟨w.heap.size, 4, none⟩ = some (.int .i64 b) := hsW1.cell 4
    have m5 : W1.cell? ⟨w.heap.size, 5, none⟩ = some (.int .i64 c) := hsW1.cell 5
    have m6 : W1.cell? ⟨w.heap.size, 6, none⟩ = some (.int .i32 imm) := hsW1.cell 6
    have m7 : W1.cell? ⟨w.heap.size, 7, none⟩ = some (.slice A n k) := hsW1.cell 7
    have HB := Lib.hid hbW1
    clear hsW1 hbW1
    go_wp2
    go_ret
    refine ⟨_, rfl, ?_, HB.out.alloc HB.out.size _⟩
    rw [HT.out]
    exact World.ownsRow_lit W1 #[.int .i64 a] 1 HB.out.size (by decide) rfl
  · subst h
    have HT := Lib.hid (show takesL ⟨25, d, e, a, b, c, imm, args⟩ = [a, b] from rfl)
    go_enter Tryz.func23, Tryz.ntmps23
    go_upto_region 1 with (fail)
    obtain ⟨W1, hW1⟩ : ∃ W1, w.alloc (.cells #[.int .i64 25, .int .i64 d, .int .i64 e, .int .i64 a, .int .i64 b, .int .i64 c, .int .i32 imm, .slice A n k] 40) = W1 := ⟨_, rfl⟩
    have hbW1 : Below w.heap.size w W1 := by rw [← hW1]; exact (Below.refl _ _).alloc (Nat.le_refl _) _
    have hsW1 : Str W1 w.heap.size 40 [.int .i64 25, .int .i64 d, .int .i64 e, .int .i64 a, .int .i64 b, .int .i64 c, .int .i32 imm, .slice A n k] := by rw [← hW1]; exact World.alloc_heap_new w _
    rw [hW1]
    clear hW1
    have m0 : W1.cell? ⟨w.heap.size, 0, none⟩ = some (.int .i64 25) := hsW1.cell 0
    have m1 : W1.cell? ⟨w.heap.size, 1, none⟩ = some (.int .i64 d) := hsW1.cell 1
    have m2 : W1.cell? ⟨w.heap.size, 2, none⟩ = some (.int .i64 e) := hsW1.cell 2
    have m3 : W1.cell? ⟨w.heap.size, 3, none⟩ = some (.int .i64 a) := hsW1.cell 3
    have m4 : W1.cell? ⟨w.heap.size, 4, none⟩ = some (.int .i64 b) := hsW1.cell 4
    have m5 : W1.cell? ⟨w.heap.size, 5, none⟩ = some (.int .i64 c) := hsW1.cell 5
    have m6 : W1.cell? ⟨w.heap.size, 6, none⟩ = some (.int .i32 imm) := hsW1.cell 6
    have m7 : W1.cell? ⟨w.heap.size, 7, none⟩ = some (.slice A n k) := hsW1.cell 7
    have HB := Lib.hid hbW1
    clear hsW1 hbW1
    go_wp2
    go_ret
    refine ⟨_, rfl, ?_, HB.out.alloc HB.out.size _⟩
    rw [HT.out]
    exact World.ownsRow_lit W1 #[.int .i64 a, .int .i64 b] 2 HB.out.size (by decide) rfl
  · subst h
    have HT := Lib.hid (show takesL ⟨26, d, e, a, b, c, imm, args⟩ = [a, b] from rfl)
    go_enter Tryz.func23, Tryz.ntmps23
    go_upto_region 1 with (fail)
    obtain ⟨W1, hW1⟩ : ∃ W1, w.alloc (.cells #[.int .i64 26, .int .i64 d, .int .i64 e, .int .i64 a, .int .i64 b, .int .i64 c, .int .i32 imm, .slice A n k] 40) = W1 := ⟨_, rfl⟩
    have hbW1 : Below w.heap.size w W1 := by rw [← hW1]; exact (Below.refl _ _).alloc (Nat.le_refl _) _
    have hsW1 : Str W1 w.heap.size 40 [.int .i64 26, .int .i64 d, .int .i64 e, .int .i64 a, .int .i64 b, .int .i64 c, .int .i32 imm, .slice A n k] := by rw [← hW1]; exact World.alloc_heap_new w _
    rw [hW1]
    clear hW1
    have m0 : W1.cell? ⟨w.heap.size, 0, none⟩ = some (.int .i64 26) := hsW1.cell 0
    have m1 : W1.cell? ⟨w.heap.size, 1, none⟩ = some (.int .i64 d) := hsW1.cell 1
    have m2 : W1.cell? ⟨w.heap.size, 2, none⟩ = some (.int .i64 e) := hsW1.cell 2
    have m3 : W1.cell? ⟨w.heap.size, 3, none⟩ = some (.int .i64 a) := hsW1.cell 3
    have m4 : W1.cell? ⟨w.heap.size, 4, none⟩ = some (.int .i64 b) := hsW1.cell 4
    have m5 : W1.cell? ⟨w.heap.size, 5, none⟩ = some (.int .i64 c) := hsW1.cell 5
    have m6 : W1.cell? ⟨w.heap.size, 6, none⟩ = some (.int .i32 imm) := hsW1.cell 6
    have m7 : W1.cell? ⟨w.heap.size, 7, none⟩ = some (.slice A n k) := hsW1.cell 7
    have HB := Lib.hid hbW1
    clear hsW1 hbW1
    go_wp2
    go_ret
    refine ⟨_, rfl, ?_, HB.out.alloc HB.out.size _⟩
    rw [HT.out]
    exact World.ownsRow_lit W1 #[.int .i64 a, .int .i64 b] 2 HB.out.size (by decide) rfl
  · subst h
    have HT := Lib.hid (show takesL ⟨27, d, e, a, b, c, imm, args⟩ = [a, b, c] from rfl)
    go_enter Tryz.func23, Tryz.ntmps23
    go_upto_region 1 with (fail)
    obtain ⟨W1, hW1⟩ : ∃ W1, w.alloc (.cells #[.int .i64 27, .int .i64 d, .int .i64 e, .int .i64 a, .int .i64 b, .int .i64 c, .int .i32 imm, .slice A n k] 40) = W1 := ⟨_, rfl⟩
    have hbW1 : Below w.heap.size w W1 := by rw [← hW1]; exact (Below.refl _ _).alloc (Nat.le_refl _) _
    have hsW1 : Str W1 w.heap.size 40 [.int .i64 27, .int .i64 d, .int .i64 e, .int .i64 a, .int .i64 b, .int .i64 c, .int .i32 imm, .slice A n k] := by rw [← hW1]; exact World.alloc_heap_new w _
    rw [hW1]
    clear hW1
    have m0 : W1.cell? ⟨w.heap.size, 0, none⟩ = some (.int .i64 27) := hsW1.cell 0
    have m1 : W1.cell? ⟨w.heap.size, 1, none⟩ = some (.int .i64 d) := hsW1.cell 1
    have m2 : W1.cell? ⟨w.heap.size, 2, none⟩ = some (.int .i64 e) := hsW1.cell 2
    have m3 : W1.cell? ⟨w.heap.size, 3, none⟩ = some (.int .i64 a) := hsW1.cell 3
    have m4 : W1.cell? ⟨w.heap.size, 4, none⟩ = some (.int .i64 b) := hsW1.cell 4
    have m5 : W1.cell? ⟨w.heap.size, 5, none⟩ = some (.int .i64 c) := hsW1.cell 5
    have m6 : W1.cell? ⟨w.heap.size, 6, none⟩ = some (.int .i32 imm) := hsW1.cell 6
    have m7 : W1.cell? ⟨w.heap.size, 7, none⟩ = some (.slice A n k) := hsW1.cell 7
    have HB := Lib.hid hbW1
    clear hsW1 hbW1
    go_wp2
    go_ret
    refine ⟨_, rfl, ?_, HB.out.alloc HB.out.size _⟩
    rw [HT.out]
    exact World.ownsRow_lit W1 #[.int .i64 a, .int .i64 b, .int .i64 c] 3 HB.out.size (by decide) rfl
  · subst h
    have HT := Lib.hid (show takesL ⟨28, d, e, a, b, c, imm, args⟩ = args from rfl)
    go_enter Tryz.func23, Tryz.ntmps23
    go_upto_region 1 with (fail)
    obtain ⟨W1, hW1⟩ : ∃ W1, w.alloc (.cells #[.int .i64 28, .int .i64 d, .int .i64 e, .int .i64 a, .int .i64 b, .int .i64 c, .int .i32 imm, .slice A n k] 40) = W1 := ⟨_, rfl⟩
    have hbW1 : Below w.heap.size w W1 := by rw [← hW1]; exact (Below.refl _ _).alloc (Nat.le_refl _) _
    have hsW1 : Str W1 w.heap.size 40 [.int .i64 28, .int .i64 d, .int .i64 e, .int .i64 a, .int .i64 b, .int .i64 c, .int .i32 imm, .slice A n k] := by rw [← hW1]; exact World.alloc_heap_new w _
    rw [hW1]
    clear hW1
    have m0 : W1.cell? ⟨w.heap.size, 0, none⟩ = some (.int .i64 28) := hsW1.cell 0
    have m1 : W1.cell? ⟨w.heap.size, 1, none⟩ = some (.int .i64 d) := hsW1.cell 1
    have m2 : W1.cell? ⟨w.heap.size, 2, none⟩ = some (.int .i64 e) := hsW1.cell 2
    have m3 : W1.cell? ⟨w.heap.size, 3, none⟩ = some (.int .i64 a) := hsW1.cell 3
    have m4 : W1.cell? ⟨w.heap.size, 4, none⟩ = some (.int .i64 b) := hsW1.cell 4
    have m5 : W1.cell? ⟨w.heap.size, 5, none⟩ = some (.int .i64 c) := hsW1.cell 5
    have m6 : W1.cell? ⟨w.heap.size, 6, none⟩ = some (.int .i32 imm) := hsW1.cell 6
    have m7 : W1.cell? ⟨w.heap.size, 7, none⟩ = some (.slice A n k) := hsW1.cell 7
    have HB := Lib.hid hbW1
    have HV1 := Lib.hid (HV.out.keep hbW1)
    have m7b : (W1.alloc (.cells #[] 3)).cell? ⟨w.heap.size, 7, none⟩ = some (.slice A n k) := cell_keep ((Below.refl _ _).alloc (Nat.le_refl _) _) (Nat.le_refl _) m7
    clear hsW1 hbW1
    go_wp2_with (at_builtin; refine wpList_own0i rfl _ _ rfl rfl W1.heap.size _ args rfl (empty_own W1 _ 1) ?c1 ?c2 ?c3 ?_)
    case c1 => exact HV1.out.keep ((Below.refl _ _).alloc (Nat.le_refl _) _)
    case c2 => exact hl
    case c3 => simp
    intro v' w3 ho hg3
    have hb3 := below_of_own ((Below.refl W1.heap.size W1).alloc (Nat.le_refl _) _) hg3 (fun g hg => by have e2 : W1.heap.size = g := Option.some.inj hg; omega)
    have HO := Lib.hid (own_base (show w3.ownsRow _ _ _ _ _ _ from ho) HB.out.size)
    have HB3 := Lib.hid (HB.out.trans (hb3.mono HB.out.size))
    clear ho hg3 hb3
    go_wp2
    go_ret
    exact ⟨v', rfl, by rw [HT.out]; exact HO.out, HB3.out⟩
  · subst h
    have HT := Lib.hid (show takesL ⟨29, d, e, a, b, c, imm, args⟩ = [a, b] from rfl)
    go_enter Tryz.func23, Tryz.ntmps23
    go_upto_region 1 with (fail)
    obtain ⟨W1, hW1⟩ : ∃ W1, w.alloc (.cells #[.int .i64 29, .int .i64 d, .int .i64 e, .int .i64 a, .int .i64 b, .int .i64 c, .int .i32 imm, .slice A n k] 40) = W1 := ⟨_, rfl⟩
    have hbW1 : Below w.heap.size w W1 := by rw [← hW1]; exact (Below.refl _ _).alloc (Nat.le_refl _) _
    have hsW1 : Str W1 w.heap.size 40 [.int .i64 29, .int .i64 d, .int .i64 e, .int .i64 a, .int .i64 b, .int .i64 c, .int .i32 imm, .slice A n k] := by rw [← hW1]; exact World.alloc_heap_new w _
    rw [hW1]
    clear hW1
    have m0 : W1.cell? ⟨w.heap.size, 0, none⟩ = some (.int .i64 29) := hsW1.cell 0
    have m1 : W1.cell? ⟨w.heap.size, 1, none⟩ = some (.int .i64 d) := hsW1.cell 1
    have m2 : W1.cell? ⟨w.heap.size, 2, none⟩ = some (.int .i64 e) := hsW1.cell 2
    have m3 : W1.cell? ⟨w.heap.size, 3, none⟩ = some (.int .i64 a) := hsW1.cell 3
    have m4 : W1.cell? ⟨w.heap.size, 4, none⟩ = some (.int .i64 b) := hsW1.cell 4
    have m5 : W1.cell? ⟨w.heap.size, 5, none⟩ = some (.int .i64 c) := hsW1.cell 5
    have m6 : W1.cell? ⟨w.heap.size, 6, none⟩ = some (.int .i32 imm) := hsW1.cell 6
    have m7 : W1.cell? ⟨w.heap.size, 7, none⟩ = some (.slice A n k) := hsW1.cell 7
    have HB := Lib.hid hbW1
    clear hsW1 hbW1
    go_wp2
    go_ret
    refine ⟨_, rfl, ?_, HB.out.alloc HB.out.size _⟩
    rw [HT.out]
    exact World.ownsRow_lit W1 #[.int .i64 a, .int .i64 b] 2 HB.out.size (by decide) rfl
  · subst h
    have HT := Lib.hid (show takesL ⟨30, d, e, a, b, c, imm, args⟩ = [] from rfl)
    go_enter Tryz.func23, Tryz.ntmps23
    go_upto_region 1 with (fail)
    obtain ⟨W1, hW1⟩ : ∃ W1, w.alloc (.cells #[.int .i64 30, .int .i64 d, .int .i64 e, .int .i64 a, .int .i64 b, .int .i64 c, .int .i32 imm, .slice A n k] 40) = W1 := ⟨_, rfl⟩
    have hbW1 : Below w.heap.size w W1 := by rw [← hW1]; exact (Below.refl _ _).alloc (Nat.le_refl _) _
    have hsW1 : Str W1 w.heap.size 40 [.int .i64 30, .int .i64 d, .int .i64 e, .int .i64 a, .int .i64 b, .int .i64 c, .int .i32 imm, .slice A n k] := by rw [← hW1]; exact World.alloc_heap_new w _
    rw [hW1]
    clear hW1
    have m0 : W1.cell? ⟨w.heap.size, 0, none⟩ = some (.int .i64 30) := hsW1.cell 0
    have m1 : W1.cell? ⟨w.heap.size, 1, none⟩ = some (.int .i64 d) := hsW1.cell 1
    have m2 : W1.cell? ⟨w.heap.size, 2, none⟩ = some (.int .i64 e) := hsW1.cell 2
    have m3 : W1.cell? ⟨w.heap.size, 3, none⟩ = some (.int .i64 a) := hsW1.cell 3
    have m4 : W1.cell? ⟨w.heap.size, 4, none⟩ = some (.int .i64 b) := hsW1.cell 4
    have m5 : W1.cell? ⟨w.heap.size, 5, none⟩ = some (.int .i64 c) := hsW1.cell 5
    have m6 : W1.cell? ⟨w.heap.size, 6, none⟩ = some (.int .i32 imm) := hsW1.cell 6
    have m7 : W1.cell? ⟨w.heap.size, 7, none⟩ = some (.slice A n k) := hsW1.cell 7
    have HB := Lib.hid hbW1
    clear hsW1 hbW1
    go_wp2
    go_ret
    refine ⟨_, rfl, ?_, HB.out⟩
    rw [HT.out]
    exact World.ownsRow_nil _ _ _ _
  · subst h
    have HT := Lib.hid (show takesL ⟨31, d, e, a, b, c, imm, args⟩ = [a] from rfl)
    go_enter Tryz.func23, Tryz.ntmps23
    go_upto_region 1 with (fail)
    obtain ⟨W1, hW1⟩ : ∃ W1, w.alloc (.cells #[.int .i64 31, .int .i64 d, .int .i64 e, .int .i64 a, .int .i64 b, .int .i64 c, .int .i32 imm, .slice A n k] 40) = W1 := ⟨_, rfl⟩
    have hbW1 : Below w.heap.size w W1 := by rw [← hW1]; exact (Below.refl _ _).alloc (Nat.le_refl _) _
    have hsW1 : Str W1 w.heap.size 40 [.int .i64 31, .int .i64 d, .int .i64 e, .int .i64 a, .int .i64 b, .int .i64 c, .int .i32 imm, .slice A n k] := by rw [← hW1]; exact World.alloc_heap_new w _
    rw [hW1]
    clear hW1
    have m0 : W1.cell? ⟨w.heap.size, 0, none⟩ = some (.int .i64 31) := hsW1.cell 0
    have m1 : W1.cell? ⟨w.heap.size, 1, none⟩ = some (.int .i64 d) := hsW1.cell 1
    have m2 : W1.cell? ⟨w.heap.size, 2, none⟩ = some (.int .i64 e) := hsW1.cell 2
    have m3 : W1.cell? ⟨w.heap.size, 3, none⟩ = some (.int .i64 a) := hsW1.cell 3
    have m4 : W1.cell? ⟨w.heap.size, 4, none⟩ = some (.int .i64 b) := hsW1.cell 4
    have m5 : W1.cell? ⟨w.heap.size, 5, none⟩ = some (.int .i64 c) := hsW1.cell 5
    have m6 : W1.cell? ⟨w.heap.size, 6, none⟩ = some (.int .i32 imm) := hsW1.cell 6
    have m7 : W1.cell? ⟨w.heap.size, 7, none⟩ = some (.slice A n k) := hsW1.cell 7
    have HB := Lib.hid hbW1
    clear hsW1 hbW1
    go_wp2
    go_ret
    refine ⟨_, rfl, ?_, HB.out.alloc HB.out.size _⟩
    rw [HT.out]
    exact World.ownsRow_lit W1 #[.int .i64 a] 1 HB.out.size (by decide) rfl
  · have g1 : (op == 1) = false := beq_eq_false_iff_ne.2 (by omega)
    have g24 : (op == 24) = false := beq_eq_false_iff_ne.2 (by omega)
    have g31 : (op == 31) = false := beq_eq_false_iff_ne.2 (by omega)
    have g2 : (op == 2) = false := beq_eq_false_iff_ne.2 (by omega)
    have g25 : (op == 25) = false := beq_eq_false_iff_ne.2 (by omega)
    have g26 : (op == 26) = false := beq_eq_false_iff_ne.2 (by omega)
    have g29 : (op == 29) = false := beq_eq_false_iff_ne.2 (by omega)
    have g23 : (op == 23) = false := beq_eq_false_iff_ne.2 (by omega)
    have g27 : (op == 27) = false := beq_eq_false_iff_ne.2 (by omega)
    have g28 : (op == 28) = false := beq_eq_false_iff_ne.2 (by omega)
    have HT := Lib.hid (show takesL ⟨op, d, e, a, b, c, imm, args⟩ = [] from by unfold takesL; rw [if_neg (by simp only; omega), show takesN _ = 0 from takesN_none (by simp only; omega)]; rfl)
    go_enter Tryz.func23, Tryz.ntmps23
    go_upto_region 1 with (fail)
    obtain ⟨W1, hW1⟩ : ∃ W1, w.alloc (.cells #[.int .i64 op, .int .i64 d, .int .i64 e, .int .i64 a, .int .i64 b, .int .i64 c, .int .i32 imm, .slice A n k] 40) = W1 := ⟨_, rfl⟩
    have hbW1 : Below w.heap.size w W1 := by rw [← hW1]; exact (Below.refl _ _).alloc (Nat.le_refl _) _
    have hsW1 : Str W1 w.heap.size 40 [.int .i64 op, .int .i64 d, .int .i64 e, .int .i64 a, .int .i64 b, .int .i64 c, .int .i32 imm, .slice A n k] := by rw [← hW1]; exact World.alloc_heap_new w _
    rw [hW1]
    clear hW1
    have m0 : W1.cell? ⟨w.heap.size, 0, none⟩ = some (.int .i64 op) := hsW1.cell 0
    have m1 : W1.cell? ⟨w.heap.size, 1, none⟩ = some (.int .i64 d) := hsW1.cell 1
    have m2 : W1.cell? ⟨w.heap.size, 2, none⟩ = some (.int .i64 e) := hsW1.cell 2
    have m3 : W1.cell? ⟨w.heap.size, 3, none⟩ = some (.int .i64 a) := hsW1.cell 3
    have m4 : W1.cell? ⟨w.heap.size, 4, none⟩ = some (.int .i64 b) := hsW1.cell 4
    have m5 : W1.cell? ⟨w.heap.size, 5, none⟩ = some (.int .i64 c) := hsW1.cell 5
    have m6 : W1.cell? ⟨w.heap.size, 6, none⟩ = some (.int .i32 imm) := hsW1.cell 6
    have m7 : W1.cell? ⟨w.heap.size, 7, none⟩ = some (.slice A n k) := hsW1.cell 7
    have HB := Lib.hid hbW1
    clear hsW1 hbW1
    go_wp2
    go_ret
    refine ⟨_, rfl, ?_, HB.out⟩
    rw [HT.out]
    exact World.ownsRow_nil _ _ _ _
  · have g1 : (op == 1) = false := beq_eq_false_iff_ne.2 (by omega)
    have g24 : (op == 24) = false := beq_eq_false_iff_ne.2 (by omega)
    have g31 : (op == 31) = false := beq_eq_false_iff_ne.2 (by omega)
    have g2 : (op == 2) = false := beq_eq_false_iff_ne.2 (by omega)
    have g25 : (op == 25) = false := beq_eq_false_iff_ne.2 (by omega)
    have g26 : (op == 26) = false := beq_eq_false_iff_ne.2 (by omega)
    have g29 : (op == 29) = false := beq_eq_false_iff_ne.2 (by omega)
    have g23 : (op == 23) = false := beq_eq_false_iff_ne.2 (by omega)
    have g27 : (op == 27) = false := beq_eq_false_iff_ne.2 (by omega)
    have g28 : (op == 28) = false := beq_eq_false_iff_ne.2 (by omega)
    have HT := Lib.hid (show takesL ⟨op, d, e, a, b, c, imm, args⟩ = [] from by unfold takesL; rw [if_neg (by simp only; omega), show takesN _ = 0 from takesN_none (by simp only; omega)]; rfl)
    go_enter Tryz.func23, Tryz.ntmps23
    go_upto_region 1 with (fail)
    obtain ⟨W1, hW1⟩ : ∃ W1, w.alloc (.cells #[.int .i64 op, .int .i64 d, .int .i64 e, .int .i64 a, .int .i64 b, .int .i64 c, .int .i32 imm, .slice A n k] 40) = W1 := ⟨_, rfl⟩
    have hbW1 : Below w.heap.size w W1 := by rw [← hW1]; exact (Below.refl _ _).alloc (Nat.le_refl _) _
    have hsW1 : Str W1 w.heap.size 40 [.int .i64 op, .int .i64 d, .int .i64 e, .int .i64 a, .int .i64 b, .int .i64 c, .int .i32 imm, .slice A n k] := by rw [← hW1]; exact World.alloc_heap_new w _
    rw [hW1]
    clear hW1
    have m0 : W1.cell? ⟨w.heap.size, 0, none⟩ = some (.int .i64 op) := hsW1.cell 0
    have m1 : W1.cell? ⟨w.heap.size, 1, none⟩ = some (.int .i64 d) := hsW1.cell 1
    have m2 : W1.cell? ⟨w.heap.size, 2, none⟩ = some (.int .i64 e) := hsW1.cell 2
    have m3 : W1.cell? ⟨w.heap.size, 3, none⟩ = some (.int .i64 a) := hsW1.cell 3
    have m4 : W1.cell? ⟨w.heap.size, 4, none⟩ = some (.int .i64 b) := hsW1.cell 4
    have m5 : W1.cell? ⟨w.heap.size, 5, none⟩ = some (.int .i64 c) := hsW1.cell 5
    have m6 : W1.cell? ⟨w.heap.size, 6, none⟩ = some (.int .i32 imm) := hsW1.cell 6
    have m7 : W1.cell? ⟨w.heap.size, 7, none⟩ = some (.slice A n k) := hsW1.cell 7
    have HB := Lib.hid hbW1
    clear hsW1 hbW1
    go_wp2
    go_ret
    refine ⟨_, rfl, ?_, HB.out⟩
    rw [HT.out]
    exact World.ownsRow_nil _ _ _ _
set_option maxRecDepth 100000 in
set_option maxHeartbeats 8000000 in
theorem rmakes_any (w : World) (i : PMach) (A : Option Addr) (n k : Nat) :
    Calls Tryz.prog 25 #[.agg #[.int .i64 i.op, .int .i64 i.d, .int .i64 i.e, .int .i64 i.a, .int .i64 i.b, .int .i64 i.c, .int .i32 i.imm, .slice A n k]] w (RowPost (makesL i) w) := by
  obtain ⟨op, d, e, a, b, c, imm, args⟩ := i
  simp only at *
  rcases (show op = 1 ∨ op = 2 ∨ op = 3 ∨ op = 4 ∨ (5 ≤ op ∧ op ≤ 17) ∨ (18 ≤ op ∧ op ≤ 22) ∨ op = 23 ∨ op = 24 ∨ op = 25 ∨ op = 26 ∨ op = 27 ∨ op = 28 ∨ op = 29 ∨ op = 30 ∨ op = 31 ∨ op < 1 ∨ 31 < op by omega) with h | h | h | h | h | h | h | h | h | h | h | h | h | h | h | h | h
  · subst h
    have HT := Lib.hid (show makesL ⟨1, d, e, a, b, c, imm, args⟩ = [d] from rfl)
    go_enter Tryz.func25, Tryz.ntmps25
    go_upto_region 1 with (fail)
    obtain ⟨W1, hW1⟩ : ∃ W1, w.alloc (.cells #[.int .i64 1, .int .i64 d, .int .i64 e, .int .i64 a, .int .i64 b, .int .i64 c, .int .i32 imm, .slice A n k] 40) = W1 := ⟨_, rfl⟩
    have hbW1 : Below w.heap.size w W1 := by rw [← hW1]; exact (Below.refl _ _).alloc (Nat.le_refl _) _
    have hsW1 : Str W1 w.heap.size 40 [.int .i64 1, .int .i64 d, .int .i64 e, .int .i64 a, .int .i64 b, .int .i64 c, .int .i32 imm, .slice A n k] := by rw [← hW1]; exact World.alloc_heap_new w _
    rw [hW1]
    clear hW1
    have m0 : W1.cell? ⟨w.heap.size, 0, none⟩ = some (.int .i64 1) := hsW1.cell 0
    have m1 : W1.cell? ⟨w.heap.size, 1, none⟩ = some (.int .i64 d) := hsW1.cell 1
    have m2 : W1.cell? ⟨w.heap.size, 2, none⟩ = some (.int .i64 e) := hsW1.cell 2
    have m3 : W1.cell? ⟨w.heap.size, 3, none⟩ = some (.int .i64 a) := hsW1.cell 3
    have m4 : W1.cell? ⟨w.heap.size, 4, none⟩ = some (.int .i64 b) := hsW1.cell 4
    have m5 : W1.cell? ⟨w.heap.size, 5, none⟩ = some (.int .i64 c) := hsW1.cell 5
    have m6 : W1.cell? ⟨w.heap.size, 6, none⟩ = some (.int .i32 imm) := hsW1.cell 6
    have m7 : W1.cell? ⟨w.heap.size, 7, none⟩ = some (.slice A n k) := hsW1.cell 7
    have HB := Lib.hid hbW1
    clear hsW1 hbW1
    go_wp2
    go_ret
    refine ⟨_, rfl, ?_, HB.out.alloc HB.out.size _⟩
    rw [HT.out]
    exact World.ownsRow_lit W1 #[.int .i64 d] 1 HB.out.size (by decide) rfl
  · subst h
    have HT := Lib.hid (show makesL ⟨2, d, e, a, b, c, imm, args⟩ = [a, b] from rfl)
    go_enter Tryz.func25, Tryz.ntmps25
    go_upto_region 1 with (fail)
    obtain ⟨W1, hW1⟩ : ∃ W1, w.alloc (.cells #[.int .i64 2, .int .i64 d, .int .i64 e, .int .i64 a, .int .i64 b, .int .i64 c, .int .i32 imm, .slice A n k] 40) = W1 := ⟨_, rfl⟩
    have hbW1 : Below w.heap.size w W1 := by rw [← hW1]; exact (Below.refl _ _).alloc (Nat.le_refl _) _
    have hsW1 : Str W1 w.heap.size 40 [.int .i64 2, .int .i64 d, .int .i64 e, .int .i64 a, .int .i64 b, .int .i64 c, .int .i32 imm, .slice A n k] := by rw [← hW1]; exact World.alloc_heap_new w _
    rw [hW1]
    clear hW1
    have m0 : W1.cell? ⟨w.heap.size, 0, none⟩ = some (.int .i64 2) := hsW1.cell 0
    have m1 : W1.cell? ⟨w.heap.size, 1, none⟩ = some (.int .i64 d) := hsW1.cell 1
    have m2 : W1.cell? ⟨w.heap.size, 2, none⟩ = some (.int .i64 e) := hsW1.cell 2
    have m3 : W1.cell? ⟨w.heap.size, 3, none⟩ = some (.int .i64 a) := hsW1.cell 3
    have m4 : W1.cell? ⟨w.heap.size, 4, none⟩ = some (.int .i64 b) := hsW1.cell 4
    have m5 : W1.cell? ⟨w.heap.size, 5, none⟩ = some (.int .i64 c) := hsW1.cell 5
    have m6 : W1.cell? ⟨w.heap.size, 6, none⟩ = some (.int .i32 imm) := hsW1.cell 6
    have m7 : W1.cell? ⟨w.heap.size, 7, none⟩ = some (.slice A n k) := hsW1.cell 7
    have HB := Lib.hid hbW1
    clear hsW1 hbW1
    go_wp2
    go_ret
    refine ⟨_, rfl, ?_, HB.out.alloc HB.out.size _⟩
    rw [HT.out]
    exact World.ownsRow_lit W1 #[.int .i64 a, .int .i64 b] 2 HB.out.size (by decide) rfl
  · subst h
    have HT := Lib.hid (show makesL ⟨3, d, e, a, b, c, imm, args⟩ = [d] from rfl)
    go_enter Tryz.func25, Tryz.ntmps25
    go_upto_region 1 with (fail)
    obtain ⟨W1, hW1⟩ : ∃ W1, w.alloc (.cells #[.int .i64 3, .int .i64 d, .int .i64 e, .int .i64 a, .int .i64 b, .int .i64 c, .int .i32 imm, .slice A n k] 40) = W1 := ⟨_, rfl⟩
    have hbW1 : Below w.heap.size w W1 := by rw [← hW1]; exact (Below.refl _ _).alloc (Nat.le_refl _) _
    have hsW1 : Str W1 w.heap.size 40 [.int .i64 3, .int .i64 d, .int .i64 e, .int .i64 a, .int .i64 b, .int .i64 c, .int .i32 imm, .slice A n k] := by rw [← hW1]; exact World.alloc_heap_new w _
    rw [hW1]
    clear hW1
    have m0 : W1.cell? ⟨w.heap.size, 0, none⟩ = some (.int .i64 3) := hsW1.cell 0
    have m1 : W1.cell? ⟨w.heap.size, 1, none⟩ = some (.int .i64 d) := hsW1.cell 1
    have m2 : W1.cell? ⟨w.heap.size, 2, none⟩ = some (.int .i64 e) := hsW1.cell 2
    have m3 : W1.cell? ⟨w.heap.size, 3, none⟩ = some (.int .i64 a) := hsW1.cell 3
    have m4 : W1.cell? ⟨w.heap.size, 4, none⟩ = some (.int .i64 b) := hsW1.cell 4
    have m5 : W1.cell? ⟨w.heap.size, 5, none⟩ = some (.int .i64 c) := hsW1.cell 5
    have m6 : W1.cell? ⟨w.heap.size, 6, none⟩ = some (.int .i32 imm) := hsW1.cell 6
    have m7 : W1.cell? ⟨w.heap.size, 7, none⟩ = some (.slice A n k) := hsW1.cell 7
    have HB := Lib.hid hbW1
    clear hsW1 hbW1
    go_wp2
    go_ret
    refine ⟨_, rfl, ?_, HB.out.alloc HB.out.size _⟩
    rw [HT.out]
    exact World.ownsRow_lit W1 #[.int .i64 d] 1 HB.out.size (by decide) rfl
  · subst h
    have HT := Lib.hid (show makesL ⟨4, d, e, a, b, c, imm, args⟩ = [d] from rfl)
    go_enter Tryz.func25, Tryz.ntmps25
    go_upto_region 1 with (fail)
    obtain ⟨W1, hW1⟩ : ∃ W1, w.alloc (.cells #[.int .i64 4, .int .i64 d, .int .i64 e, .int .i64 a, .int .i64 b, .int .i64 c, .int .i32 imm, .slice A n k] 40) = W1 := ⟨_, rfl⟩
    have hbW1 : Below w.heap.size w W1 := by rw [← hW1]; exact (Below.refl _ _).alloc (Nat.le_refl _) _
    have hsW1 : Str W1 w.heap.size 40 [.int .i64 4, .int .i64 d, .int .i64 e, .int .i64 a, .int .i64 b, .int .i64 c, .int .i32 imm, .slice A n k] := by rw [← hW1]; exact World.alloc_heap_new w _
    rw [hW1]
    clear hW1
    have m0 : W1.cell? ⟨w.heap.size, 0, none⟩ = some (.int .i64 4) := hsW1.cell 0
    have m1 : W1.cell? ⟨w.heap.size, 1, none⟩ = some (.int .i64 d) := hsW1.cell 1
    have m2 : W1.cell? ⟨w.heap.size, 2, none⟩ = some (.int .i64 e) := hsW1.cell 2
    have m3 : W1.cell? ⟨w.heap.size, 3, none⟩ = some (.int .i64 a) := hsW1.cell 3
    have m4 : W1.cell? ⟨w.heap.size, 4, none⟩ = some (.int .i64 b) := hsW1.cell 4
    have m5 : W1.cell? ⟨w.heap.size, 5, none⟩ = some (.int .i64 c) := hsW1.cell 5
    have m6 : W1.cell? ⟨w.heap.size, 6, none⟩ = some (.int .i32 imm) := hsW1.cell 6
    have m7 : W1.cell? ⟨w.heap.size, 7, none⟩ = some (.slice A n k) := hsW1.cell 7
    have HB := Lib.hid hbW1
    clear hsW1 hbW1
    go_wp2
    go_ret
    refine ⟨_, rfl, ?_, HB.out.alloc HB.out.size _⟩
    rw [HT.out]
    exact World.ownsRow_lit W1 #[.int .i64 d] 1 HB.out.size (by decide) rfl
  · obtain ⟨h1, h2⟩ := h
    have g2 : (op == 2) = false := beq_eq_false_iff_ne.2 (by omega)
    have g29 : (op == 29) = false := beq_eq_false_iff_ne.2 (by omega)
    have g26 : (op == 26) = false := beq_eq_false_iff_ne.2 (by omega)
    have g27 : (op == 27) = false := beq_eq_false_iff_ne.2 (by omega)
    have g31 : (op == 31) = false := beq_eq_false_iff_ne.2 (by omega)
    have HT := Lib.hid (show makesL ⟨op, d, e, a, b, c, imm, args⟩ = [d] from by unfold makesL; rw [if_neg (by simp only; omega), show makesN _ = 1 from makesN_one (by simp only; omega) (by simp only; omega)]; rfl)
    go_enter Tryz.func25, Tryz.ntmps25
    go_upto_region 1 with (fail)
    obtain ⟨W1, hW1⟩ : ∃ W1, w.alloc (.cells #[.int .i64 op, .int .i64 d, .int .i64 e, .int .i64 a, .int .i64 b, .int .i64 c, .int .i32 imm, .slice A n k] 40) = W1 := ⟨_, rfl⟩
    have hbW1 : Below w.heap.size w W1 := by rw [← hW1]; exact (Below.refl _ _).alloc (Nat.le_refl _) _
    have hsW1 : Str W1 w.heap.size 40 [.int .i64 op, .int .i64 d, .int .i64 e, .int .i64 a, .int .i64 b, .int .i64 c, .int .i32 imm, .slice A n k] := by rw [← hW1]; exact World.alloc_heap_new w _
    rw [hW1]
    clear hW1
    have m0 : W1.cell? ⟨w.heap.size, 0, none⟩ = some (.int .i64 op) := hsW1.cell 0
    have m1 : W1.cell? ⟨w.heap.size, 1, none⟩ = some (.int .i64 d) := hsW1.cell 1
    have m2 : W1.cell? ⟨w.heap.size, 2, none⟩ = some (.int .i64 e) := hsW1.cell 2
    have m3 : W1.cell? ⟨w.heap.size, 3, none⟩ = some (.int .i64 a) := hsW1.cell 3
    have m4 : W1.cell? ⟨w.heap.size, 4, none⟩ = some (.int .i64 b) := hsW1.cell 4
    have m5 : W1.cell? ⟨w.heap.size, 5, none⟩ = some (.int .i64 c) := hsW1.cell 5
    have m6 : W1.cell? ⟨w.heap.size, 6, none⟩ = some (.int .i32 imm) := hsW1.cell 6
    have m7 : W1.cell? ⟨w.heap.size, 7, none⟩ = some (.slice A n k) := hsW1.cell 7
    have HB := Lib.hid hbW1
    clear hsW1 hbW1
    go_wp2
    go_ret
    refine ⟨_, rfl, ?_, HB.out.alloc HB.out.size _⟩
    rw [HT.out]
    exact World.ownsRow_lit W1 #[.int .i64 d] 1 HB.out.size (by decide) rfl
  · obtain ⟨h1, h2⟩ := h
    have g2 : (op == 2) = false := beq_eq_false_iff_ne.2 (by omega)
    have g29 : (op == 29) = false := beq_eq_false_iff_ne.2 (by omega)
    have g26 : (op == 26) = false := beq_eq_false_iff_ne.2 (by omega)
    have g27 : (op == 27) = false := beq_eq_false_iff_ne.2 (by omega)
    have g31 : (op == 31) = false := beq_eq_false_iff_ne.2 (by omega)
    have HT := Lib.hid (show makesL ⟨op, d, e, a, b, c, imm, args⟩ = [d] from by unfold makesL; rw [if_neg (by simp only; omega), show makesN _ = 1 from makesN_one (by simp only; omega) (by simp only; omega)]; rfl)
    go_enter Tryz.func25, Tryz.ntmps25
    go_upto_region 1 with (fail)
    obtain ⟨W1, hW1⟩ : ∃ W1, w.alloc (.cells #[.int .i64 op, .int .i64 d, .int .i64 e, .int .i64 a, .int .i64 b, .int .i64 c, .int .i32 imm, .slice A n k] 40) = W1 := ⟨_, rfl⟩
    have hbW1 : Below w.heap.size w W1 := by rw [← hW1]; exact (Below.refl _ _).alloc (Nat.le_refl _) _
    have hsW1 : Str W1 w.heap.size 40 [.int .i64 op, .int .i64 d, .int .i64 e, .int .i64 a, .int .i64 b, .int .i64 c, .int .i32 imm, .slice A n k] := by rw [← hW1]; exact World.alloc_heap_new w _
    rw [hW1]
    clear hW1
    have m0 : W1.cell? ⟨w.heap.size, 0, none⟩ = some (.int .i64 op) := hsW1.cell 0
    have m1 : W1.cell? ⟨w.heap.size, 1, none⟩ = some (.int .i64 d) := hsW1.cell 1
    have m2 : W1.cell? ⟨w.heap.size, 2, none⟩ = some (.int .i64 e) := hsW1.cell 2
    have m3 : W1.cell? ⟨w.heap.size, 3, none⟩ = some (.int .i64 a) := hsW1.cell 3
    have m4 : W1.cell? ⟨w.heap.size, 4, none⟩ = some (.int .i64 b) := hsW1.cell 4
    have m5 : W1.cell? ⟨w.heap.size, 5, none⟩ = some (.int .i64 c) := hsW1.cell 5
    have m6 : W1.cell? ⟨w.heap.size, 6, none⟩ = some (.int .i32 imm) := hsW1.cell 6
    have m7 : W1.cell? ⟨w.heap.size, 7, none⟩ = some (.slice A n k) := hsW1.cell 7
    have HB := Lib.hid hbW1
    clear hsW1 hbW1
    go_wp2
    go_ret
    refine ⟨_, rfl, ?_, HB.out.alloc HB.out.size _⟩
    rw [HT.out]
    exact World.ownsRow_lit W1 #[.int .i64 d] 1 HB.out.size (by decide) rfl
  · subst h
    have HT := Lib.hid (show makesL ⟨23, d, e, a, b, c, imm, args⟩ = [d] from rfl)
    go_enter Tryz.func25, Tryz.ntmps25
    go_upto_region 1 with (fail)
    obtain ⟨W1, hW1⟩ : ∃ W1, w.alloc (.cells #[.int .i64 23, .int .i64 d, .int .i64 e, .int .i64 a, .int .i64 b, .int .i64 c, .int .i32 imm, .slice A n k] 40) = W1 := ⟨_, rfl⟩
    have hbW1 : Below w.heap.size w W1 := by rw [← hW1]; exact (Below.refl _ _).alloc (Nat.le_refl _) _
    have hsW1 : Str W1 w.heap.size 40 [.int .i64 23, .int .i64 d, .int .i64 e, .int .i64 a, .int .i64 b, .int .i64 c, .int .i32 imm, .slice A n k] := by rw [← hW1]; exact World.alloc_heap_new w _
    rw [hW1]
    clear hW1
    have m0 : W1.cell? ⟨w.heap.size, 0, none⟩ = some (.int .i64 23) := hsW1.cell 0
    have m1 : W1.cell? ⟨w.heap.size, 1, none⟩ = some (.int .i64 d) := hsW1.cell 1
    have m2 : W1.cell? ⟨w.heap.size, 2, none⟩ = some (.int .i64 e) := hsW1.cell 2
    have m3 : W1.cell? ⟨w.heap.size, 3, none⟩ = some (.int .i64 a) := hsW1.cell 3
    have m4 : W1.cell? ⟨w.heap.size, 4, none⟩ = some (.int .i64 b) := hsW1.cell 4
    have m5 : W1.cell? ⟨w.heap.size, 5, none⟩ = some (.int .i64 c) := hsW1.cell 5
    have m6 : W1.cell? ⟨w.heap.size, 6, none⟩ = some (.int .i32 imm) := hsW1.cell 6
    have m7 : W1.cell? ⟨w.heap.size, 7, none⟩ = some (.slice A n k) := hsW1.cell 7
    have HB := Lib.hid hbW1
    clear hsW1 hbW1
    go_wp2
    go_ret
    refine ⟨_, rfl, ?_, HB.out.alloc HB.out.size _⟩
    rw [HT.out]
    exact World.ownsRow_lit W1 #[.int .i64 d] 1 HB.out.size (by decide) rfl
  · subst h
    have HT := Lib.hid (show makesL ⟨24, d, e, a, b, c, imm, args⟩ = [d] from rfl)
    go_enter Tryz.func25, Tryz.ntmps25
    go_upto_region 1 with (fail)
    obtain ⟨W1, hW1⟩ : ∃ W1, w.alloc (.cells #[.int .i64 24, .int .i64 d, .int .i64 e, .int .i64 a, .int .i64 b, .int .i64 c, .int .i32 imm, .slice A n k] 40) = W1 := ⟨_, rfl⟩
    have hbW1 : Below w.heap.size w W1 := by rw [← hW1]; exact (Below.refl _ _).alloc (Nat.le_refl _) _
    have hsW1 : Str W1 w.heap.size 40 [.int .i64 24, .int .i64 d, .int .i64 e, .int .i64 a, .int .i64 b, .int .i64 c, .int .i32 imm, .slice A n k] := by rw [← hW1]; exact World.alloc_heap_new w _
    rw [hW1]
    clear hW1
    have m0 : W1.cell? ⟨w.heap.size, 0, none⟩ = some (.int .i64 24) := hsW1.cell 0
    have m1 : W1.cell? ⟨w.heap.size, 1, none⟩ = some (.int .i64 d) := hsW1.cell 1
    have m2 : W1.cell? ⟨w.heap.size, 2, none⟩ = some (.int .i64 e) := hsW1.cell 2
    have m3 : W1.cell? ⟨w.heap.size, 3, none⟩ = some (.int .i64 a) := hsW1.cell 3
    have m4 : W1.cell? ⟨w.heap.size, 4, none⟩ = some (.int .i64 b) := hsW1.cell 4
    have m5 : W1.cell? ⟨w.heap.size, 5, none⟩ = some (.int .i64 c) := hsW1.cell 5
    have m6 : W1.cell? ⟨w.heap.size, 6, none⟩ = some (.int .i32 imm) := hsW1.cell 6
    have m7 : W1.cell? ⟨w.heap.size, 7, none⟩ = some (.slice A n k) := hsW1.cell 7
    have HB := Lib.hid hbW1
    clear hsW1 hbW1
    go_wp2
    go_ret
    refine ⟨_, rfl, ?_, HB.out.alloc HB.out.size _⟩
    rw [HT.out]
    exact World.ownsRow_lit W1 #[.int .i64 d] 1 HB.out.size (by decide) rfl
  · subst h
    have HT := Lib.hid (show makesL ⟨25, d, e, a, b, c, imm, args⟩ = [d] from rfl)
    go_enter Tryz.func25, Tryz.ntmps25
    go_upto_region 1 with (fail)
    obtain ⟨W1, hW1⟩ : ∃ W1, w.alloc (.cells #[.int .i64 25, .int .i64 d, .int .i64 e, .int .i64 a, .int .i64 b, .int .i64 c, .int .i32 imm, .slice A n k] 40) = W1 := ⟨_, rfl⟩
    have hbW1 : Below w.heap.size w W1 := by rw [← hW1]; exact (Below.refl _ _).alloc (Nat.le_refl _) _
    have hsW1 : Str W1 w.heap.size 40 [.int .i64 25, .int .i64 d, .int .i64 e, .int .i64 a, .int .i64 b, .int .i64 c, .int .i32 imm, .slice A n k] := by rw [← hW1]; exact World.alloc_heap_new w _
    rw [hW1]
    clear hW1
    have m0 : W1.cell? ⟨w.heap.size, 0, none⟩ = some (.int .i64 25) := hsW1.cell 0
    have m1 : W1.cell? ⟨w.heap.size, 1, none⟩ = some (.int .i64 d) := hsW1.cell 1
    have m2 : W1.cell? ⟨w.heap.size, 2, none⟩ = some (.int .i64 e) := hsW1.cell 2
    have m3 : W1.cell? ⟨w.heap.size, 3, none⟩ = some (.int .i64 a) := hsW1.cell 3
    have m4 : W1.cell? ⟨w.heap.size, 4, none⟩ = some (.int .i64 b) := hsW1.cell 4
    have m5 : W1.cell? ⟨w.heap.size, 5, none⟩ = some (.int .i64 c) := hsW1.cell 5
    have m6 : W1.cell? ⟨w.heap.size, 6, none⟩ = some (.int .i32 imm) := hsW1.cell 6
    have m7 : W1.cell? ⟨w.heap.size, 7, none⟩ = some (.slice A n k) := hsW1.cell 7
    have HB := Lib.hid hbW1
    clear hsW1 hbW1
    go_wp2
    go_ret
    refine ⟨_, rfl, ?_, HB.out.alloc HB.out.size _⟩
    rw [HT.out]
    exact World.ownsRow_lit W1 #[.int .i64 d] 1 HB.out.size (by decide) rfl
  · subst h
    have HT := Lib.hid (show makesL ⟨26, d, e, a, b, c, imm, args⟩ = [] from rfl)
    go_enter Tryz.func25, Tryz.ntmps25
    go_upto_region 1 with (fail)
    obtain ⟨W1, hW1⟩ : ∃ W1, w.alloc (.cells #[.int .i64 26, .int .i64 d, .int .i64 e, .int .i64 a, .int .i64 b, .int .i64 c, .int .i32 imm, .slice A n k] 40) = W1 := ⟨_, rfl⟩
    have hbW1 : Below w.heap.size w W1 := by rw [← hW1]; exact (Below.refl _ _).alloc (Nat.le_refl _) _
    have hsW1 : Str W1 w.heap.size 40 [.int .i64 26, .int .i64 d, .int .i64 e, .int .i64 a, .int .i64 b, .int .i64 c, .int .i32 imm, .slice A n k] := by rw [← hW1]; exact World.alloc_heap_new w _
    rw [hW1]
    clear hW1
    have m0 : W1.cell? ⟨w.heap.size, 0, none⟩ = some (.int .i64 26) := hsW1.cell 0
    have m1 : W1.cell? ⟨w.heap.size, 1, none⟩ = some (.int .i64 d) := hsW1.cell 1
    have m2 : W1.cell? ⟨w.heap.size, 2, none⟩ = some (.int .i64 e) := hsW1.cell 2
    have m3 : W1.cell? ⟨w.heap.size, 3, none⟩ = some (.int .i64 a) := hsW1.cell 3
    have m4 : W1.cell? ⟨w.heap.size, 4, none⟩ = some (.int .i64 b) := hsW1.cell 4
    have m5 : W1.cell? ⟨w.heap.size, 5, none⟩ = some (.int .i64 c) := hsW1.cell 5
    have m6 : W1.cell? ⟨w.heap.size, 6, none⟩ = some (.int .i32 imm) := hsW1.cell 6
    have m7 : W1.cell? ⟨w.heap.size, 7, none⟩ = some (.slice A n k) := hsW1.cell 7
    have HB := Lib.hid hbW1
    clear hsW1 hbW1
    go_wp2
    go_ret
    refine ⟨_, rfl, ?_, HB.out⟩
    rw [HT.out]
    exact World.ownsRow_nil _ _ _ _
  · subst h
    have HT := Lib.hid (show makesL ⟨27, d, e, a, b, c, imm, args⟩ = [] from rfl)
    go_enter Tryz.func25, Tryz.ntmps25
    go_upto_region 1 with (fail)
    obtain ⟨W1, hW1⟩ : ∃ W1, w.alloc (.cells #[.int .i64 27, .int .i64 d, .int .i64 e, .int .i64 a, .int .i64 b, .int .i64 c, .int .i32 imm, .slice A n k] 40) = W1 := ⟨_, rfl⟩
    have hbW1 : Below w.heap.size w W1 := by rw [← hW1]; exact (Below.refl _ _).alloc (Nat.le_refl _) _
    have hsW1 : Str W1 w.heap.size 40 [.int .i64 27, .int .i64 d, .int .i64 e, .int .i64 a, .int .i64 b, .int .i64 c, .int .i32 imm, .slice A n k] := by rw [← hW1]; exact World.alloc_heap_new w _
    rw [hW1]
    clear hW1
    have m0 : W1.cell? ⟨w.heap.size, 0, none⟩ = some (.int .i64 27) := hsW1.cell 0
    have m1 : W1.cell? ⟨w.heap.size, 1, none⟩ = some (.int .i64 d) := hsW1.cell 1
    have m2 : W1.cell? ⟨w.heap.size, 2, none⟩ = some (.int .i64 e) := hsW1.cell 2
    have m3 : W1.cell? ⟨w.heap.size, 3, none⟩ = some (.int .i64 a) := hsW1.cell 3
    have m4 : W1.cell? ⟨w.heap.size, 4, none⟩ = some (.int .i64 b) := hsW1.cell 4
    have m5 : W1.cell? ⟨w.heap.size, 5, none⟩ = some (.int .i64 c) := hsW1.cell 5
    have m6 : W1.cell? ⟨w.heap.size, 6, none⟩ = some (.int .i32 imm) := hsW1.cell 6
    have m7 : W1.cell? ⟨w.heap.size, 7, none⟩ = some (.slice A n k) := hsW1.cell 7
    have HB := Lib.hid hbW1
    clear hsW1 hbW1
    go_wp2
    go_ret
    refine ⟨_, rfl, ?_, HB.out⟩
    rw [HT.out]
    exact World.ownsRow_nil _ _ _ _
  · subst h
    have HT := Lib.hid (show makesL ⟨28, d, e, a, b, c, imm, args⟩ = [d] from rfl)
    go_enter Tryz.func25, Tryz.ntmps25
    go_upto_region 1 with (fail)
    obtain ⟨W1, hW1⟩ : ∃ W1, w.alloc (.cells #[.int .i64 28, .int .i64 d, .int .i64 e, .int .i64 a, .int .i64 b, .int .i64 c, .int .i32 imm, .slice A n k] 40) = W1 := ⟨_, rfl⟩
    have hbW1 : Below w.heap.size w W1 := by rw [← hW1]; exact (Below.refl _ _).alloc (Nat.le_refl _) _
    have hsW1 : Str W1 w.heap.size 40 [.int .i64 28, .int .i64 d, .int .i64 e, .int .i64 a, .int .i64 b, .int .i64 c, .int .i32 imm, .slice A n k] := by rw [← hW1]; exact World.alloc_heap_new w _
    rw [hW1]
    clear hW1
    have m0 : W1.cell? ⟨w.heap.size, 0, none⟩ = some (.int .i64 28) := hsW1.cell 0
    have m1 : W1.cell? ⟨w.heap.size, 1, none⟩ = some (.int .i64 d) := hsW1.cell 1
    have m2 : W1.cell? ⟨w.heap.size, 2, none⟩ = some (.int .i64 e) := hsW1.cell 2
    have m3 : W1.cell? ⟨w.heap.size, 3, none⟩ = some (.int .i64 a) := hsW1.cell 3
    have m4 : W1.cell? ⟨w.heap.size, 4, none⟩ = some (.int .i64 b) := hsW1.cell 4
    have m5 : W1.cell? ⟨w.heap.size, 5, none⟩ = some (.int .i64 c) := hsW1.cell 5
    have m6 : W1.cell? ⟨w.heap.size, 6, none⟩ = some (.int .i32 imm) := hsW1.cell 6
    have m7 : W1.cell? ⟨w.heap.size, 7, none⟩ = some (.slice A n k) := hsW1.cell 7
    have HB := Lib.hid hbW1
    clear hsW1 hbW1
    go_wp2
    go_ret
    refine ⟨_, rfl, ?_, HB.out.alloc HB.out.size _⟩
    rw [HT.out]
    exact World.ownsRow_lit W1 #[.int .i64 d] 1 HB.out.size (by decide) rfl
  · subst h
    have HT := Lib.hid (show makesL ⟨29, d, e, a, b, c, imm, args⟩ = [d, e] from rfl)
    go_enter Tryz.func25, Tryz.ntmps25
    go_upto_region 1 with (fail)
    obtain ⟨W1, hW1⟩ : ∃ W1, w.alloc (.cells #[.int .i64 29, .int .i64 d, .int .i64 e, .int .i64 a, .int .i64 b, .int .i64 c, .int .i32 imm, .slice A n k] 40) = W1 := ⟨_, rfl⟩
    have hbW1 : Below w.heap.size w W1 := by rw [← hW1]; exact (Below.refl _ _).alloc (Nat.le_refl _) _
    have hsW1 : Str W1 w.heap.size 40 [.int .i64 29, .int .i64 d, .int .i64 e, .int .i64 a, .int .i64 b, .int .i64 c, .int .i32 imm, .slice A n k] := by rw [← hW1]; exact World.alloc_heap_new w _
    rw [hW1]
    clear hW1
    have m0 : W1.cell? ⟨w.heap.size, 0, none⟩ = some (.int .i64 29) := hsW1.cell 0
    have m1 : W1.cell? ⟨w.heap.size, 1, none⟩ = some (.int .i64 d) := hsW1.cell 1
    have m2 : W1.cell? ⟨w.heap.size, 2, none⟩ = some (.int .i64 e) := hsW1.cell 2
    have m3 : W1.cell? ⟨w.heap.size, 3, none⟩ = some (.int .i64 a) := hsW1.cell 3
    have m4 : W1.cell? ⟨w.heap.size, 4, none⟩ = some (.int .i64 b) := hsW1.cell 4
    have m5 : W1.cell? ⟨w.heap.size, 5, none⟩ = some (.int .i64 c) := hsW1.cell 5
    have m6 : W1.cell? ⟨w.heap.size, 6, none⟩ = some (.int .i32 imm) := hsW1.cell 6
    have m7 : W1.cell? ⟨w.heap.size, 7, none⟩ = some (.slice A n k) := hsW1.cell 7
    have HB := Lib.hid hbW1
    clear hsW1 hbW1
    go_wp2
    go_ret
    refine ⟨_, rfl, ?_, HB.out.alloc HB.out.size _⟩
    rw [HT.out]
    exact World.ownsRow_lit W1 #[.int .i64 d, .int .i64 e] 2 HB.out.size (by decide) rfl
  · subst h
    have HT := Lib.hid (show makesL ⟨30, d, e, a, b, c, imm, args⟩ = [d] from rfl)
    go_enter Tryz.func25, Tryz.ntmps25
    go_upto_region 1 with (fail)
    obtain ⟨W1, hW1⟩ : ∃ W1, w.alloc (.cells #[.int .i64 30, .int .i64 d, .int .i64 e, .int .i64 a, .int .i64 b, .int .i64 c, .int .i32 imm, .slice A n k] 40) = W1 := ⟨_, rfl⟩
    have hbW1 : Below w.heap.size w W1 := by rw [← hW1]; exact (Below.refl _ _).alloc (Nat.le_refl _) _
    have hsW1 : Str W1 w.heap.size 40 [.int .i64 30, .int .i64 d, .int .i64 e, .int .i64 a, .int .i64 b, .int .i64 c, .int .i32 imm, .slice A n k] := by rw [← hW1]; exact World.alloc_heap_new w _
    rw [hW1]
    clear hW1
    have m0 : W1.cell? ⟨w.heap.size, 0, none⟩ = some (.int .i64 30) := hsW1.cell 0
    have m1 : W1.cell? ⟨w.heap.size, 1, none⟩ = some (.int .i64 d) := hsW1.cell 1
    have m2 : W1.cell? ⟨w.heap.size, 2, none⟩ = some (.int .i64 e) := hsW1.cell 2
    have m3 : W1.cell? ⟨w.heap.size, 3, none⟩ = some (.int .i64 a) := hsW1.cell 3
    have m4 : W1.cell? ⟨w.heap.size, 4, none⟩ = some (.int .i64 b) := hsW1.cell 4
    have m5 : W1.cell? ⟨w.heap.size, 5, none⟩ = some (.int .i64 c) := hsW1.cell 5
    have m6 : W1.cell? ⟨w.heap.size, 6, none⟩ = some (.int .i32 imm) := hsW1.cell 6
    have m7 : W1.cell? ⟨w.heap.size, 7, none⟩ = some (.slice A n k) := hsW1.cell 7
    have HB := Lib.hid hbW1
    clear hsW1 hbW1
    go_wp2
    go_ret
    refine ⟨_, rfl, ?_, HB.out.alloc HB.out.size _⟩
    rw [HT.out]
    exact World.ownsRow_lit W1 #[.int .i64 d] 1 HB.out.size (by decide) rfl
  · subst h
    have HT := Lib.hid (show makesL ⟨31, d, e, a, b, c, imm, args⟩ = [] from rfl)
    go_enter Tryz.func25, Tryz.ntmps25
    go_upto_region 1 with (fail)
    obtain ⟨W1, hW1⟩ : ∃ W1, w.alloc (.cells #[.int .i64 31, .int .i64 d, .int .i64 e, .int .i64 a, .int .i64 b, .int .i64 c, .int .i32 imm, .slice A n k] 40) = W1 := ⟨_, rfl⟩
    have hbW1 : Below w.heap.size w W1 := by rw [← hW1]; exact (Below.refl _ _).alloc (Nat.le_refl _) _
    have hsW1 : Str W1 w.heap.size 40 [.int .i64 31, .int .i64 d, .int .i64 e, .int .i64 a, .int .i64 b, .int .i64 c, .int .i32 imm, .slice A n k] := by rw [← hW1]; exact World.alloc_heap_new w _
    rw [hW1]
    clear hW1
    have m0 : W1.cell? ⟨w.heap.size, 0, none⟩ = some (.int .i64 31) := hsW1.cell 0
    have m1 : W1.cell? ⟨w.heap.size, 1, none⟩ = some (.int .i64 d) := hsW1.cell 1
    have m2 : W1.cell? ⟨w.heap.size, 2, none⟩ = some (.int .i64 e) := hsW1.cell 2
    have m3 : W1.cell? ⟨w.heap.size, 3, none⟩ = some (.int .i64 a) := hsW1.cell 3
    have m4 : W1.cell? ⟨w.heap.size, 4, none⟩ = some (.int .i64 b) := hsW1.cell 4
    have m5 : W1.cell? ⟨w.heap.size, 5, none⟩ = some (.int .i64 c) := hsW1.cell 5
    have m6 : W1.cell? ⟨w.heap.size, 6, none⟩ = some (.int .i32 imm) := hsW1.cell 6
    have m7 : W1.cell? ⟨w.heap.size, 7, none⟩ = some (.slice A n k) := hsW1.cell 7
    have HB := Lib.hid hbW1
    clear hsW1 hbW1
    go_wp2
    go_ret
    refine ⟨_, rfl, ?_, HB.out⟩
    rw [HT.out]
    exact World.ownsRow_nil _ _ _ _
  · have g2 : (op == 2) = false := beq_eq_false_iff_ne.2 (by omega)
    have g29 : (op == 29) = false := beq_eq_false_iff_ne.2 (by omega)
    have g26 : (op == 26) = false := beq_eq_false_iff_ne.2 (by omega)
    have g27 : (op == 27) = false := beq_eq_false_iff_ne.2 (by omega)
    have g31 : (op == 31) = false := beq_eq_false_iff_ne.2 (by omega)
    have HT := Lib.hid (show makesL ⟨op, d, e, a, b, c, imm, args⟩ = [] from by unfold makesL; rw [if_neg (by simp only; omega), show makesN _ = 0 from makesN_none (by simp only; omega)]; rfl)
    go_enter Tryz.func25, Tryz.ntmps25
    go_upto_region 1 with (fail)
    obtain ⟨W1, hW1⟩ : ∃ W1, w.alloc (.cells #[.int .i64 op, .int .i64 d, .int .i64 e, .int .i64 a, .int .i64 b, .int .i64 c, .int .i32 imm, .slice A n k] 40) = W1 := ⟨_, rfl⟩
    have hbW1 : Below w.heap.size w W1 := by rw [← hW1]; exact (Below.refl _ _).alloc (Nat.le_refl _) _
    have hsW1 : Str W1 w.heap.size 40 [.int .i64 op, .int .i64 d, .int .i64 e, .int .i64 a, .int .i64 b, .int .i64 c, .int .i32 imm, .slice A n k] := by rw [← hW1]; exact World.alloc_heap_new w _
    rw [hW1]
    clear hW1
    have m0 : W1.cell? ⟨w.heap.size, 0, none⟩ = some (.int .i64 op) := hsW1.cell 0
    have m1 : W1.cell? ⟨w.heap.size, 1, none⟩ = some (.int .i64 d) := hsW1.cell 1
    have m2 : W1.cell? ⟨w.heap.size, 2, none⟩ = some (.int .i64 e) := hsW1.cell 2
    have m3 : W1.cell? ⟨w.heap.size, 3, none⟩ = some (.int .i64 a) := hsW1.cell 3
    have m4 : W1.cell? ⟨w.heap.size, 4, none⟩ = some (.int .i64 b) := hsW1.cell 4
    have m5 : W1.cell? ⟨w.heap.size, 5, none⟩ = some (.int .i64 c) := hsW1.cell 5
    have m6 : W1.cell? ⟨w.heap.size, 6, none⟩ = some (.int .i32 imm) := hsW1.cell 6
    have m7 : W1.cell? ⟨w.heap.size, 7, none⟩ = some (.slice A n k) := hsW1.cell 7
    have HB := Lib.hid hbW1
    clear hsW1 hbW1
    go_wp2
    go_ret
    refine ⟨_, rfl, ?_, HB.out⟩
    rw [HT.out]
    exact World.ownsRow_nil _ _ _ _
  · have g2 : (op == 2) = false := beq_eq_false_iff_ne.2 (by omega)
    have g29 : (op == 29) = false := beq_eq_false_iff_ne.2 (by omega)
    have g26 : (op == 26) = false := beq_eq_false_iff_ne.2 (by omega)
    have g27 : (op == 27) = false := beq_eq_false_iff_ne.2 (by omega)
    have g31 : (op == 31) = false := beq_eq_false_iff_ne.2 (by omega)
    have HT := Lib.hid (show makesL ⟨op, d, e, a, b, c, imm, args⟩ = [] from by unfold makesL; rw [if_neg (by simp only; omega), show makesN _ = 0 from makesN_none (by simp only; omega)]; rfl)
    go_enter Tryz.func25, Tryz.ntmps25
    go_upto_region 1 with (fail)
    obtain ⟨W1, hW1⟩ : ∃ W1, w.alloc (.cells #[.int .i64 op, .int .i64 d, .int .i64 e, .int .i64 a, .int .i64 b, .int .i64 c, .int .i32 imm, .slice A n k] 40) = W1 := ⟨_, rfl⟩
    have hbW1 : Below w.heap.size w W1 := by rw [← hW1]; exact (Below.refl _ _).alloc (Nat.le_refl _) _
    have hsW1 : Str W1 w.heap.size 40 [.int .i64 op, .int .i64 d, .int .i64 e, .int .i64 a, .int .i64 b, .int .i64 c, .int .i32 imm, .slice A n k] := by rw [← hW1]; exact World.alloc_heap_new w _
    rw [hW1]
    clear hW1
    have m0 : W1.cell? ⟨w.heap.size, 0, none⟩ = some (.int .i64 op) := hsW1.cell 0
    have m1 : W1.cell? ⟨w.heap.size, 1, none⟩ = some (.int .i64 d) := hsW1.cell 1
    have m2 : W1.cell? ⟨w.heap.size, 2, none⟩ = some (.int .i64 e) := hsW1.cell 2
    have m3 : W1.cell? ⟨w.heap.size, 3, none⟩ = some (.int .i64 a) := hsW1.cell 3
    have m4 : W1.cell? ⟨w.heap.size, 4, none⟩ = some (.int .i64 b) := hsW1.cell 4
    have m5 : W1.cell? ⟨w.heap.size, 5, none⟩ = some (.int .i64 c) := hsW1.cell 5
    have m6 : W1.cell? ⟨w.heap.size, 6, none⟩ = some (.int .i32 imm) := hsW1.cell 6
    have m7 : W1.cell? ⟨w.heap.size, 7, none⟩ = some (.slice A n k) := hsW1.cell 7
    have HB := Lib.hid hbW1
    clear hsW1 hbW1
    go_wp2
    go_ret
    refine ⟨_, rfl, ?_, HB.out⟩
    rw [HT.out]
    exact World.ownsRow_nil _ _ _ _
set_option maxRecDepth 100000 in
set_option maxHeartbeats 8000000 in
theorem rneeds_any (w : World) (i : PEnd) (A : Option Addr) (n k : Nat) :
    Calls Tryz.prog 27 #[.agg #[.int .i64 i.op, .int .i64 i.a, .int .i64 i.b, .slice A n k, .int .i32 i.imm]] w (RowPost (needsL i) w) := by
  obtain ⟨op, a, b, to, imm⟩ := i
  simp only at *
  rcases (show op = 1 ∨ op = 2 ∨ op = 3 ∨ op = 4 ∨ op = 5 ∨ op = 6 ∨ op = 7 ∨ op < 1 ∨ 7 < op by omega) with h | h | h | h | h | h | h | h | h
  · subst h
    have HT := Lib.hid (show needsL ⟨1, a, b, to, imm⟩ = [] from rfl)
    go_enter Tryz.func27, Tryz.ntmps27
    go_upto_region 1 with (fail)
    obtain ⟨W1, hW1⟩ : ∃ W1, w.alloc (.cells #[.int .i64 1, .int .i64 a, .int .i64 b, .slice A n k, .int .i32 imm] 42) = W1 := ⟨_, rfl⟩
    have hbW1 : Below w.heap.size w W1 := by rw [← hW1]; exact (Below.refl _ _).alloc (Nat.le_refl _) _
    have hsW1 : Str W1 w.heap.size 42 [.int .i64 1, .int .i64 a, .int .i64 b, .slice A n k, .int .i32 imm] := by rw [← hW1]; exact World.alloc_heap_new w _
    rw [hW1]
    clear hW1
    have m0 : W1.cell? ⟨w.heap.size, 0, none⟩ = some (.int .i64 1) := hsW1.cell 0
    have m1 : W1.cell? ⟨w.heap.size, 1, none⟩ = some (.int .i64 a) := hsW1.cell 1
    have m2 : W1.cell? ⟨w.heap.size, 2, none⟩ = some (.int .i64 b) := hsW1.cell 2
    have m3 : W1.cell? ⟨w.heap.size, 3, none⟩ = some (.slice A n k) := hsW1.cell 3
    have m4 : W1.cell? ⟨w.heap.size, 4, none⟩ = some (.int .i32 imm) := hsW1.cell 4
    have HB := Lib.hid hbW1
    clear hsW1 hbW1
    go_wp2
    go_ret
    refine ⟨_, rfl, ?_, HB.out⟩
    rw [HT.out]
    exact World.ownsRow_nil _ _ _ _
  · subst h
    have HT := Lib.hid (show needsL ⟨2, a, b, to, imm⟩ = [a] from rfl)
    go_enter Tryz.func27, Tryz.ntmps27
    go_upto_region 1 with (fail)
    obtain ⟨W1, hW1⟩ : ∃ W1, w.alloc (.cells #[.int .i64 2, .int .i64 a, .int .i64 b, .slice A n k, .int .i32 imm] 42) = W1 := ⟨_, rfl⟩
    have hbW1 : Below w.heap.size w W1 := by rw [← hW1]; exact (Below.refl _ _).alloc (Nat.le_refl _) _
    have hsW1 : Str W1 w.heap.size 42 [.int .i64 2, .int .i64 a, .int .i64 b, .slice A n k, .int .i32 imm] := by rw [← hW1]; exact World.alloc_heap_new w _
    rw [hW1]
    clear hW1
    have m0 : W1.cell? ⟨w.heap.size, 0, none⟩ = some (.int .i64 2) := hsW1.cell 0
    have m1 : W1.cell? ⟨w.heap.size, 1, none⟩ = some (.int .i64 a) := hsW1.cell 1
    have m2 : W1.cell? ⟨w.heap.size, 2, none⟩ = some (.int .i64 b) := hsW1.cell 2
    have m3 : W1.cell? ⟨w.heap.size, 3, none⟩ = some (.slice A n k) := hsW1.cell 3
    have m4 : W1.cell? ⟨w.heap.size, 4, none⟩ = some (.int .i32 imm) := hsW1.cell 4
    have HB := Lib.hid hbW1
    clear hsW1 hbW1
    go_wp2
    go_ret
    refine ⟨_, rfl, ?_, HB.out.alloc HB.out.size _⟩
    rw [HT.out]
    exact World.ownsRow_lit W1 #[.int .i64 a] 1 HB.out.size (by decide) rfl
  · subst h
    have HT := Lib.hid (show needsL ⟨3, a, b, to, imm⟩ = [a, b] from rfl)
    go_enter Tryz.func27, Tryz.ntmps27
    go_upto_region 1 with (fail)
    obtain ⟨W1, hW1⟩ : ∃ W1, w.alloc (.cells #[.int .i64 3, .int .i64 a, .int .i64 b, .slice A n k, .int .i32 imm] 42) = W1 := ⟨_, rfl⟩
    have hbW1 : Below w.heap.size w W1 := by rw [← hW1]; exact (Below.refl _ _).alloc (Nat.le_refl _) _
    have hsW1 : Str W1 w.heap.size 42 [.int .i64 3, .int .i64 a, .int .i64 b, .slice A n k, .int .i32 imm] := by rw [← hW1]; exact World.alloc_heap_new w _
    rw [hW1]
    clear hW1
    have m0 : W1.cell? ⟨w.heap.size, 0, none⟩ = some (.int .i64 3) := hsW1.cell 0
    have m1 : W1.cell? ⟨w.heap.size, 1, none⟩ = some (.int .i64 a) := hsW1.cell 1
    have m2 : W1.cell? ⟨w.heap.size, 2, none⟩ = some (.int .i64 b) := hsW1.cell 2
    have m3 : W1.cell? ⟨w.heap.size, 3, none⟩ = some (.slice A n k) := hsW1.cell 3
    have m4 : W1.cell? ⟨w.heap.size, 4, none⟩ = some (.int .i32 imm) := hsW1.cell 4
    have HB := Lib.hid hbW1
    clear hsW1 hbW1
    go_wp2
    go_ret
    refine ⟨_, rfl, ?_, HB.out.alloc HB.out.size _⟩
    rw [HT.out]
    exact World.ownsRow_lit W1 #[.int .i64 a, .int .i64 b] 2 HB.out.size (by decide) rfl
  · subst h
    have HT := Lib.hid (show needsL ⟨4, a, b, to, imm⟩ = [a, b] from rfl)
    go_enter Tryz.func27, Tryz.ntmps27
    go_upto_region 1 with (fail)
    obtain ⟨W1, hW1⟩ : ∃ W1, w.alloc (.cells #[.int .i64 4, .int .i64 a, .int .i64 b, .slice A n k, .int .i32 imm] 42) = W1 := ⟨_, rfl⟩
    have hbW1 : Below w.heap.size w W1 := by rw [← hW1]; exact (Below.refl _ _).alloc (Nat.le_refl _) _
    have hsW1 : Str W1 w.heap.size 42 [.int .i64 4, .int .i64 a, .int .i64 b, .slice A n k, .int .i32 imm] := by rw [← hW1]; exact World.alloc_heap_new w _
    rw [hW1]
    clear hW1
    have m0 : W1.cell? ⟨w.heap.size, 0, none⟩ = some (.int .i64 4) := hsW1.cell 0
    have m1 : W1.cell? ⟨w.heap.size, 1, none⟩ = some (.int .i64 a) := hsW1.cell 1
    have m2 : W1.cell? ⟨w.heap.size, 2, none⟩ = some (.int .i64 b) := hsW1.cell 2
    have m3 : W1.cell? ⟨w.heap.size, 3, none⟩ = some (.slice A n k) := hsW1.cell 3
    have m4 : W1.cell? ⟨w.heap.size, 4, none⟩ = some (.int .i32 imm) := hsW1.cell 4
    have HB := Lib.hid hbW1
    clear hsW1 hbW1
    go_wp2
    go_ret
    refine ⟨_, rfl, ?_, HB.out.alloc HB.out.size _⟩
    rw [HT.out]
    exact World.ownsRow_lit W1 #[.int .i64 a, .int .i64 b] 2 HB.out.size (by decide) rfl
  · subst h
    have HT := Lib.hid (show needsL ⟨5, a, b, to, imm⟩ = [a, b] from rfl)
    go_enter Tryz.func27, Tryz.ntmps27
    go_upto_region 1 with (fail)
    obtain ⟨W1, hW1⟩ : ∃ W1, w.alloc (.cells #[.int .i64 5, .int .i64 a, .int .i64 b, .slice A n k, .int .i32 imm] 42) = W1 := ⟨_, rfl⟩
    have hbW1 : Below w.heap.size w W1 := by rw [← hW1]; exact (Below.refl _ _).alloc (Nat.le_refl _) _
    have hsW1 : Str W1 w.heap.size 42 [.int .i64 5, .int .i64 a, .int .i64 b, .slice A n k, .int .i32 imm] := by rw [← hW1]; exact World.alloc_heap_new w _
    rw [hW1]
    clear hW1
    have m0 : W1.cell? ⟨w.heap.size, 0, none⟩ = some (.int .i64 5) := hsW1.cell 0
    have m1 : W1.cell? ⟨w.heap.size, 1, none⟩ = some (.int .i64 a) := hsW1.cell 1
    have m2 : W1.cell? ⟨w.heap.size, 2, none⟩ = some (.int .i64 b) := hsW1.cell 2
    have m3 : W1.cell? ⟨w.heap.size, 3, none⟩ = some (.slice A n k) := hsW1.cell 3
    have m4 : W1.cell? ⟨w.heap.size, 4, none⟩ = some (.int .i32 imm) := hsW1.cell 4
    have HB := Lib.hid hbW1
    clear hsW1 hbW1
    go_wp2
    go_ret
    refine ⟨_, rfl, ?_, HB.out.alloc HB.out.size _⟩
    rw [HT.out]
    exact World.ownsRow_lit W1 #[.int .i64 a, .int .i64 b] 2 HB.out.size (by decide) rfl
  · subst h
    have HT := Lib.hid (show needsL ⟨6, a, b, to, imm⟩ = [a] from rfl)
    go_enter Tryz.func27, Tryz.ntmps27
    go_upto_region 1 with (fail)
    obtain ⟨W1, hW1⟩ : ∃ W1, w.alloc (.cells #[.int .i64 6, .int .i64 a, .int .i64 b, .slice A n k, .int .i32 imm] 42) = W1 := ⟨_, rfl⟩
    have hbW1 : Below w.heap.size w W1 := by rw [← hW1]; exact (Below.refl _ _).alloc (Nat.le_refl _) _
    have hsW1 : Str W1 w.heap.size 42 [.int .i64 6, .int .i64 a, .int .i64 b, .slice A n k, .int .i32 imm] := by rw [← hW1]; exact World.alloc_heap_new w _
    rw [hW1]
    clear hW1
    have m0 : W1.cell? ⟨w.heap.size, 0, none⟩ = some (.int .i64 6) := hsW1.cell 0
    have m1 : W1.cell? ⟨w.heap.size, 1, none⟩ = some (.int .i64 a) := hsW1.cell 1
    have m2 : W1.cell? ⟨w.heap.size, 2, none⟩ = some (.int .i64 b) := hsW1.cell 2
    have m3 : W1.cell? ⟨w.heap.size, 3, none⟩ = some (.slice A n k) := hsW1.cell 3
    have m4 : W1.cell? ⟨w.heap.size, 4, none⟩ = some (.int .i32 imm) := hsW1.cell 4
    have HB := Lib.hid hbW1
    clear hsW1 hbW1
    go_wp2
    go_ret
    refine ⟨_, rfl, ?_, HB.out.alloc HB.out.size _⟩
    rw [HT.out]
    exact World.ownsRow_lit W1 #[.int .i64 a] 1 HB.out.size (by decide) rfl
  · subst h
    by_cases h0 : 0 ≤ a
    · have HT := Lib.hid (show needsL ⟨7, a, b, to, imm⟩ = [a] from by show (if 0 ≤ a then [a] else []) = _; exact if_pos h0)
      go_enter Tryz.func27, Tryz.ntmps27
      go_upto_region 1 with (fail)
      obtain ⟨W1, hW1⟩ : ∃ W1, w.alloc (.cells #[.int .i64 7, .int .i64 a, .int .i64 b, .slice A n k, .int .i32 imm] 42) = W1 := ⟨_, rfl⟩
      have hbW1 : Below w.heap.size w W1 := by rw [← hW1]; exact (Below.refl _ _).alloc (Nat.le_refl _) _
      have hsW1 : Str W1 w.heap.size 42 [.int .i64 7, .int .i64 a, .int .i64 b, .slice A n k, .int .i32 imm] := by rw [← hW1]; exact World.alloc_heap_new w _
      rw [hW1]
      clear hW1
      have m0 : W1.cell? ⟨w.heap.size, 0, none⟩ = some (.int .i64 7) := hsW1.cell 0
      have m1 : W1.cell? ⟨w.heap.size, 1, none⟩ = some (.int .i64 a) := hsW1.cell 1
      have m2 : W1.cell? ⟨w.heap.size, 2, none⟩ = some (.int .i64 b) := hsW1.cell 2
      have m3 : W1.cell? ⟨w.heap.size, 3, none⟩ = some (.slice A n k) := hsW1.cell 3
      have m4 : W1.cell? ⟨w.heap.size, 4, none⟩ = some (.int .i32 imm) := hsW1.cell 4
      have HB := Lib.hid hbW1
      clear hsW1 hbW1
      go_wp2
      go_ret
      refine ⟨_, rfl, ?_, HB.out.alloc HB.out.size _⟩
      rw [HT.out]
      exact World.ownsRow_lit W1 #[.int .i64 a] 1 HB.out.size (by decide) rfl
    · have HT := Lib.hid (show needsL ⟨7, a, b, to, imm⟩ = [] from by show (if 0 ≤ a then [a] else []) = _; exact if_neg h0)
      have h0 : a < 0 := by omega
      go_enter Tryz.func27, Tryz.ntmps27
      go_upto_region 1 with (fail)
      obtain ⟨W1, hW1⟩ : ∃ W1, w.alloc (.cells #[.int .i64 7, .int .i64 a, .int .i64 b, .slice A n k, .int .i32 imm] 42) = W1 := ⟨_, rfl⟩
      have hbW1 : Below w.heap.size w W1 := by rw [← hW1]; exact (Below.refl _ _).alloc (Nat.le_refl _) _
      have hsW1 : Str W1 w.heap.size 42 [.int .i64 7, .int .i64 a, .int .i64 b, .slice A n k, .int .i32 imm] := by rw [← hW1]; exact World.alloc_heap_new w _
      rw [hW1]
      clear hW1
      have m0 : W1.cell? ⟨w.heap.size, 0, none⟩ = some (.int .i64 7) := hsW1.cell 0
      have m1 : W1.cell? ⟨w.heap.size, 1, none⟩ = some (.int .i64 a) := hsW1.cell 1
      have m2 : W1.cell? ⟨w.heap.size, 2, none⟩ = some (.int .i64 b) := hsW1.cell 2
      have m3 : W1.cell? ⟨w.heap.size, 3, none⟩ = some (.slice A n k) := hsW1.cell 3
      have m4 : W1.cell? ⟨w.heap.size, 4, none⟩ = some (.int .i32 imm) := hsW1.cell 4
      have HB := Lib.hid hbW1
      clear hsW1 hbW1
      go_wp2
      go_ret
      refine ⟨_, rfl, ?_, HB.out⟩
      rw [HT.out]
      exact World.ownsRow_nil _ _ _ _
  · have g2 : (op == 2) = false := beq_eq_false_iff_ne.2 (by omega)
    have g6 : (op == 6) = false := beq_eq_false_iff_ne.2 (by omega)
    have g3 : (op == 3) = false := beq_eq_false_iff_ne.2 (by omega)
    have g4 : (op == 4) = false := beq_eq_false_iff_ne.2 (by omega)
    have g5 : (op == 5) = false := beq_eq_false_iff_ne.2 (by omega)
    have g7 : (op == 7) = false := beq_eq_false_iff_ne.2 (by omega)
    have HT := Lib.hid (show needsL ⟨op, a, b, to, imm⟩ = [] from by unfold needsL; simp only; rw [if_neg (by omega), if_neg (by omega), if_neg (by omega), if_neg (by omega), if_neg (by omega), if_neg (by omega)])
    go_enter Tryz.func27, Tryz.ntmps27
    go_upto_region 1 with (fail)
    obtain ⟨W1, hW1⟩ : ∃ W1, w.alloc (.cells #[.int .i64 op, .int .i64 a, .int .i64 b, .slice A n k, .int .i32 imm] 42) = W1 := ⟨_, rfl⟩
    have hbW1 : Below w.heap.size w W1 := by rw [← hW1]; exact (Below.refl _ _).alloc (Nat.le_refl _) _
    have hsW1 : Str W1 w.heap.size 42 [.int .i64 op, .int .i64 a, .int .i64 b, .slice A n k, .int .i32 imm] := by rw [← hW1]; exact World.alloc_heap_new w _
    rw [hW1]
    clear hW1
    have m0 : W1.cell? ⟨w.heap.size, 0, none⟩ = some (.int .i64 op) := hsW1.cell 0
    have m1 : W1.cell? ⟨w.heap.size, 1, none⟩ = some (.int .i64 a) := hsW1.cell 1
    have m2 : W1.cell? ⟨w.heap.size, 2, none⟩ = some (.int .i64 b) := hsW1.cell 2
    have m3 : W1.cell? ⟨w.heap.size, 3, none⟩ = some (.slice A n k) := hsW1.cell 3
    have m4 : W1.cell? ⟨w.heap.size, 4, none⟩ = some (.int .i32 imm) := hsW1.cell 4
    have HB := Lib.hid hbW1
    clear hsW1 hbW1
    go_wp2
    go_ret
    refine ⟨_, rfl, ?_, HB.out⟩
    rw [HT.out]
    exact World.ownsRow_nil _ _ _ _
  · have g2 : (op == 2) = false := beq_eq_false_iff_ne.2 (by omega)
    have g6 : (op == 6) = false := beq_eq_false_iff_ne.2 (by omega)
    have g3 : (op == 3) = false := beq_eq_false_iff_ne.2 (by omega)
    have g4 : (op == 4) = false := beq_eq_false_iff_ne.2 (by omega)
    have g5 : (op == 5) = false := beq_eq_false_iff_ne.2 (by omega)
    have g7 : (op == 7) = false := beq_eq_false_iff_ne.2 (by omega)
    have HT := Lib.hid (show needsL ⟨op, a, b, to, imm⟩ = [] from by unfold needsL; simp only; rw [if_neg (by omega), if_neg (by omega), if_neg (by omega), if_neg (by omega), if_neg (by omega), if_neg (by omega)])
    go_enter Tryz.func27, Tryz.ntmps27
    go_upto_region 1 with (fail)
    obtain ⟨W1, hW1⟩ : ∃ W1, w.alloc (.cells #[.int .i64 op, .int .i64 a, .int .i64 b, .slice A n k, .int .i32 imm] 42) = W1 := ⟨_, rfl⟩
    have hbW1 : Below w.heap.size w W1 := by rw [← hW1]; exact (Below.refl _ _).alloc (Nat.le_refl _) _
    have hsW1 : Str W1 w.heap.size 42 [.int .i64 op, .int .i64 a, .int .i64 b, .slice A n k, .int .i32 imm] := by rw [← hW1]; exact World.alloc_heap_new w _
    rw [hW1]
    clear hW1
    have m0 : W1.cell? ⟨w.heap.size, 0, none⟩ = some (.int .i64 op) := hsW1.cell 0
    have m1 : W1.cell? ⟨w.heap.size, 1, none⟩ = some (.int .i64 a) := hsW1.cell 1
    have m2 : W1.cell? ⟨w.heap.size, 2, none⟩ = some (.int .i64 b) := hsW1.cell 2
    have m3 : W1.cell? ⟨w.heap.size, 3, none⟩ = some (.slice A n k) := hsW1.cell 3
    have m4 : W1.cell? ⟨w.heap.size, 4, none⟩ = some (.int .i32 imm) := hsW1.cell 4
    have HB := Lib.hid hbW1
    clear hsW1 hbW1
    go_wp2
    go_ret
    refine ⟨_, rfl, ?_, HB.out⟩
    rw [HT.out]
    exact World.ownsRow_nil _ _ _ _
set_option maxRecDepth 100000 in
set_option maxHeartbeats 8000000 in
theorem rgoes_any (w : World) (i : PEnd) (A : Option Addr) (n k : Nat) (v : Value) (l : List Int) (hv : WordsAt w v l) (hn2 : n ≤ 1000000) (hr : ∀ r, InW (getP l r)) :
    Calls Tryz.prog 29 #[.agg #[.int .i64 i.op, .int .i64 i.a, .int .i64 i.b, .slice A n k, .int .i32 i.imm], v] w (fun en w' => en = .returned (.int .i64 (goesF i.op (getP l i.a) (getP l i.b) n)) ∧ Below w.heap.size w w') := by
  obtain ⟨op, a, b, to, imm⟩ := i
  have HV := Lib.hid hv
  obtain ⟨vA, vc, rfl, _, _, _⟩ := hv
  simp only at *
  obtain ⟨x, hx⟩ : ∃ x, getP l a = x := ⟨_, rfl⟩
  obtain ⟨y, hy⟩ : ∃ y, getP l b = y := ⟨_, rfl⟩
  have hxw := hr a
  have hyw := hr b
  rw [hx] at hxw
  rw [hy] at hyw
  obtain ⟨hx1, hx2⟩ := hxw
  obtain ⟨hy1, hy2⟩ := hyw
  rw [hx, hy]
  have HX := Lib.hid hx
  have HY := Lib.hid hy
  clear hr hx hy
  rcases (show op = 1 ∨ op = 2 ∨ op = 3 ∨ op = 4 ∨ op = 5 ∨ op = 6 ∨ op < 1 ∨ 6 < op by omega) with h | h | h | h | h | h | h | h
  · subst h
    have HT := Lib.hid (show goesF 1 x y n = 0 by rfl)
    rw [HT.out]
    go_enter Tryz.func29, Tryz.ntmps29
    go_upto_region 1 with (fail)
    obtain ⟨W1, hW1⟩ : ∃ W1, w.alloc (.cells #[.int .i64 1, .int .i64 a, .int .i64 b, .slice A n k, .int .i32 imm] 42) = W1 := ⟨_, rfl⟩
    have hbW1 : Below w.heap.size w W1 := by rw [← hW1]; exact (Below.refl _ _).alloc (Nat.le_refl _) _
    have hsW1 : Str W1 w.heap.size 42 [.int .i64 1, .int .i64 a, .int .i64 b, .slice A n k, .int .i32 imm] := by rw [← hW1]; exact World.alloc_heap_new w _
    rw [hW1]
    clear hW1
    have m0 : W1.cell? ⟨w.heap.size, 0, none⟩ = some (.int .i64 1) := hsW1.cell 0
    have m1 : W1.cell? ⟨w.heap.size, 1, none⟩ = some (.int .i64 a) := hsW1.cell 1
    have m2 : W1.cell? ⟨w.heap.size, 2, none⟩ = some (.int .i64 b) := hsW1.cell 2
    have m3 : W1.cell? ⟨w.heap.size, 3, none⟩ = some (.slice A n k) := hsW1.cell 3
    have m4 : W1.cell? ⟨w.heap.size, 4, none⟩ = some (.int .i32 imm) := hsW1.cell 4
    have HB := Lib.hid hbW1
    have HV1 := Lib.hid (HV.out.below hbW1)
    clear hsW1 hbW1
    go_wp2_with fail
    refine (rget_any W1 _ l a HV1.out).mono ?_
    rintro en W1 ⟨rfl, rfl⟩
    rw [HX.out]
    go_wp2_with fail
    refine (rget_any W1 _ l b HV1.out).mono ?_
    rintro en W1 ⟨rfl, rfl⟩
    rw [HY.out]
    go_wp2_with fail
    go_ret
    exact ⟨rfl, HB.out⟩
  · subst h
    cases hc : (x != 0) with
    | true =>
      have HT := Lib.hid (show goesF 2 x y n = 0 by show (if (x != 0) = true then (0 : Int) else 1) = 0; rw [hc]; rfl)
      rw [HT.out]
      go_enter Tryz.func29, Tryz.ntmps29
      go_upto_region 1 with (fail)
      obtain ⟨W1, hW1⟩ : ∃ W1, w.alloc (.cells #[.int .i64 2, .int .i64 a, .int .i64 b, .slice A n k, .int .i32 imm] 42) = W1 := ⟨_, rfl⟩
      have hbW1 : Below w.heap.size w W1 := by rw [← hW1]; exact (Below.refl _ _).alloc (Nat.le_refl _) _
      have hsW1 : Str W1 w.heap.size 42 [.int .i64 2, .int .i64 a, .int .i64 b, .slice A n k, .int .i32 imm] := by rw [← hW1]; exact World.alloc_heap_new w _
      rw [hW1]
      clear hW1
      have m0 : W1.cell? ⟨w.heap.size, 0, none⟩ = some (.int .i64 2) := hsW1.cell 0
      have m1 : W1.cell? ⟨w.heap.size, 1, none⟩ = some (.int .i64 a) := hsW1.cell 1
      have m2 : W1.cell? ⟨w.heap.size, 2, none⟩ = some (.int .i64 b) := hsW1.cell 2
      have m3 : W1.cell? ⟨w.heap.size, 3, none⟩ = some (.slice A n k) := hsW1.cell 3
      have m4 : W1.cell? ⟨w.heap.size, 4, none⟩ = some (.int .i32 imm) := hsW1.cell 4
      have HB := Lib.hid hbW1
      have HV1 := Lib.hid (HV.out.below hbW1)
      clear hsW1 hbW1
      go_wp2_with fail
      refine (rget_any W1 _ l a HV1.out).mono ?_
      rintro en W1 ⟨rfl, rfl⟩
      rw [HX.out]
      go_wp2_with fail
      refine (rget_any W1 _ l b HV1.out).mono ?_
      rintro en W1 ⟨rfl, rfl⟩
      rw [HY.out]
      go_wp2_with fail
      go_ret
      exact ⟨rfl, HB.out⟩
    | false =>
      have HT := Lib.hid (show goesF 2 x y n = 1 by show (if (x != 0) = true then (0 : Int) else 1) = 1; rw [hc]; rfl)
      rw [HT.out]
      go_enter Tryz.func29, Tryz.ntmps29
      go_upto_region 1 with (fail)
      obtain ⟨W1, hW1⟩ : ∃ W1, w.alloc (.cells #[.int .i64 2, .int .i64 a, .int .i64 b, .slice A n k, .int .i32 imm] 42) = W1 := ⟨_, rfl⟩
      have hbW1 : Below w.heap.size w W1 := by rw [← hW1]; exact (Below.refl _ _).alloc (Nat.le_refl _) _
      have hsW1 : Str W1 w.heap.size 42 [.int .i64 2, .int .i64 a, .int .i64 b, .slice A n k, .int .i32 imm] := by rw [← hW1]; exact World.alloc_heap_new w _
      rw [hW1]
      clear hW1
      have m0 : W1.cell? ⟨w.heap.size, 0, none⟩ = some (.int .i64 2) := hsW1.cell 0
      have m1 : W1.cell? ⟨w.heap.size, 1, none⟩ = some (.int .i64 a) := hsW1.cell 1
      have m2 : W1.cell? ⟨w.heap.size, 2, none⟩ = some (.int .i64 b) := hsW1.cell 2
      have m3 : W1.cell? ⟨w.heap.size, 3, none⟩ = some (.slice A n k) := hsW1.cell 3
      have m4 : W1.cell? ⟨w.heap.size, 4, none⟩ = some (.int .i32 imm) := hsW1.cell 4
      have HB := Lib.hid hbW1
      have HV1 := Lib.hid (HV.out.below hbW1)
      clear hsW1 hbW1
      go_wp2_with fail
      refine (rget_any W1 _ l a HV1.out).mono ?_
      rintro en W1 ⟨rfl, rfl⟩
      rw [HX.out]
      go_wp2_with fail
      refine (rget_any W1 _ l b HV1.out).mono ?_
      rintro en W1 ⟨rfl, rfl⟩
      rw [HY.out]
      go_wp2_with fail
      go_ret
      exact ⟨rfl, HB.out⟩
  · subst h
    cases hc : (x == y) with
    | true =>
      have HT := Lib.hid (show goesF 3 x y n = 0 by show (if (x == y) = true then (0 : Int) else 1) = 0; rw [hc]; rfl)
      rw [HT.out]
      go_enter Tryz.func29, Tryz.ntmps29
      go_upto_region 1 with (fail)
      obtain ⟨W1, hW1⟩ : ∃ W1, w.alloc (.cells #[.int .i64 3, .int .i64 a, .int .i64 b, .slice A n k, .int .i32 imm] 42) = W1 := ⟨_, rfl⟩
      have hbW1 : Below w.heap.size w W1 := by rw [← hW1]; exact (Below.refl _ _).alloc (Nat.le_refl _) _
      have hsW1 : Str W1 w.heap.size 42 [.int .i64 3, .int .i64 a, .int .i64 b, .slice A n k, .int .i32 imm] := by rw [← hW1]; exact World.alloc_heap_new w _
      rw [hW1]
      clear hW1
      have m0 : W1.cell? ⟨w.heap.size, 0, none⟩ = some (.int .i64 3) := hsW1.cell 0
      have m1 : W1.cell? ⟨w.heap.size, 1, none⟩ = some (.int .i64 a) := hsW1.cell 1
      have m2 : W1.cell? ⟨w.heap.size, 2, none⟩ = some (.int .i64 b) := hsW1.cell 2
      have m3 : W1.cell? ⟨w.heap.size, 3, none⟩ = some (.slice A n k) := hsW1.cell 3
      have m4 : W1.cell? ⟨w.heap.size, 4, none⟩ = some (.int .i32 imm) := hsW1.cell 4
      have HB := Lib.hid hbW1
      have HV1 := Lib.hid (HV.out.below hbW1)
      clear hsW1 hbW1
      go_wp2_with fail
      refine (rget_any W1 _ l a HV1.out).mono ?_
      rintro en W1 ⟨rfl, rfl⟩
      rw [HX.out]
      go_wp2_with fail
      refine (rget_any W1 _ l b HV1.out).mono ?_
      rintro en W1 ⟨rfl, rfl⟩
      rw [HY.out]
      go_wp2_with fail
      go_ret
      exact ⟨rfl, HB.out⟩
    | false =>
      have HT := Lib.hid (show goesF 3 x y n = 1 by show (if (x == y) = true then (0 : Int) else 1) = 1; rw [hc]; rfl)
      rw [HT.out]
      go_enter Tryz.func29, Tryz.ntmps29
      go_upto_region 1 with (fail)
      obtain ⟨W1, hW1⟩ : ∃ W1, w.alloc (.cells #[.int .i64 3, .int .i64 a, .int .i64 b, .slice A n k, .int .i32 imm] 42) = W1 := ⟨_, rfl⟩
      have hbW1 : Below w.heap.size w W1 := by rw [← hW1]; exact (Below.refl _ _).alloc (Nat.le_refl _) _
      have hsW1 : Str W1 w.heap.size 42 [.int .i64 3, .int .i64 a, .int .i64 b, .slice A n k, .int .i32 imm] := by rw [← hW1]; exact World.alloc_heap_new w _
      rw [hW1]
      clear hW1
      have m0 : W1.cell? ⟨w.heap.size, 0, none⟩ = some (.int .i64 3) := hsW1.cell 0
      have m1 : W1.cell? ⟨w.heap.size, 1, none⟩ = some (.int .i64 a) := hsW1.cell 1
      have m2 : W1.cell? ⟨w.heap.size, 2, none⟩ = some (.int .i64 b) := hsW1.cell 2
      have m3 : W1.cell? ⟨w.heap.size, 3, none⟩ = some (.slice A n k) := hsW1.cell 3
      have m4 : W1.cell? ⟨w.heap.size, 4, none⟩ = some (.int .i32 imm) := hsW1.cell 4
      have HB := Lib.hid hbW1
      have HV1 := Lib.hid (HV.out.below hbW1)
      clear hsW1 hbW1
      go_wp2_with fail
      refine (rget_any W1 _ l a HV1.out).mono ?_
      rintro en W1 ⟨rfl, rfl⟩
      rw [HX.out]
      go_wp2_with fail
      refine (rget_any W1 _ l b HV1.out).mono ?_
      rintro en W1 ⟨rfl, rfl⟩
      rw [HY.out]
      go_wp2_with fail
      go_ret
      exact ⟨rfl, HB.out⟩
  · subst h
    by_cases hc : x < y
    · have HT := Lib.hid (show goesF 4 x y n = 0 by show (if decide (x < y) = true then (0 : Int) else 1) = 0; rw [decide_eq_true hc]; rfl)
      rw [HT.out]
      go_enter Tryz.func29, Tryz.ntmps29
      go_upto_region 1 with (fail)
      obtain ⟨W1, hW1⟩ : ∃ W1, w.alloc (.cells #[.int .i64 4, .int .i64 a, .int .i64 b, .slice A n k, .int .i32 imm] 42) = W1 := ⟨_, rfl⟩
      have hbW1 : Below w.heap.size w W1 := by rw [← hW1]; exact (Below.refl _ _).alloc (Nat.le_refl _) _
      have hsW1 : Str W1 w.heap.size 42 [.int .i64 4, .int .i64 a, .int .i64 b, .slice A n k, .int .i32 imm] := by rw [← hW1]; exact World.alloc_heap_new w _
      rw [hW1]
      clear hW1
      have m0 : W1.cell? ⟨w.heap.size, 0, none⟩ = some (.int .i64 4) := hsW1.cell 0
      have m1 : W1.cell? ⟨w.heap.size, 1, none⟩ = some (.int .i64 a) := hsW1.cell 1
      have m2 : W1.cell? ⟨w.heap.size, 2, none⟩ = some (.int .i64 b) := hsW1.cell 2
      have m3 : W1.cell? ⟨w.heap.size, 3, none⟩ = some (.slice A n k) := hsW1.cell 3
      have m4 : W1.cell? ⟨w.heap.size, 4, none⟩ = some (.int .i32 imm) := hsW1.cell 4
      have HB := Lib.hid hbW1
      have HV1 := Lib.hid (HV.out.below hbW1)
      clear hsW1 hbW1
      go_wp2_with fail
      refine (rget_any W1 _ l a HV1.out).mono ?_
      rintro en W1 ⟨rfl, rfl⟩
      rw [HX.out]
      go_wp2_with fail
      refine (rget_any W1 _ l b HV1.out).mono ?_
      rintro en W1 ⟨rfl, rfl⟩
      rw [HY.out]
      go_wp2_with fail
      go_ret
      exact ⟨rfl, HB.out⟩
    · have HT := Lib.hid (show goesF 4 x y n = 1 by show (if decide (x < y) = true then (0 : Int) else 1) = 1; rw [decide_eq_false hc]; rfl)
      rw [HT.out]
      go_enter Tryz.func29, Tryz.ntmps29
      go_upto_region 1 with (fail)
      obtain ⟨W1, hW1⟩ : ∃ W1, w.alloc (.cells #[.int .i64 4, .int .i64 a, .int .i64 b, .slice A n k, .int .i32 imm] 42) = W1 := ⟨_, rfl⟩
      have hbW1 : Below w.heap.size w W1 := by rw [← hW1]; exact (Below.refl _ _).alloc (Nat.le_refl _) _
      have hsW1 : Str W1 w.heap.size 42 [.int .i64 4, .int .i64 a, .int .i64 b, .slice A n k, .int .i32 imm] := by rw [← hW1]; exact World.alloc_heap_new w _
      rw [hW1]
      clear hW1
      have m0 : W1.cell? ⟨w.heap.size, 0, none⟩ = some (.int .i64 4) := hsW1.cell 0
      have m1 : W1.cell? ⟨w.heap.size, 1, none⟩ = some (.int .i64 a) := hsW1.cell 1
      have m2 : W1.cell? ⟨w.heap.size, 2, none⟩ = some (.int .i64 b) := hsW1.cell 2
      have m3 : W1.cell? ⟨w.heap.size, 3, none⟩ = some (.slice A n k) := hsW1.cell 3
      have m4 : W1.cell? ⟨w.heap.size, 4, none⟩ = some (.int .i32 imm) := hsW1.cell 4
      have HB := Lib.hid hbW1
      have HV1 := Lib.hid (HV.out.below hbW1)
      clear hsW1 hbW1
      go_wp2_with fail
      refine (rget_any W1 _ l a HV1.out).mono ?_
      rintro en W1 ⟨rfl, rfl⟩
      rw [HX.out]
      go_wp2_with fail
      refine (rget_any W1 _ l b HV1.out).mono ?_
      rintro en W1 ⟨rfl, rfl⟩
      rw [HY.out]
      go_wp2_with fail
      go_ret
      exact ⟨rfl, HB.out⟩
  · subst h
    by_cases hc : x % 4294967296 < y % 4294967296
    · have HT := Lib.hid (show goesF 5 x y n = 0 by show (if decide (x % 4294967296 < y % 4294967296) = true then (0 : Int) else 1) = 0; rw [decide_eq_true hc]; rfl)
      rw [HT.out]
      go_enter Tryz.func29, Tryz.ntmps29
      go_upto_region 1 with (fail)
      obtain ⟨W1, hW1⟩ : ∃ W1, w.alloc (.cells #[.int .i64 5, .int .i64 a, .int .i64 b, .slice A n k, .int .i32 imm] 42) = W1 := ⟨_, rfl⟩
      have hbW1 : Below w.heap.size w W1 := by rw [← hW1]; exact (Below.refl _ _).alloc (Nat.le_refl _) _
      have hsW1 : Str W1 w.heap.size 42 [.int .i64 5, .int .i64 a, .int .i64 b, .slice A n k, .int .i32 imm] := by rw [← hW1]; exact World.alloc_heap_new w _
      rw [hW1]
      clear hW1
      have m0 : W1.cell? ⟨w.heap.size, 0, none⟩ = some (.int .i64 5) := hsW1.cell 0
      have m1 : W1.cell? ⟨w.heap.size, 1, none⟩ = some (.int .i64 a) := hsW1.cell 1
      have m2 : W1.cell? ⟨w.heap.size, 2, none⟩ = some (.int .i64 b) := hsW1.cell 2
      have m3 : W1.cell? ⟨w.heap.size, 3, none⟩ = some (.slice A n k) := hsW1.cell 3
      have m4 : W1.cell? ⟨w.heap.size, 4, none⟩ = some (.int .i32 imm) := hsW1.cell 4
      have HB := Lib.hid hbW1
      have HV1 := Lib.hid (HV.out.below hbW1)
      clear hsW1 hbW1
      go_wp2_with fail
      refine (rget_any W1 _ l a HV1.out).mono ?_
      rintro en W1 ⟨rfl, rfl⟩
      rw [HX.out]
      go_wp2_with fail
      refine (rget_any W1 _ l b HV1.out).mono ?_
      rintro en W1 ⟨rfl, rfl⟩
      rw [HY.out]
      go_wp2_with fail
      go_ret
      exact ⟨rfl, HB.out⟩
    · have HT := Lib.hid (show goesF 5 x y n = 1 by show (if decide (x % 4294967296 < y % 4294967296) = true then (0 : Int) else 1) = 1; rw [decide_eq_false hc]; rfl)
      rw [HT.out]
      go_enter Tryz.func29, Tryz.ntmps29
      go_upto_region 1 with (fail)
      obtain ⟨W1, hW1⟩ : ∃ W1, w.alloc (.cells #[.int .i64 5, .int .i64 a, .int .i64 b, .slice A n k, .int .i32 imm] 42) = W1 := ⟨_, rfl⟩
      have hbW1 : Below w.heap.size w W1 := by rw [← hW1]; exact (Below.refl _ _).alloc (Nat.le_refl _) _
      have hsW1 : Str W1 w.heap.size 42 [.int .i64 5, .int .i64 a, .int .i64 b, .slice A n k, .int .i32 imm] := by rw [← hW1]; exact World.alloc_heap_new w _
      rw [hW1]
      clear hW1
      have m0 : W1.cell? ⟨w.heap.size, 0, none⟩ = some (.int .i64 5) := hsW1.cell 0
      have m1 : W1.cell? ⟨w.heap.size, 1, none⟩ = some (.int .i64 a) := hsW1.cell 1
      have m2 : W1.cell? ⟨w.heap.size, 2, none⟩ = some (.int .i64 b) := hsW1.cell 2
      have m3 : W1.cell? ⟨w.heap.size, 3, none⟩ = some (.slice A n k) := hsW1.cell 3
      have m4 : W1.cell? ⟨w.heap.size, 4, none⟩ = some (.int .i32 imm) := hsW1.cell 4
      have HB := Lib.hid hbW1
      have HV1 := Lib.hid (HV.out.below hbW1)
      clear hsW1 hbW1
      go_wp2_with fail
      refine (rget_any W1 _ l a HV1.out).mono ?_
      rintro en W1 ⟨rfl, rfl⟩
      rw [HX.out]
      go_wp2_with fail
      refine (rget_any W1 _ l b HV1.out).mono ?_
      rintro en W1 ⟨rfl, rfl⟩
      rw [HY.out]
      go_wp2_with fail
      go_ret
      exact ⟨rfl, HB.out⟩
  · subst h
    by_cases hc : x % 4294967296 < (n : Int) - 1
    · have HT := Lib.hid (show goesF 6 x y n = x % 4294967296 by show min (x % 4294967296) ((n : Int) - 1) = _; omega)
      rw [HT.out]
      go_enter Tryz.func29, Tryz.ntmps29
      go_upto_region 1 with (fail)
      obtain ⟨W1, hW1⟩ : ∃ W1, w.alloc (.cells #[.int .i64 6, .int .i64 a, .int .i64 b, .slice A n k, .int .i32 imm] 42) = W1 := ⟨_, rfl⟩
      have hbW1 : Below w.heap.size w W1 := by rw [← hW1]; exact (Below.refl _ _).alloc (Nat.le_refl _) _
      have hsW1 : Str W1 w.heap.size 42 [.int .i64 6, .int .i64 a, .int .i64 b, .slice A n k, .int .i32 imm] := by rw [← hW1]; exact World.alloc_heap_new w _
      rw [hW1]
      clear hW1
      have m0 : W1.cell? ⟨w.heap.size, 0, none⟩ = some (.int .i64 6) := hsW1.cell 0
      have m1 : W1.cell? ⟨w.heap.size, 1, none⟩ = some (.int .i64 a) := hsW1.cell 1
      have m2 : W1.cell? ⟨w.heap.size, 2, none⟩ = some (.int .i64 b) := hsW1.cell 2
      have m3 : W1.cell? ⟨w.heap.size, 3, none⟩ = some (.slice A n k) := hsW1.cell 3
      have m4 : W1.cell? ⟨w.heap.size, 4, none⟩ = some (.int .i32 imm) := hsW1.cell 4
      have HB := Lib.hid hbW1
      have HV1 := Lib.hid (HV.out.below hbW1)
      clear hsW1 hbW1
      go_wp2_with fail
      refine (rget_any W1 _ l a HV1.out).mono ?_
      rintro en W1 ⟨rfl, rfl⟩
      rw [HX.out]
      go_wp2_with fail
      refine (rget_any W1 _ l b HV1.out).mono ?_
      rintro en W1 ⟨rfl, rfl⟩
      rw [HY.out]
      go_wp2_with fail
      go_ret
      exact ⟨ret_int (by omega), HB.out⟩
    · have HT := Lib.hid (show goesF 6 x y n = (n : Int) - 1 by show min (x % 4294967296) ((n : Int) - 1) = _; omega)
      rw [HT.out]
      go_enter Tryz.func29, Tryz.ntmps29
      go_upto_region 1 with (fail)
      obtain ⟨W1, hW1⟩ : ∃ W1, w.alloc (.cells #[.int .i64 6, .int .i64 a, .int .i64 b, .slice A n k, .int .i32 imm] 42) = W1 := ⟨_, rfl⟩
      have hbW1 : Below w.heap.size w W1 := by rw [← hW1]; exact (Below.refl _ _).alloc (Nat.le_refl _) _
      have hsW1 : Str W1 w.heap.size 42 [.int .i64 6, .int .i64 a, .int .i64 b, .slice A n k, .int .i32 imm] := by rw [← hW1]; exact World.alloc_heap_new w _
      rw [hW1]
      clear hW1
      have m0 : W1.cell? ⟨w.heap.size, 0, none⟩ = some (.int .i64 6) := hsW1.cell 0
      have m1 : W1.cell? ⟨w.heap.size, 1, none⟩ = some (.int .i64 a) := hsW1.cell 1
      have m2 : W1.cell? ⟨w.heap.size, 2, none⟩ = some (.int .i64 b) := hsW1.cell 2
      have m3 : W1.cell? ⟨w.heap.size, 3, none⟩ = some (.slice A n k) := hsW1.cell 3
      have m4 : W1.cell? ⟨w.heap.size, 4, none⟩ = some (.int .i32 imm) := hsW1.cell 4
      have HB := Lib.hid hbW1
      have HV1 := Lib.hid (HV.out.below hbW1)
      clear hsW1 hbW1
      go_wp2_with fail
      refine (rget_any W1 _ l a HV1.out).mono ?_
      rintro en W1 ⟨rfl, rfl⟩
      rw [HX.out]
      go_wp2_with fail
      refine (rget_any W1 _ l b HV1.out).mono ?_
      rintro en W1 ⟨rfl, rfl⟩
      rw [HY.out]
      go_wp2_with fail
      go_ret
      exact ⟨rfl, HB.out⟩
  · have g1 : (op == 1) = false := beq_eq_false_iff_ne.2 (by omega)
    have g2 : (op == 2) = false := beq_eq_false_iff_ne.2 (by omega)
    have g3 : (op == 3) = false := beq_eq_false_iff_ne.2 (by omega)
    have g4 : (op == 4) = false := beq_eq_false_iff_ne.2 (by omega)
    have g5 : (op == 5) = false := beq_eq_false_iff_ne.2 (by omega)
    have g6 : (op == 6) = false := beq_eq_false_iff_ne.2 (by omega)
    have HT := Lib.hid (show goesF op x y n = -1 by unfold goesF; rw [if_neg (by omega), if_neg (by omega), if_neg (by omega), if_neg (by omega), if_neg (by omega), if_neg (by omega)])
    rw [HT.out]
    go_enter Tryz.func29, Tryz.ntmps29
    go_upto_region 1 with (fail)
    obtain ⟨W1, hW1⟩ : ∃ W1, w.alloc (.cells #[.int .i64 op, .int .i64 a, .int .i64 b, .slice A n k, .int .i32 imm] 42) = W1 := ⟨_, rfl⟩
    have hbW1 : Below w.heap.size w W1 := by rw [← hW1]; exact (Below.refl _ _).alloc (Nat.le_refl _) _
    have hsW1 : Str W1 w.heap.size 42 [.int .i64 op, .int .i64 a, .int .i64 b, .slice A n k, .int .i32 imm] := by rw [← hW1]; exact World.alloc_heap_new w _
    rw [hW1]
    clear hW1
    have m0 : W1.cell? ⟨w.heap.size, 0, none⟩ = some (.int .i64 op) := hsW1.cell 0
    have m1 : W1.cell? ⟨w.heap.size, 1, none⟩ = some (.int .i64 a) := hsW1.cell 1
    have m2 : W1.cell? ⟨w.heap.size, 2, none⟩ = some (.int .i64 b) := hsW1.cell 2
    have m3 : W1.cell? ⟨w.heap.size, 3, none⟩ = some (.slice A n k) := hsW1.cell 3
    have m4 : W1.cell? ⟨w.heap.size, 4, none⟩ = some (.int .i32 imm) := hsW1.cell 4
    have HB := Lib.hid hbW1
    have HV1 := Lib.hid (HV.out.below hbW1)
    clear hsW1 hbW1
    go_wp2_with fail
    refine (rget_any W1 _ l a HV1.out).mono ?_
    rintro en W1 ⟨rfl, rfl⟩
    rw [HX.out]
    go_wp2_with fail
    refine (rget_any W1 _ l b HV1.out).mono ?_
    rintro en W1 ⟨rfl, rfl⟩
    rw [HY.out]
    go_wp2_with fail
    go_ret
    exact ⟨rfl, HB.out⟩
  · have g1 : (op == 1) = false := beq_eq_false_iff_ne.2 (by omega)
    have g2 : (op == 2) = false := beq_eq_false_iff_ne.2 (by omega)
    have g3 : (op == 3) = false := beq_eq_false_iff_ne.2 (by omega)
    have g4 : (op == 4) = false := beq_eq_false_iff_ne.2 (by omega)
    have g5 : (op == 5) = false := beq_eq_false_iff_ne.2 (by omega)
    have g6 : (op == 6) = false := beq_eq_false_iff_ne.2 (by omega)
    have HT := Lib.hid (show goesF op x y n = -1 by unfold goesF; rw [if_neg (by omega), if_neg (by omega), if_neg (by omega), if_neg (by omega), if_neg (by omega), if_neg (by omega)])
    rw [HT.out]
    go_enter Tryz.func29, Tryz.ntmps29
    go_upto_region 1 with (fail)
    obtain ⟨W1, hW1⟩ : ∃ W1, w.alloc (.cells #[.int .i64 op, .int .i64 a, .int .i64 b, .slice A n k, .int .i32 imm] 42) = W1 := ⟨_, rfl⟩
    have hbW1 : Below w.heap.size w W1 := by rw [← hW1]; exact (Below.refl _ _).alloc (Nat.le_refl _) _
    have hsW1 : Str W1 w.heap.size 42 [.int .i64 op, .int .i64 a, .int .i64 b, .slice A n k, .int .i32 imm] := by rw [← hW1]; exact World.alloc_heap_new w _
    rw [hW1]
    clear hW1
    have m0 : W1.cell? ⟨w.heap.size, 0, none⟩ = some (.int .i64 op) := hsW1.cell 0
    have m1 : W1.cell? ⟨w.heap.size, 1, none⟩ = some (.int .i64 a) := hsW1.cell 1
    have m2 : W1.cell? ⟨w.heap.size, 2, none⟩ = some (.int .i64 b) := hsW1.cell 2
    have m3 : W1.cell? ⟨w.heap.size, 3, none⟩ = some (.slice A n k) := hsW1.cell 3
    have m4 : W1.cell? ⟨w.heap.size, 4, none⟩ = some (.int .i32 imm) := hsW1.cell 4
    have HB := Lib.hid hbW1
    have HV1 := Lib.hid (HV.out.below hbW1)
    clear hsW1 hbW1
    go_wp2_with fail
    refine (rget_any W1 _ l a HV1.out).mono ?_
    rintro en W1 ⟨rfl, rfl⟩
    rw [HX.out]
    go_wp2_with fail
    refine (rget_any W1 _ l b HV1.out).mono ?_
    rintro en W1 ⟨rfl, rfl⟩
    rw [HY.out]
    go_wp2_with fail
    go_ret
    exact ⟨rfl, HB.out⟩
open Go.Proofs.YtonheiaohgbbcaaGreat.Wd
theorem own_far {B : Nat} {w : World} {v : Value} {l : List Int} (h : OwnWords B w v l) : v.ownBlock ≠ some w.heap.size := fun e => by have := (OwnWords.where_ h e).2; omega
theorem regsM_keep {i : PMach} {l m : List Int} (h : makesN i.op = 0 ∨ (fxM i l m).trap ≠ 0) : regsM i l m = l := by
  unfold regsM
  split
  · unfold regsF
    rcases h with h | h
    · rw [h]; split <;> rfl
    · rw [if_neg h]
  · rfl
theorem regsM_one {i : PMach} {l m : List Int} {x y : Int} {m2 : List Int} (ha : actsB i.op = true) (h : makesN i.op = 1) (h2 : i.op ≠ 2) (hf : fxM i l m = ⟨x, y, 0, m2⟩) : regsM i l m = setP l i.d x := by
  unfold regsM
  rw [if_pos ha, hf]
  unfold regsF
  rw [if_pos rfl, h]
  unfold setsF
  simp only [if_neg h2]
theorem regsM_two {i : PMach} {l m : List Int} {x y : Int} {m2 : List Int} (ha : actsB i.op = true) (h : makesN i.op = 2) (hf : fxM i l m = ⟨x, y, 0, m2⟩) : regsM i l m = setP (setP l (if i.op = 2 then i.a else i.d) x) (if i.op = 2 then i.b else i.e) y := by
  unfold regsM
  rw [if_pos ha, hf]
  unfold regsF
  rw [if_pos rfl, h]
  rfl
set_option maxRecDepth 100000 in
set_option maxHeartbeats 8000000 in
theorem rdoM_any (w : World) (i : PMach) (A : Option Addr) (n k : Nat) (rv mv : Value) (B : Nat) (l m : List Int) (hr : OwnWords B w rv l) (hm : OwnWords B w mv m) (hl : m.length ≤ 1000000) (hap : rv.ownBlock = none ∨ rv.ownBlock ≠ mv.ownBlock)
    (hI : InI i.a ∧ InI i.b ∧ InI i.c ∧ InI i.d ∧ InI i.e) (hi : InW i.imm) (hw : ∀ r, InW (getP l r)) :
    Calls Tryz.prog 19 #[.agg #[.int .i64 i.op, .int .i64 i.d, .int .i64 i.e, .int .i64 i.a, .int .i64 i.b, .int .i64 i.c, .int .i32 i.imm, .slice A n k], rv, mv] w (DoPost B rv mv (fxM i l m) (regsM i l m) w) := by
  obtain ⟨op, d, e, a, b, c, imm, args⟩ := i
  obtain ⟨rA, rn, rc, rfl⟩ := OwnWords.slice hr
  obtain ⟨mA, mn, mc, rfl⟩ := OwnWords.slice hm
  obtain ⟨x, hx⟩ : ∃ x, getP l a = x := ⟨_, rfl⟩
  obtain ⟨y, hy⟩ : ∃ y, getP l b = y := ⟨_, rfl⟩
  obtain ⟨z, hz⟩ : ∃ z, getP l c = z := ⟨_, rfl⟩
  have hxw := hw a
  have hyw := hw b
  have hzw := hw c
  rw [hx] at hxw
  rw [hy] at hyw
  rw [hz] at hzw
  have HX := Lib.hid hx
  have HY := Lib.hid hy
  have HZ := Lib.hid hz
  have HXW := Lib.hid hxw
  have HYW := Lib.hid hyw
  have HZW := Lib.hid hzw
  have HIW := Lib.hid hi
  have HR := Lib.hid hr
  have HM := Lib.hid hm
  have HF1 := Lib.hid (own_far hr)
  have HF2 := Lib.hid (own_far hm)
  have HAP := Lib.hid hap
  simp only at hi
  clear hw hI hx hy hz hxw hyw hzw hr hm hap hi
  rcases (show op = 1 ∨ op = 2 ∨ op = 3 ∨ op = 4 ∨ (5 ≤ op ∧ op ≤ 17) ∨ op = 18 ∨ op = 19 ∨ op = 20 ∨ op = 21 ∨ op = 22 ∨ op = 23 ∨ op = 24 ∨ op = 25 ∨ op = 26 ∨ op = 27 ∨ op = 28 ∨ op = 29 ∨ op = 30 ∨ op = 31 ∨ op < 1 ∨ 31 < op by omega) with h | h | h | h | h | h | h | h | h | h | h | h | h | h | h | h | h | h | h | h | h
  · subst h
    have HF := Lib.hid (show fxM ⟨1, d, e, a, b, c, imm, args⟩ l m = ⟨x, 0, 0, m⟩ by have hx := HX.out; have hy := HY.out; have hz := HZ.out; subst hx hy hz; rfl)
    have HG := Lib.hid (show regsM ⟨1, d, e, a, b, c, imm, args⟩ l m = setP l d x from regsM_one (show actsB 1 = true by decide) (show makesN 1 = 1 by decide) (show (1 : Int) ≠ 2 by decide) HF.out)
    go_enter Tryz.func19, Tryz.ntmps19
    go_upto_region 1 with (fail)
    obtain ⟨W1, hW1⟩ : ∃ W1, w.alloc (.cells #[.int .i64 1, .int .i64 d, .int .i64 e, .int .i64 a, .int .i64 b, .int .i64 c, .int .i32 imm, .slice A n k] 40) = W1 := ⟨_, rfl⟩
    have hbW1 : Below w.heap.size w W1 := by rw [← hW1]; exact (Below.refl _ _).alloc (Nat.le_refl _) _
    have hsW1 : Str W1 w.heap.size 40 [.int .i64 1, .int .i64 d, .int .i64 e, .int .i64 a, .int .i64 b, .int .i64 c, .int .i32 imm, .slice A n k] := by rw [← hW1]; exact World.alloc_heap_new w _
    rw [hW1]
    clear hW1
    have m0 : W1.cell? ⟨w.heap.size, 0, none⟩ = some (.int .i64 1) := hsW1.cell 0
    have m1 : W1.cell? ⟨w.heap.size, 1, none⟩ = some (.int .i64 d) := hsW1.cell 1
    have m2 : W1.cell? ⟨w.heap.size, 2, none⟩ = some (.int .i64 e) := hsW1.cell 2
    have m3 : W1.cell? ⟨w.heap.size, 3, none⟩ = some (.int .i64 a) := hsW1.cell 3
    have m4 : W1.cell? ⟨w.heap.size, 4, none⟩ = some (.int .i64 b) := hsW1.cell 4
    have m5 : W1.cell? ⟨w.heap.size, 5, none⟩ = some (.int .i64 c) := hsW1.cell 5
    have m6 : W1.cell? ⟨w.heap.size, 6, none⟩ = some (.int .i32 imm) := hsW1.cell 6
    have m7 : W1.cell? ⟨w.heap.size, 7, none⟩ = some (.slice A n k) := hsW1.cell 7
    have HB := Lib.hid hbW1
    have HR1 := Lib.hid (HR.out.below hbW1)
    have HM1 := Lib.hid (HM.out.below hbW1)
    have HI1 := Lib.hid hsW1
    have HV1 := Lib.hid (words_of_own HR1.out)
    clear hsW1 hbW1
    go_wp2_with fail
    refine (rget_any W1 _ l a HV1.out).mono ?_
    rintro en W1 ⟨rfl, rfl⟩
    rw [HX.out]
    go_wp2_with fail
    refine (rget_any W1 _ l b HV1.out).mono ?_
    rintro en W1 ⟨rfl, rfl⟩
    rw [HY.out]
    go_wp2_with fail
    refine (rget_any W1 _ l c HV1.out).mono ?_
    rintro en W1 ⟨rfl, rfl⟩
    rw [HZ.out]
    go_wp2_with fail
    refine (rset_any W1 B _ l d x HR1.out).mono ?_
    rintro en w2 ⟨rfl, ho, hs⟩
    have HR2 := Lib.hid ho
    have HM2 := Lib.hid (OwnWords.set_kept HM1.out hs HAP.out)
    have HT2 := Lib.hid (show Two (Value.slice rA rn rc).ownBlock (Value.slice mA mn mc).ownBlock w w2 from Two.trans (Two.of_below HB.out) (Two.set hs))
    clear ho hs
    go_wp2_with fail
    go_ret2
    rw [HF.out, HG.out]
    exact ⟨rfl, HR2.out, HM2.out, HT2.out⟩
  · subst h
    have HF := Lib.hid (show fxM ⟨2, d, e, a, b, c, imm, args⟩ l m = ⟨y, x, 0, m⟩ by have hx := HX.out; have hy := HY.out; have hz := HZ.out; subst hx hy hz; rfl)
    have HG := Lib.hid (show regsM ⟨2, d, e, a, b, c, imm, args⟩ l m = setP (setP l a y) b x from regsM_two (show actsB 2 = true by decide) (show makesN 2 = 2 by decide) HF.out)
    go_enter Tryz.func19, Tryz.ntmps19
    go_upto_region 1 with (fail)
    obtain ⟨W1, hW1⟩ : ∃ W1, w.alloc (.cells #[.int .i64 2, .int .i64 d, .int .i64 e, .int .i64 a, .int .i64 b, .int .i64 c, .int .i32 imm, .slice A n k] 40) = W1 := ⟨_, rfl⟩
    have hbW1 : Below w.heap.size w W1 := by rw [← hW1]; exact (Below.refl _ _).alloc (Nat.le_refl _) _
    have hsW1 : Str W1 w.heap.size 40 [.int .i64 2, .int .i64 d, .int .i64 e, .int .i64 a, .int .i64 b, .int .i64 c, .int .i32 imm, .slice A n k] := by rw [← hW1]; exact World.alloc_heap_new w _
    rw [hW1]
    clear hW1
    have m0 : W1.cell? ⟨w.heap.size, 0, none⟩ = some (.int .i64 2) := hsW1.cell 0
    have m1 : W1.cell? ⟨w.heap.size, 1, none⟩ = some (.int .i64 d) := hsW1.cell 1
    have m2 : W1.cell? ⟨w.heap.size, 2, none⟩ = some (.int .i64 e) := hsW1.cell 2
    have m3 : W1.cell? ⟨w.heap.size, 3, none⟩ = some (.int .i64 a) := hsW1.cell 3
    have m4 : W1.cell? ⟨w.heap.size, 4, none⟩ = some (.int .i64 b) := hsW1.cell 4
    have m5 : W1.cell? ⟨w.heap.size, 5, none⟩ = some (.int .i64 c) := hsW1.cell 5
    have m6 : W1.cell? ⟨w.heap.size, 6, none⟩ = some (.int .i32 imm) := hsW1.cell 6
    have m7 : W1.cell? ⟨w.heap.size, 7, none⟩ = some (.slice A n k) := hsW1.cell 7
    have HB := Lib.hid hbW1
    have HR1 := Lib.hid (HR.out.below hbW1)
    have HM1 := Lib.hid (HM.out.below hbW1)
    have HI1 := Lib.hid hsW1
    have HV1 := Lib.hid (words_of_own HR1.out)
    clear hsW1 hbW1
    go_wp2_with fail
    refine (rget_any W1 _ l a HV1.out).mono ?_
    rintro en W1 ⟨rfl, rfl⟩
    rw [HX.out]
    go_wp2_with fail
    refine (rget_any W1 _ l b HV1.out).mono ?_
    rintro en W1 ⟨rfl, rfl⟩
    rw [HY.out]
    go_wp2_with fail
    refine (rget_any W1 _ l c HV1.out).mono ?_
    rintro en W1 ⟨rfl, rfl⟩
    rw [HZ.out]
    go_wp2_with fail
    refine (rset_any W1 B _ l a y HR1.out).mono ?_
    rintro en w2 ⟨rfl, ho, hs⟩
    have HR2 := Lib.hid ho
    have HM2 := Lib.hid (OwnWords.set_kept HM1.out hs HAP.out)
    have HT2 := Lib.hid (show Two (Value.slice rA rn rc).ownBlock (Value.slice mA mn mc).ownBlock w w2 from Two.trans (Two.of_below HB.out) (Two.set hs))
    have hsw2 := Str.set_kept HI1.out hs HF1.out
    have HI2 := Lib.hid hsw2
    have m0 : w2.cell? ⟨w.heap.size, 0, none⟩ = some (.int .i64 2) := hsw2.cell 0
    have m1 : w2.cell? ⟨w.heap.size, 1, none⟩ = some (.int .i64 d) := hsw2.cell 1
    have m2 : w2.cell? ⟨w.heap.size, 2, none⟩ = some (.int .i64 e) := hsw2.cell 2
    have m3 : w2.cell? ⟨w.heap.size, 3, none⟩ = some (.int .i64 a) := hsw2.cell 3
    have m4 : w2.cell? ⟨w.heap.size, 4, none⟩ = some (.int .i64 b) := hsw2.cell 4
    have m5 : w2.cell? ⟨w.heap.size, 5, none⟩ = some (.int .i64 c) := hsw2.cell 5
    have m6 : w2.cell? ⟨w.heap.size, 6, none⟩ = some (.int .i32 imm) := hsw2.cell 6
    have m7 : w2.cell? ⟨w.heap.size, 7, none⟩ = some (.slice A n k) := hsw2.cell 7
    clear hsw2
    clear ho hs
    go_wp2_with fail
    refine (rset_any w2 B _ (setP l a y) b x HR2.out).mono ?_
    rintro en w3 ⟨rfl, ho, hs⟩
    have HR3 := Lib.hid ho
    have HM3 := Lib.hid (OwnWords.set_kept HM2.out hs HAP.out)
    have HT3 := Lib.hid (show Two (Value.slice rA rn rc).ownBlock (Value.slice mA mn mc).ownBlock w w3 from Two.trans HT2.out (Two.set hs))
    clear ho hs
    go_wp2_with fail
    go_ret2
    rw [HF.out, HG.out]
    exact ⟨rfl, HR3.out, HM3.out, HT3.out⟩
  · subst h
    have HF := Lib.hid (show fxM ⟨3, d, e, a, b, c, imm, args⟩ l m = ⟨imm, 0, 0, m⟩ by have hx := HX.out; have hy := HY.out; have hz := HZ.out; subst hx hy hz; rfl)
    have HG := Lib.hid (show regsM ⟨3, d, e, a, b, c, imm, args⟩ l m = setP l d imm from regsM_one (show actsB 3 = true by decide) (show makesN 3 = 1 by decide) (show (3 : Int) ≠ 2 by decide) HF.out)
    go_enter Tryz.func19, Tryz.ntmps19
    go_upto_region 1 with (fail)
    obtain ⟨W1, hW1⟩ : ∃ W1, w.alloc (.cells #[.int .i64 3, .int .i64 d, .int .i64 e, .int .i64 a, .int .i64 b, .int .i64 c, .int .i32 imm, .slice A n k] 40) = W1 := ⟨_, rfl⟩
    have hbW1 : Below w.heap.size w W1 := by rw [← hW1]; exact (Below.refl _ _).alloc (Nat.le_refl _) _
    have hsW1 : Str W1 w.heap.size 40 [.int .i64 3, .int .i64 d, .int .i64 e, .int .i64 a, .int .i64 b, .int .i64 c, .int .i32 imm, .slice A n k] := by rw [← hW1]; exact World.alloc_heap_new w _
    rw [hW1]
    clear hW1
    have m0 : W1.cell? ⟨w.heap.size, 0, none⟩ = some (.int .i64 3) := hsW1.cell 0
    have m1 : W1.cell? ⟨w.heap.size, 1, none⟩ = some (.int .i64 d) := hsW1.cell 1
    have m2 : W1.cell? ⟨w.heap.size, 2, none⟩ = some (.int .i64 e) := hsW1.cell 2
    have m3 : W1.cell? ⟨w.heap.size, 3, none⟩ = some (.int .i64 a) := hsW1.cell 3
    have m4 : W1.cell? ⟨w.heap.size, 4, none⟩ = some (.int .i64 b) := hsW1.cell 4
    have m5 : W1.cell? ⟨w.heap.size, 5, none⟩ = some (.int .i64 c) := hsW1.cell 5
    have m6 : W1.cell? ⟨w.heap.size, 6, none⟩ = some (.int .i32 imm) := hsW1.cell 6
    have m7 : W1.cell? ⟨w.heap.size, 7, none⟩ = some (.slice A n k) := hsW1.cell 7
    have HB := Lib.hid hbW1
    have HR1 := Lib.hid (HR.out.below hbW1)
    have HM1 := Lib.hid (HM.out.below hbW1)
    have HI1 := Lib.hid hsW1
    have HV1 := Lib.hid (words_of_own HR1.out)
    clear hsW1 hbW1
    go_wp2_with fail
    refine (rget_any W1 _ l a HV1.out).mono ?_
    rintro en W1 ⟨rfl, rfl⟩
    rw [HX.out]
    go_wp2_with fail
    refine (rget_any W1 _ l b HV1.out).mono ?_
    rintro en W1 ⟨rfl, rfl⟩
    rw [HY.out]
    go_wp2_with fail
    refine (rget_any W1 _ l c HV1.out).mono ?_
    rintro en W1 ⟨rfl, rfl⟩
    rw [HZ.out]
    go_wp2_with fail
    refine (rset_any W1 B _ l d imm HR1.out).mono ?_
    rintro en w2 ⟨rfl, ho, hs⟩
    have HR2 := Lib.hid ho
    have HM2 := Lib.hid (OwnWords.set_kept HM1.out hs HAP.out)
    have HT2 := Lib.hid (show Two (Value.slice rA rn rc).ownBlock (Value.slice mA mn mc).ownBlock w w2 from Two.trans (Two.of_below HB.out) (Two.set hs))
    clear ho hs
    go_wp2_with fail
    go_ret2
    rw [HF.out, HG.out]
    exact ⟨rfl, HR2.out, HM2.out, HT2.out⟩
  · subst h
    have HF := Lib.hid (show fxM ⟨4, d, e, a, b, c, imm, args⟩ l m = ⟨imm, 0, 0, m⟩ by have hx := HX.out; have hy := HY.out; have hz := HZ.out; subst hx hy hz; rfl)
    have HG := Lib.hid (show regsM ⟨4, d, e, a, b, c, imm, args⟩ l m = setP l d imm from regsM_one (show actsB 4 = true by decide) (show makesN 4 = 1 by decide) (show (4 : Int) ≠ 2 by decide) HF.out)
    go_enter Tryz.func19, Tryz.ntmps19
    go_upto_region 1 with (fail)
    obtain ⟨W1, hW1⟩ : ∃ W1, w.alloc (.cells #[.int .i64 4, .int .i64 d, .int .i64 e, .int .i64 a, .int .i64 b, .int .i64 c, .int .i32 imm, .slice A n k] 40) = W1 := ⟨_, rfl⟩
    have hbW1 : Below w.heap.size w W1 := by rw [← hW1]; exact (Below.refl _ _).alloc (Nat.le_refl _) _
    have hsW1 : Str W1 w.heap.size 40 [.int .i64 4, .int .i64 d, .int .i64 e, .int .i64 a, .int .i64 b, .int .i64 c, .int .i32 imm, .slice A n k] := by rw [← hW1]; exact World.alloc_heap_new w _
    rw [hW1]
    clear hW1
    have m0 : W1.cell? ⟨w.heap.size, 0, none⟩ = some (.int .i64 4) := hsW1.cell 0
    have m1 : W1.cell? ⟨w.heap.size, 1, none⟩ = some (.int .i64 d) := hsW1.cell 1
    have m2 : W1.cell? ⟨w.heap.size, 2, none⟩ = some (.int .i64 e) := hsW1.cell 2
    have m3 : W1.cell? ⟨w.heap.size, 3, none⟩ = some (.int .i64 a) := hsW1.cell 3
    have m4 : W1.cell? ⟨w.heap.size, 4, none⟩ = some (.int .i64 b) := hsW1.cell 4
    have m5 : W1.cell? ⟨w.heap.size, 5, none⟩ = some (.int .i64 c) := hsW1.cell 5
    have m6 : W1.cell? ⟨w.heap.size, 6, none⟩ = some (.int .i32 imm) := hsW1.cell 6
    have m7 : W1.cell? ⟨w.heap.size, 7, none⟩ = some (.slice A n k) := hsW1.cell 7
    have HB := Lib.hid hbW1
    have HR1 := Lib.hid (HR.out.below hbW1)
    have HM1 := Lib.hid (HM.out.below hbW1)
    have HI1 := Lib.hid hsW1
    have HV1 := Lib.hid (words_of_own HR1.out)
    clear hsW1 hbW1
    go_wp2_with fail
    refine (rget_any W1 _ l a HV1.out).mono ?_
    rintro en W1 ⟨rfl, rfl⟩
    rw [HX.out]
    go_wp2_with fail
    refine (rget_any W1 _ l b HV1.out).mono ?_
    rintro en W1 ⟨rfl, rfl⟩
    rw [HY.out]
    go_wp2_with fail
    refine (rget_any W1 _ l c HV1.out).mono ?_
    rintro en W1 ⟨rfl, rfl⟩
    rw [HZ.out]
    go_wp2_with fail
    refine (rset_any W1 B _ l d imm HR1.out).mono ?_
    rintro en w2 ⟨rfl, ho, hs⟩
    have HR2 := Lib.hid ho
    have HM2 := Lib.hid (OwnWords.set_kept HM1.out hs HAP.out)
    have HT2 := Lib.hid (show Two (Value.slice rA rn rc).ownBlock (Value.slice mA mn mc).ownBlock w w2 from Two.trans (Two.of_below HB.out) (Two.set hs))
    clear ho hs
    go_wp2_with fail
    go_ret2
    rw [HF.out, HG.out]
    exact ⟨rfl, HR2.out, HM2.out, HT2.out⟩
  · obtain ⟨h1, h2⟩ := h
    have g1 : (op == 1) = false := beq_eq_false_iff_ne.2 (by omega)
    have g2 : (op == 2) = false := beq_eq_false_iff_ne.2 (by omega)
    have g3 : (op == 3) = false := beq_eq_false_iff_ne.2 (by omega)
    have g4 : (op == 4) = false := beq_eq_false_iff_ne.2 (by omega)
    have g23 : (op == 23) = false := beq_eq_false_iff_ne.2 (by omega)
    have g24 : (op == 24) = false := beq_eq_false_iff_ne.2 (by omega)
    have g25 : (op == 25) = false := beq_eq_false_iff_ne.2 (by omega)
    have g26 : (op == 26) = false := beq_eq_false_iff_ne.2 (by omega)
    have g27 : (op == 27) = false := beq_eq_false_iff_ne.2 (by omega)
    have g29 : (op == 29) = false := beq_eq_false_iff_ne.2 (by omega)
    have HF0 := Lib.hid (show fxM ⟨op, d, e, a, b, c, imm, args⟩ l m = reckF (op - 3) x y m by
      rw [← HX.out, ← HY.out]
      unfold fxM doesF
      simp only
      rw [if_neg (by omega), if_neg (by omega), if_neg (by omega), if_neg (by omega), if_pos ⟨h1, h2⟩, takesN_two h1 h2, show byB op = op - 3 from by unfold byB; rw [if_neg (by omega), if_neg (by omega), if_neg (by omega)]]
      rfl)
    have HO := Lib.hid (show op - 5 + 2 = op - 3 by omega)
    cases hdo : doB (op - 3) y with
    | false =>
      have HF := Lib.hid (show fxM ⟨op, d, e, a, b, c, imm, args⟩ l m = ⟨0, 0, -1, m⟩ by rw [HF0.out]; unfold reckF; rw [hdo]; rfl)
      have HG := Lib.hid (show regsM ⟨op, d, e, a, b, c, imm, args⟩ l m = l from regsM_keep (Or.inr (by rw [HF.out]; show (-1 : Int) ≠ 0; decide)))
      have HDO := Lib.hid hdo
      clear hdo
      go_enter Tryz.func19, Tryz.ntmps19
      go_upto_region 1 with (fail)
      obtain ⟨W1, hW1⟩ : ∃ W1, w.alloc (.cells #[.int .i64 op, .int .i64 d, .int .i64 e, .int .i64 a, .int .i64 b, .int .i64 c, .int .i32 imm, .slice A n k] 40) = W1 := ⟨_, rfl⟩
      have hbW1 : Below w.heap.size w W1 := by rw [← hW1]; exact (Below.refl _ _).alloc (Nat.le_refl _) _
      have hsW1 : Str W1 w.heap.size 40 [.int .i64 op, .int .i64 d, .int .i64 e, .int .i64 a, .int .i64 b, .int .i64 c, .int .i32 imm, .slice A n k] := by rw [← hW1]; exact World.alloc_heap_new w _
      rw [hW1]
      clear hW1
      have m0 : W1.cell? ⟨w.heap.size, 0, none⟩ = some (.int .i64 op) := hsW1.cell 0
      have m1 : W1.cell? ⟨w.heap.size, 1, none⟩ = some (.int .i64 d) := hsW1.cell 1
      have m2 : W1.cell? ⟨w.heap.size, 2, none⟩ = some (.int .i64 e) := hsW1.cell 2
      have m3 : W1.cell? ⟨w.heap.size, 3, none⟩ = some (.int .i64 a) := hsW1.cell 3
      have m4 : W1.cell? ⟨w.heap.size, 4, none⟩ = some (.int .i64 b) := hsW1.cell 4
      have m5 : W1.cell? ⟨w.heap.size, 5, none⟩ = some (.int .i64 c) := hsW1.cell 5
      have m6 : W1.cell? ⟨w.heap.size, 6, none⟩ = some (.int .i32 imm) := hsW1.cell 6
      have m7 : W1.cell? ⟨w.heap.size, 7, none⟩ = some (.slice A n k) := hsW1.cell 7
      have HB := Lib.hid hbW1
      have HR1 := Lib.hid (HR.out.below hbW1)
      have HM1 := Lib.hid (HM.out.below hbW1)
      have HI1 := Lib.hid hsW1
      have HV1 := Lib.hid (words_of_own HR1.out)
      clear hsW1 hbW1
      go_wp2_with fail
      refine (rget_any W1 _ l a HV1.out).mono ?_
      rintro en W1 ⟨rfl, rfl⟩
      rw [HX.out]
      go_wp2_with fail
      refine (rget_any W1 _ l b HV1.out).mono ?_
      rintro en W1 ⟨rfl, rfl⟩
      rw [HY.out]
      go_wp2_with fail
      refine (rget_any W1 _ l c HV1.out).mono ?_
      rintro en W1 ⟨rfl, rfl⟩
      rw [HZ.out]
      go_wp2_with fail
      refine (Wd.rdo_any _ x y HXW.out HYW.out W1).mono ?_
      rintro en W1 ⟨rfl, rfl⟩
      rw [HO.out]
      rw [HDO.out]
      go_wp2_with fail
      go_ret2
      rw [HF.out, HG.out]
      exact ⟨rfl, HR1.out, HM1.out, Two.of_below HB.out⟩
    | true =>
      obtain ⟨v, hv⟩ : ∃ v, doV (op - 3) x y = v := ⟨_, rfl⟩
      have HF := Lib.hid (show fxM ⟨op, d, e, a, b, c, imm, args⟩ l m = ⟨v, 0, 0, m⟩ by rw [HF0.out]; unfold reckF; rw [hdo, hv]; rfl)
      have HG := Lib.hid (show regsM ⟨op, d, e, a, b, c, imm, args⟩ l m = setP l d v from regsM_one (decide_eq_true (Or.inl ⟨by simp only; omega, by simp only; omega⟩)) (makesN_one h1 (by simp only; omega)) (by simp only; omega) HF.out)
      have HDO := Lib.hid hdo
      have HV := Lib.hid hv
      clear hdo hv
      go_enter Tryz.func19, Tryz.ntmps19
      go_upto_region 1 with (fail)
      obtain ⟨W1, hW1⟩ : ∃ W1, w.alloc (.cells #[.int .i64 op, .int .i64 d, .int .i64 e, .int .i64 a, .int .i64 b, .int .i64 c, .int .i32 imm, .slice A n k] 40) = W1 := ⟨_, rfl⟩
      have hbW1 : Below w.heap.size w W1 := by rw [← hW1]; exact (Below.refl _ _).alloc (Nat.le_refl _) _
      have hsW1 : Str W1 w.heap.size 40 [.int .i64 op, .int .i64 d, .int .i64 e, .int .i64 a, .int .i64 b, .int .i64 c, .int .i32 imm, .slice A n k] := by rw [← hW1]; exact World.alloc_heap_new w _
      rw [hW1]
      clear hW1
      have m0 : W1.cell? ⟨w.heap.size, 0, none⟩ = some (.int .i64 op) := hsW1.cell 0
      have m1 : W1.cell? ⟨w.heap.size, 1, none⟩ = some (.int .i64 d) := hsW1.cell 1
      have m2 : W1.cell? ⟨w.heap.size, 2, none⟩ = some (.int .i64 e) := hsW1.cell 2
      have m3 : W1.cell? ⟨w.heap.size, 3, none⟩ = some (.int .i64 a) := hsW1.cell 3
      have m4 : W1.cell? ⟨w.heap.size, 4, none⟩ = some (.int .i64 b) := hsW1.cell 4
      have m5 : W1.cell? ⟨w.heap.size, 5, none⟩ = some (.int .i64 c) := hsW1.cell 5
      have m6 : W1.cell? ⟨w.heap.size, 6, none⟩ = some (.int .i32 imm) := hsW1.cell 6
      have m7 : W1.cell? ⟨w.heap.size, 7, none⟩ = some (.slice A n k) := hsW1.cell 7
      have HB := Lib.hid hbW1
      have HR1 := Lib.hid (HR.out.below hbW1)
      have HM1 := Lib.hid (HM.out.below hbW1)
      have HI1 := Lib.hid hsW1
      have HV1 := Lib.hid (words_of_own HR1.out)
      clear hsW1 hbW1
      go_wp2_with fail
      refine (rget_any W1 _ l a HV1.out).mono ?_
      rintro en W1 ⟨rfl, rfl⟩
      rw [HX.out]
      go_wp2_with fail
      refine (rget_any W1 _ l b HV1.out).mono ?_
      rintro en W1 ⟨rfl, rfl⟩
      rw [HY.out]
      go_wp2_with fail
      refine (rget_any W1 _ l c HV1.out).mono ?_
      rintro en W1 ⟨rfl, rfl⟩
      rw [HZ.out]
      go_wp2_with fail
      refine (Wd.rdo_any _ x y HXW.out HYW.out W1).mono ?_
      rintro en W1 ⟨rfl, rfl⟩
      rw [HO.out]
      rw [HDO.out, HV.out]
      go_wp2_with fail
      refine (rset_any W1 B _ l d v HR1.out).mono ?_
      rintro en w2 ⟨rfl, ho, hs⟩
      have HR2 := Lib.hid ho
      have HM2 := Lib.hid (OwnWords.set_kept HM1.out hs HAP.out)
      have HT2 := Lib.hid (show Two (Value.slice rA rn rc).ownBlock (Value.slice mA mn mc).ownBlock w w2 from Two.trans (Two.of_below HB.out) (Two.set hs))
      clear ho hs
      go_wp2_with fail
      go_ret2
      rw [HF.out, HG.out]
      exact ⟨rfl, HR2.out, HM2.out, HT2.out⟩
  · subst h
    have HF0 := Lib.hid (show fxM ⟨18, d, e, a, b, c, imm, args⟩ l m = reckF 2 x imm m by have hx := HX.out; subst hx; rfl)
    obtain ⟨v, hv⟩ : ∃ v, doV 2 x imm = v := ⟨_, rfl⟩
    have HF := Lib.hid (show fxM ⟨18, d, e, a, b, c, imm, args⟩ l m = ⟨v, 0, 0, m⟩ by rw [HF0.out, ← hv]; rfl)
    have HG := Lib.hid (show regsM ⟨18, d, e, a, b, c, imm, args⟩ l m = setP l d v from regsM_one (show actsB 18 = true by decide) (show makesN 18 = 1 by decide) (show (18 : Int) ≠ 2 by decide) HF.out)
    have HV := Lib.hid hv
    clear hv
    have hix := fun w : World => (show (Instr.index 58 (.agg #[.int .i64 2, .int .i64 5, .int .i64 8, .int .i64 9, .int .i64 10]) (.int .i64 0)).run Tryz.prog w = .ok (.int .i64 2) w by kernel_rfl)
    go_enter Tryz.func19, Tryz.ntmps19
    go_upto_region 1 with (fail)
    obtain ⟨W1, hW1⟩ : ∃ W1, w.alloc (.cells #[.int .i64 18, .int .i64 d, .int .i64 e, .int .i64 a, .int .i64 b, .int .i64 c, .int .i32 imm, .slice A n k] 40) = W1 := ⟨_, rfl⟩
    have hbW1 : Below w.heap.size w W1 := by rw [← hW1]; exact (Below.refl _ _).alloc (Nat.le_refl _) _
    have hsW1 : Str W1 w.heap.size 40 [.int .i64 18, .int .i64 d, .int .i64 e, .int .i64 a, .int .i64 b, .int .i64 c, .int .i32 imm, .slice A n k] := by rw [← hW1]; exact World.alloc_heap_new w _
    rw [hW1]
    clear hW1
    have m0 : W1.cell? ⟨w.heap.size, 0, none⟩ = some (.int .i64 18) := hsW1.cell 0
    have m1 : W1.cell? ⟨w.heap.size, 1, none⟩ = some (.int .i64 d) := hsW1.cell 1
    have m2 : W1.cell? ⟨w.heap.size, 2, none⟩ = some (.int .i64 e) := hsW1.cell 2
    have m3 : W1.cell? ⟨w.heap.size, 3, none⟩ = some (.int .i64 a) := hsW1.cell 3
    have m4 : W1.cell? ⟨w.heap.size, 4, none⟩ = some (.int .i64 b) := hsW1.cell 4
    have m5 : W1.cell? ⟨w.heap.size, 5, none⟩ = some (.int .i64 c) := hsW1.cell 5
    have m6 : W1.cell? ⟨w.heap.size, 6, none⟩ = some (.int .i32 imm) := hsW1.cell 6
    have m7 : W1.cell? ⟨w.heap.size, 7, none⟩ = some (.slice A n k) := hsW1.cell 7
    have HB := Lib.hid hbW1
    have HR1 := Lib.hid (HR.out.below hbW1)
    have HM1 := Lib.hid (HM.out.below hbW1)
    have HI1 := Lib.hid hsW1
    have HV1 := Lib.hid (words_of_own HR1.out)
    clear hsW1 hbW1
    go_wp2_with fail
    refine (rget_any W1 _ l a HV1.out).mono ?_
    rintro en W1 ⟨rfl, rfl⟩
    rw [HX.out]
    go_wp2_with fail
    refine (rget_any W1 _ l b HV1.out).mono ?_
    rintro en W1 ⟨rfl, rfl⟩
    rw [HY.out]
    go_wp2_with fail
    refine (rget_any W1 _ l c HV1.out).mono ?_
    rintro en W1 ⟨rfl, rfl⟩
    rw [HZ.out]
    go_wp2_with fail
    refine (Wd.rdo_any 2 x imm HXW.out HIW.out W1).mono ?_
    rintro en W1 ⟨rfl, rfl⟩
    rw [HV.out]
    go_wp2_with fail
    refine (rset_any W1 B _ l d v HR1.out).mono ?_
    rintro en w2 ⟨rfl, ho, hs⟩
    have HR2 := Lib.hid ho
    have HM2 := Lib.hid (OwnWords.set_kept HM1.out hs HAP.out)
    have HT2 := Lib.hid (show Two (Value.slice rA rn rc).ownBlock (Value.slice mA mn mc).ownBlock w w2 from Two.trans (Two.of_below HB.out) (Two.set hs))
    clear ho hs
    go_wp2_with fail
    go_ret2
    rw [HF.out, HG.out]
    exact ⟨rfl, HR2.out, HM2.out, HT2.out⟩
  · subst h
    have HF0 := Lib.hid (show fxM ⟨19, d, e, a, b, c, imm, args⟩ l m = reckF 5 x imm m by have hx := HX.out; subst hx; rfl)
    obtain ⟨v, hv⟩ : ∃ v, doV 5 x imm = v := ⟨_, rfl⟩
    have HF := Lib.hid (show fxM ⟨19, d, e, a, b, c, imm, args⟩ l m = ⟨v, 0, 0, m⟩ by rw [HF0.out, ← hv]; rfl)
    have HG := Lib.hid (show regsM ⟨19, d, e, a, b, c, imm, args⟩ l m = setP l d v from regsM_one (show actsB 19 = true by decide) (show makesN 19 = 1 by decide) (show (19 : Int) ≠ 2 by decide) HF.out)
    have HV := Lib.hid hv
    clear hv
    have hix := fun w : World => (show (Instr.index 58 (.agg #[.int .i64 2, .int .i64 5, .int .i64 8, .int .i64 9, .int .i64 10]) (.int .i64 1)).run Tryz.prog w = .ok (.int .i64 5) w by kernel_rfl)
    go_enter Tryz.func19, Tryz.ntmps19
    go_upto_region 1 with (fail)
    obtain ⟨W1, hW1⟩ : ∃ W1, w.alloc (.cells #[.int .i64 19, .int .i64 d, .int .i64 e, .int .i64 a, .int .i64 b, .int .i64 c, .int .i32 imm, .slice A n k] 40) = W1 := ⟨_, rfl⟩
    have hbW1 : Below w.heap.size w W1 := by rw [← hW1]; exact (Below.refl _ _).alloc (Nat.le_refl _) _
    have hsW1 : Str W1 w.heap.size 40 [.int .i64 19, .int .i64 d, .int .i64 e, .int .i64 a, .int .i64 b, .int .i64 c, .int .i32 imm, .slice A n k] := by rw [← hW1]; exact World.alloc_heap_new w _
    rw [hW1]
    clear hW1
    have m0 : W1.cell? ⟨w.heap.size, 0, none⟩ = some (.int .i64 19) := hsW1.cell 0
    have m1 : W1.cell? ⟨w.heap.size, 1, none⟩ = some (.int .i64 d) := hsW1.cell 1
    have m2 : W1.cell? ⟨w.heap.size, 2, none⟩ = some (.int .i64 e) := hsW1.cell 2
    have m3 : W1.cell? ⟨w.heap.size, 3, none⟩ = some (.int .i64 a) := hsW1.cell 3
    have m4 : W1.cell? ⟨w.heap.size, 4, none⟩ = some (.int .i64 b) := hsW1.cell 4
    have m5 : W1.cell? ⟨w.heap.size, 5, none⟩ = some (.int .i64 c) := hsW1.cell 5
    have m6 : W1.cell? ⟨w.heap.size, 6, none⟩ = some (.int .i32 imm) := hsW1.cell 6
    have m7 : W1.cell? ⟨w.heap.size, 7, none⟩ = some (.slice A n k) := hsW1.cell 7
    have HB := Lib.hid hbW1
    have HR1 := Lib.hid (HR.out.below hbW1)
    have HM1 := Lib.hid (HM.out.below hbW1)
    have HI1 := Lib.hid hsW1
    have HV1 := Lib.hid (words_of_own HR1.out)
    clear hsW1 hbW1
    go_wp2_with fail
    refine (rget_any W1 _ l a HV1.out).mono ?_
    rintro en W1 ⟨rfl, rfl⟩
    rw [HX.out]
    go_wp2_with fail
    refine (rget_any W1 _ l b HV1.out).mono ?_
    rintro en W1 ⟨rfl, rfl⟩
    rw [HY.out]
    go_wp2_with fail
    refine (rget_any W1 _ l c HV1.out).mono ?_
    rintro en W1 ⟨rfl, rfl⟩
    rw [HZ.out]
    go_wp2_with fail
    refine (Wd.rdo_any 5 x imm HXW.out HIW.out W1).mono ?_
    rintro en W1 ⟨rfl, rfl⟩
    rw [HV.out]
    go_wp2_with fail
    refine (rset_any W1 B _ l d v HR1.out).mono ?_
    rintro en w2 ⟨rfl, ho, hs⟩
    have HR2 := Lib.hid ho
    have HM2 := Lib.hid (OwnWords.set_kept HM1.out hs HAP.out)
    have HT2 := Lib.hid (show Two (Value.slice rA rn rc).ownBlock (Value.slice mA mn mc).ownBlock w w2 from Two.trans (Two.of_below HB.out) (Two.set hs))
    clear ho hs
    go_wp2_with fail
    go_ret2
    rw [HF.out, HG.out]
    exact ⟨rfl, HR2.out, HM2.out, HT2.out⟩
  · subst h
    have HF0 := Lib.hid (show fxM ⟨20, d, e, a, b, c, imm, args⟩ l m = reckF 8 x imm m by have hx := HX.out; subst hx; rfl)
    obtain ⟨v, hv⟩ : ∃ v, doV 8 x imm = v := ⟨_, rfl⟩
    have HF := Lib.hid (show fxM ⟨20, d, e, a, b, c, imm, args⟩ l m = ⟨v, 0, 0, m⟩ by rw [HF0.out, ← hv]; rfl)
    have HG := Lib.hid (show regsM ⟨20, d, e, a, b, c, imm, args⟩ l m = setP l d v from regsM_one (show actsB 20 = true by decide) (show makesN 20 = 1 by decide) (show (20 : Int) ≠ 2 by decide) HF.out)
    have HV := Lib.hid hv
    clear hv
    have hix := fun w : World => (show (Instr.index 58 (.agg #[.int .i64 2, .int .i64 5, .int .i64 8, .int .i64 9, .int .i64 10]) (.int .i64 2)).run Tryz.prog w = .ok (.int .i64 8) w by kernel_rfl)
    go_enter Tryz.func19, Tryz.ntmps19
    go_upto_region 1 with (fail)
    obtain ⟨W1, hW1⟩ : ∃ W1, w.alloc (.cells #[.int .i64 20, .int .i64 d, .int .i64 e, .int .i64 a, .int .i64 b, .int .i64 c, .int .i32 imm, .slice A n k] 40) = W1 := ⟨_, rfl⟩
    have hbW1 : Below w.heap.size w W1 := by rw [← hW1]; exact (Below.refl _ _).alloc (Nat.le_refl _) _
    have hsW1 : Str W1 w.heap.size 40 [.int .i64 20, .int .i64 d, .int .i64 e, .int .i64 a, .int .i64 b, .int .i64 c, .int .i32 imm, .slice A n k] := by rw [← hW1]; exact World.alloc_heap_new w _
    rw [hW1]
    clear hW1
    have m0 : W1.cell? ⟨w.heap.size, 0, none⟩ = some (.int .i64 20) := hsW1.cell 0
    have m1 : W1.cell? ⟨w.heap.size, 1, none⟩ = some (.int .i64 d) := hsW1.cell 1
    have m2 : W1.cell? ⟨w.heap.size, 2, none⟩ = some (.int .i64 e) := hsW1.cell 2
    have m3 : W1.cell? ⟨w.heap.size, 3, none⟩ = some (.int .i64 a) := hsW1.cell 3
    have m4 : W1.cell? ⟨w.heap.size, 4, none⟩ = some (.int .i64 b) := hsW1.cell 4
    have m5 : W1.cell? ⟨w.heap.size, 5, none⟩ = some (.int .i64 c) := hsW1.cell 5
    have m6 : W1.cell? ⟨w.heap.size, 6, none⟩ = some (.int .i32 imm) := hsW1.cell 6
    have m7 : W1.cell? ⟨w.heap.size, 7, none⟩ = some (.slice A n k) := hsW1.cell 7
    have HB := Lib.hid hbW1
    have HR1 := Lib.hid (HR.out.below hbW1)
    have HM1 := Lib.hid (HM.out.below hbW1)
    have HI1 := Lib.hid hsW1
    have HV1 := Lib.hid (words_of_own HR1.out)
    clear hsW1 hbW1
    go_wp2_with fail
    refine (rget_any W1 _ l a HV1.out).mono ?_
    rintro en W1 ⟨rfl, rfl⟩
    rw [HX.out]
    go_wp2_with fail
    refine (rget_any W1 _ l b HV1.out).mono ?_
    rintro en W1 ⟨rfl, rfl⟩
    rw [HY.out]
    go_wp2_with fail
    refine (rget_any W1 _ l c HV1.out).mono ?_
    rintro en W1 ⟨rfl, rfl⟩
    rw [HZ.out]
    go_wp2_with fail
    refine (Wd.rdo_any 8 x imm HXW.out HIW.out W1).mono ?_
    rintro en W1 ⟨rfl, rfl⟩
    rw [HV.out]
    go_wp2_with fail
    refine (rset_any W1 B _ l d v HR1.out).mono ?_
    rintro en w2 ⟨rfl, ho, hs⟩
    have HR2 := Lib.hid ho
    have HM2 := Lib.hid (OwnWords.set_kept HM1.out hs HAP.out)
    have HT2 := Lib.hid (show Two (Value.slice rA rn rc).ownBlock (Value.slice mA mn mc).ownBlock w w2 from Two.trans (Two.of_below HB.out) (Two.set hs))
    clear ho hs
    go_wp2_with fail
    go_ret2
    rw [HF.out, HG.out]
    exact ⟨rfl, HR2.out, HM2.out, HT2.out⟩
  · subst h
    have HF0 := Lib.hid (show fxM ⟨21, d, e, a, b, c, imm, args⟩ l m = reckF 9 x imm m by have hx := HX.out; subst hx; rfl)
    obtain ⟨v, hv⟩ : ∃ v, doV 9 x imm = v := ⟨_, rfl⟩
    have HF := Lib.hid (show fxM ⟨21, d, e, a, b, c, imm, args⟩ l m = ⟨v, 0, 0, m⟩ by rw [HF0.out, ← hv]; rfl)
    have HG := Lib.hid (show regsM ⟨21, d, e, a, b, c, imm, args⟩ l m = setP l d v from regsM_one (show actsB 21 = true by decide) (show makesN 21 = 1 by decide) (show (21 : Int) ≠ 2 by decide) HF.out)
    have HV := Lib.hid hv
    clear hv
    have hix := fun w : World => (show (Instr.index 58 (.agg #[.int .i64 2, .int .i64 5, .int .i64 8, .int .i64 9, .int .i64 10]) (.int .i64 3)).run Tryz.prog w = .ok (.int .i64 9) w by kernel_rfl)
    go_enter Tryz.func19, Tryz.ntmps19
    go_upto_region 1 with (fail)
    obtain ⟨W1, hW1⟩ : ∃ W1, w.alloc (.cells #[.int .i64 21, .int .i64 d, .int .i64 e, .int .i64 a, .int .i64 b, .int .i64 c, .int .i32 imm, .slice A n k] 40) = W1 := ⟨_, rfl⟩
    have hbW1 : Below w.heap.size w W1 := by rw [← hW1]; exact (Below.refl _ _).alloc (Nat.le_refl _) _
    have hsW1 : Str W1 w.heap.size 40 [.int .i64 21, .int .i64 d, .int .i64 e, .int .i64 a, .int .i64 b, .int .i64 c, .int .i32 imm, .slice A n k] := by rw [← hW1]; exact World.alloc_heap_new w _
    rw [hW1]
    clear hW1
    have m0 : W1.cell? ⟨w.heap.size, 0, none⟩ = some (.int .i64 21) := hsW1.cell 0
    have m1 : W1.cell? ⟨w.heap.size, 1, none⟩ = some (.int .i64 d) := hsW1.cell 1
    have m2 : W1.cell? ⟨w.heap.size, 2, none⟩ = some (.int .i64 e) := hsW1.cell 2
    have m3 : W1.cell? ⟨w.heap.size, 3, none⟩ = some (.int .i64 a) := hsW1.cell 3
    have m4 : W1.cell? ⟨w.heap.size, 4, none⟩ = some (.int .i64 b) := hsW1.cell 4
    have m5 : W1.cell? ⟨w.heap.size, 5, none⟩ = some (.int .i64 c) := hsW1.cell 5
    have m6 : W1.cell? ⟨w.heap.size, 6, none⟩ = some (.int .i32 imm) := hsW1.cell 6
    have m7 : W1.cell? ⟨w.heap.size, 7, none⟩ = some (.slice A n k) := hsW1.cell 7
    have HB := Lib.hid hbW1
    have HR1 := Lib.hid (HR.out.below hbW1)
    have HM1 := Lib.hid (HM.out.below hbW1)
    have HI1 := Lib.hid hsW1
    have HV1 := Lib.hid (words_of_own HR1.out)
    clear hsW1 hbW1
    go_wp2_with fail
    refine (rget_any W1 _ l a HV1.out).mono ?_
    rintro en W1 ⟨rfl, rfl⟩
    rw [HX.out]
    go_wp2_with fail
    refine (rget_any W1 _ l b HV1.out).mono ?_
    rintro en W1 ⟨rfl, rfl⟩
    rw [HY.out]
    go_wp2_with fail
    refine (rget_any W1 _ l c HV1.out).mono ?_
    rintro en W1 ⟨rfl, rfl⟩
    rw [HZ.out]
    go_wp2_with fail
    refine (Wd.rdo_any 9 x imm HXW.out HIW.out W1).mono ?_
    rintro en W1 ⟨rfl, rfl⟩
    rw [HV.out]
    go_wp2_with fail
    refine (rset_any W1 B _ l d v HR1.out).mono ?_
    rintro en w2 ⟨rfl, ho, hs⟩
    have HR2 := Lib.hid ho
    have HM2 := Lib.hid (OwnWords.set_kept HM1.out hs HAP.out)
    have HT2 := Lib.hid (show Two (Value.slice rA rn rc).ownBlock (Value.slice mA mn mc).ownBlock w w2 from Two.trans (Two.of_below HB.out) (Two.set hs))
    clear ho hs
    go_wp2_with fail
    go_ret2
    rw [HF.out, HG.out]
    exact ⟨rfl, HR2.out, HM2.out, HT2.out⟩
  · subst h
    have HF0 := Lib.hid (show fxM ⟨22, d, e, a, b, c, imm, args⟩ l m = reckF 10 x imm m by have hx := HX.out; subst hx; rfl)
    obtain ⟨v, hv⟩ : ∃ v, doV 10 x imm = v := ⟨_, rfl⟩
    have HF := Lib.hid (show fxM ⟨22, d, e, a, b, c, imm, args⟩ l m = ⟨v, 0, 0, m⟩ by rw [HF0.out, ← hv]; rfl)
    have HG := Lib.hid (show regsM ⟨22, d, e, a, b, c, imm, args⟩ l m = setP l d v from regsM_one (show actsB 22 = true by decide) (show makesN 22 = 1 by decide) (show (22 : Int) ≠ 2 by decide) HF.out)
    have HV := Lib.hid hv
    clear hv
    have hix := fun w : World => (show (Instr.index 58 (.agg #[.int .i64 2, .int .i64 5, .int .i64 8, .int .i64 9, .int .i64 10]) (.int .i64 4)).run Tryz.prog w = .ok (.int .i64 10) w by kernel_rfl)
    go_enter Tryz.func19, Tryz.ntmps19
    go_upto_region 1 with (fail)
    obtain ⟨W1, hW1⟩ : ∃ W1, w.alloc (.cells #[.int .i64 22, .int .i64 d, .int .i64 e, .int .i64 a, .int .i64 b, .int .i64 c, .int .i32 imm, .slice A n k] 40) = W1 := ⟨_, rfl⟩
    have hbW1 : Below w.heap.size w W1 := by rw [← hW1]; exact (Below.refl _ _).alloc (Nat.le_refl _) _
    have hsW1 : Str W1 w.heap.size 40 [.int .i64 22, .int .i64 d, .int .i64 e, .int .i64 a, .int .i64 b, .int .i64 c, .int .i32 imm, .slice A n k] := by rw [← hW1]; exact World.alloc_heap_new w _
    rw [hW1]
    clear hW1
    have m0 : W1.cell? ⟨w.heap.size, 0, none⟩ = some (.int .i64 22) := hsW1.cell 0
    have m1 : W1.cell? ⟨w.heap.size, 1, none⟩ = some (.int .i64 d) := hsW1.cell 1
    have m2 : W1.cell? ⟨w.heap.size, 2, none⟩ = some (.int .i64 e) := hsW1.cell 2
    have m3 : W1.cell? ⟨w.heap.size, 3, none⟩ = some (.int .i64 a) := hsW1.cell 3
    have m4 : W1.cell? ⟨w.heap.size, 4, none⟩ = some (.int .i64 b) := hsW1.cell 4
    have m5 : W1.cell? ⟨w.heap.size, 5, none⟩ = some (.int .i64 c) := hsW1.cell 5
    have m6 : W1.cell? ⟨w.heap.size, 6, none⟩ = some (.int .i32 imm) := hsW1.cell 6
    have m7 : W1.cell? ⟨w.heap.size, 7, none⟩ = some (.slice A n k) := hsW1.cell 7
    have HB := Lib.hid hbW1
    have HR1 := Lib.hid (HR.out.below hbW1)
    have HM1 := Lib.hid (HM.out.below hbW1)
    have HI1 := Lib.hid hsW1
    have HV1 := Lib.hid (words_of_own HR1.out)
    clear hsW1 hbW1
    go_wp2_with fail
    refine (rget_any W1 _ l a HV1.out).mono ?_
    rintro en W1 ⟨rfl, rfl⟩
    rw [HX.out]
    go_wp2_with fail
    refine (rget_any W1 _ l b HV1.out).mono ?_
    rintro en W1 ⟨rfl, rfl⟩
    rw [HY.out]
    go_wp2_with fail
    refine (rget_any W1 _ l c HV1.out).mono ?_
    rintro en W1 ⟨rfl, rfl⟩
    rw [HZ.out]
    go_wp2_with fail
    refine (Wd.rdo_any 10 x imm HXW.out HIW.out W1).mono ?_
    rintro en W1 ⟨rfl, rfl⟩
    rw [HV.out]
    go_wp2_with fail
    refine (rset_any W1 B _ l d v HR1.out).mono ?_
    rintro en w2 ⟨rfl, ho, hs⟩
    have HR2 := Lib.hid ho
    have HM2 := Lib.hid (OwnWords.set_kept HM1.out hs HAP.out)
    have HT2 := Lib.hid (show Two (Value.slice rA rn rc).ownBlock (Value.slice mA mn mc).ownBlock w w2 from Two.trans (Two.of_below HB.out) (Two.set hs))
    clear ho hs
    go_wp2_with fail
    go_ret2
    rw [HF.out, HG.out]
    exact ⟨rfl, HR2.out, HM2.out, HT2.out⟩
  · subst h
    have HF := Lib.hid (show fxM ⟨23, d, e, a, b, c, imm, args⟩ l m = ⟨wrap32 (wrap32 (x * y) + z), 0, 0, m⟩ by have hx := HX.out; have hy := HY.out; have hz := HZ.out; subst hx hy hz; rfl)
    have HG := Lib.hid (show regsM ⟨23, d, e, a, b, c, imm, args⟩ l m = setP l d (wrap32 (wrap32 (x * y) + z)) from regsM_one (show actsB 23 = true by decide) (show makesN 23 = 1 by decide) (show (23 : Int) ≠ 2 by decide) HF.out)
    go_enter Tryz.func19, Tryz.ntmps19
    go_upto_region 1 with (fail)
    obtain ⟨W1, hW1⟩ : ∃ W1, w.alloc (.cells #[.int .i64 23, .int .i64 d, .int .i64 e, .int .i64 a, .int .i64 b, .int .i64 c, .int .i32 imm, .slice A n k] 40) = W1 := ⟨_, rfl⟩
    have hbW1 : Below w.heap.size w W1 := by rw [← hW1]; exact (Below.refl _ _).alloc (Nat.le_refl _) _
    have hsW1 : Str W1 w.heap.size 40 [.int .i64 23, .int .i64 d, .int .i64 e, .int .i64 a, .int .i64 b, .int .i64 c, .int .i32 imm, .slice A n k] := by rw [← hW1]; exact World.alloc_heap_new w _
    rw [hW1]
    clear hW1
    have m0 : W1.cell? ⟨w.heap.size, 0, none⟩ = some (.int .i64 23) := hsW1.cell 0
    have m1 : W1.cell? ⟨w.heap.size, 1, none⟩ = some (.int .i64 d) := hsW1.cell 1
    have m2 : W1.cell? ⟨w.heap.size, 2, none⟩ = some (.int .i64 e) := hsW1.cell 2
    have m3 : W1.cell? ⟨w.heap.size, 3, none⟩ = some (.int .i64 a) := hsW1.cell 3
    have m4 : W1.cell? ⟨w.heap.size, 4, none⟩ = some (.int .i64 b) := hsW1.cell 4
    have m5 : W1.cell? ⟨w.heap.size, 5, none⟩ = some (.int .i64 c) := hsW1.cell 5
    have m6 : W1.cell? ⟨w.heap.size, 6, none⟩ = some (.int .i32 imm) := hsW1.cell 6
    have m7 : W1.cell? ⟨w.heap.size, 7, none⟩ = some (.slice A n k) := hsW1.cell 7
    have HB := Lib.hid hbW1
    have HR1 := Lib.hid (HR.out.below hbW1)
    have HM1 := Lib.hid (HM.out.below hbW1)
    have HI1 := Lib.hid hsW1
    have HV1 := Lib.hid (words_of_own HR1.out)
    clear hsW1 hbW1
    go_wp2_with fail
    refine (rget_any W1 _ l a HV1.out).mono ?_
    rintro en W1 ⟨rfl, rfl⟩
    rw [HX.out]
    go_wp2_with fail
    refine (rget_any W1 _ l b HV1.out).mono ?_
    rintro en W1 ⟨rfl, rfl⟩
    rw [HY.out]
    go_wp2_with fail
    refine (rget_any W1 _ l c HV1.out).mono ?_
    rintro en W1 ⟨rfl, rfl⟩
    rw [HZ.out]
    go_wp2_with fail
    refine (rset_any W1 B _ l d _ HR1.out).mono ?_
    rintro en w2 ⟨rfl, ho, hs⟩
    have HR2 := Lib.hid ho
    have HM2 := Lib.hid (OwnWords.set_kept HM1.out hs HAP.out)
    have HT2 := Lib.hid (show Two (Value.slice rA rn rc).ownBlock (Value.slice mA mn mc).ownBlock w w2 from Two.trans (Two.of_below HB.out) (Two.set hs))
    clear ho hs
    go_wp2_with fail
    go_ret2
    rw [HF.out, HG.out]
    exact ⟨rfl, HR2.out, HM2.out, HT2.out⟩
  · subst h
    obtain ⟨t, ht⟩ : ∃ t, wrap32 (x + imm) = t := ⟨_, rfl⟩
    have hF0 : fxM ⟨24, d, e, a, b, c, imm, args⟩ l m = loadF t m := by have hx := HX.out; have hy := HY.out; subst hx hy ht; rfl
    have htw : InW t := by rw [← ht]; unfold InW wrap32; omega
    have HTW := Lib.hid htw
    have HT := Lib.hid ht
    clear ht htw
    cases hB : hasB m.length t with
    | false =>
      have HF := Lib.hid (show fxM ⟨24, d, e, a, b, c, imm, args⟩ l m = ⟨0, 0, -2, m⟩ by rw [hF0]; unfold loadF; rw [hB]; rfl)
      have HG := Lib.hid (show regsM ⟨24, d, e, a, b, c, imm, args⟩ l m = l from regsM_keep (Or.inr (by rw [HF.out]; show (-2 : Int) ≠ 0; decide)))
      have HBH := Lib.hid hB
      clear hB hF0
      go_enter Tryz.func19, Tryz.ntmps19
      go_upto_region 1 with (fail)
      obtain ⟨W1, hW1⟩ : ∃ W1, w.alloc (.cells #[.int .i64 24, .int .i64 d, .int .i64 e, .int .i64 a, .int .i64 b, .int .i64 c, .int .i32 imm, .slice A n k] 40) = W1 := ⟨_, rfl⟩
      have hbW1 : Below w.heap.size w W1 := by rw [← hW1]; exact (Below.refl _ _).alloc (Nat.le_refl _) _
      have hsW1 : Str W1 w.heap.size 40 [.int .i64 24, .int .i64 d, .int .i64 e, .int .i64 a, .int .i64 b, .int .i64 c, .int .i32 imm, .slice A n k] := by rw [← hW1]; exact World.alloc_heap_new w _
      rw [hW1]
      clear hW1
      have m0 : W1.cell? ⟨w.heap.size, 0, none⟩ = some (.int .i64 24) := hsW1.cell 0
      have m1 : W1.cell? ⟨w.heap.size, 1, none⟩ = some (.int .i64 d) := hsW1.cell 1
      have m2 : W1.cell? ⟨w.heap.size, 2, none⟩ = some (.int .i64 e) := hsW1.cell 2
      have m3 : W1.cell? ⟨w.heap.size, 3, none⟩ = some (.int .i64 a) := hsW1.cell 3
      have m4 : W1.cell? ⟨w.heap.size, 4, none⟩ = some (.int .i64 b) := hsW1.cell 4
      have m5 : W1.cell? ⟨w.heap.size, 5, none⟩ = some (.int .i64 c) := hsW1.cell 5
      have m6 : W1.cell? ⟨w.heap.size, 6, none⟩ = some (.int .i32 imm) := hsW1.cell 6
      have m7 : W1.cell? ⟨w.heap.size, 7, none⟩ = some (.slice A n k) := hsW1.cell 7
      have HB := Lib.hid hbW1
      have HR1 := Lib.hid (HR.out.below hbW1)
      have HM1 := Lib.hid (HM.out.below hbW1)
      have HI1 := Lib.hid hsW1
      have HV1 := Lib.hid (words_of_own HR1.out)
      clear hsW1 hbW1
      go_wp2_with fail
      refine (rget_any W1 _ l a HV1.out).mono ?_
      rintro en W1 ⟨rfl, rfl⟩
      rw [HX.out]
      go_wp2_with fail
      refine (rget_any W1 _ l b HV1.out).mono ?_
      rintro en W1 ⟨rfl, rfl⟩
      rw [HY.out]
      go_wp2_with fail
      refine (rget_any W1 _ l c HV1.out).mono ?_
      rintro en W1 ⟨rfl, rfl⟩
      rw [HZ.out]
      go_wp2_with fail
      refine (rload_any W1 _ m _ (words_of_own HM1.out) hl (show InW (wrap32 (x + imm)) by rw [HT.out]; exact HTW.out)).mono ?_
      rintro en W1 ⟨rfl, rfl⟩
      rw [HT.out]
      rw [HBH.out]
      go_wp2_with fail
      go_ret2
      rw [HF.out, HG.out]
      exact ⟨rfl, HR1.out, HM1.out, Two.of_below HB.out⟩
    | true =>
      obtain ⟨v, hv⟩ : ∃ v, loadV m t = v := ⟨_, rfl⟩
      have HF := Lib.hid (show fxM ⟨24, d, e, a, b, c, imm, args⟩ l m = ⟨v, 0, 0, m⟩ by rw [hF0]; unfold loadF; rw [hB, hv]; rfl)
      have HG := Lib.hid (show regsM ⟨24, d, e, a, b, c, imm, args⟩ l m = setP l d v from regsM_one (show actsB 24 = true by decide) (show makesN 24 = 1 by decide) (show (24 : Int) ≠ 2 by decide) HF.out)
      have HBH := Lib.hid hB
      have HV := Lib.hid hv
      clear hB hv hF0
      go_enter Tryz.func19, Tryz.ntmps19
      go_upto_region 1 with (fail)
      obtain ⟨W1, hW1⟩ : ∃ W1, w.alloc (.cells #[.int .i64 24, .int .i64 d, .int .i64 e, .int .i64 a, .int .i64 b, .int .i64 c, .int .i32 imm, .slice A n k] 40) = W1 := ⟨_, rfl⟩
      have hbW1 : Below w.heap.size w W1 := by rw [← hW1]; exact (Below.refl _ _).alloc (Nat.le_refl _) _
      have hsW1 : Str W1 w.heap.size 40 [.int .i64 24, .int .i64 d, .int .i64 e, .int .i64 a, .int .i64 b, .int .i64 c, .int .i32 imm, .slice A n k] := by rw [← hW1]; exact World.alloc_heap_new w _
      rw [hW1]
      clear hW1
      have m0 : W1.cell? ⟨w.heap.size, 0, none⟩ = some (.int .i64 24) := hsW1.cell 0
      have m1 : W1.cell? ⟨w.heap.size, 1, none⟩ = some (.int .i64 d) := hsW1.cell 1
      have m2 : W1.cell? ⟨w.heap.size, 2, none⟩ = some (.int .i64 e) := hsW1.cell 2
      have m3 : W1.cell? ⟨w.heap.size, 3, none⟩ = some (.int .i64 a) := hsW1.cell 3
      have m4 : W1.cell? ⟨w.heap.size, 4, none⟩ = some (.int .i64 b) := hsW1.cell 4
      have m5 : W1.cell? ⟨w.heap.size, 5, none⟩ = some (.int .i64 c) := hsW1.cell 5
      have m6 : W1.cell? ⟨w.heap.size, 6, none⟩ = some (.int .i32 imm) := hsW1.cell 6
      have m7 : W1.cell? ⟨w.heap.size, 7, none⟩ = some (.slice A n k) := hsW1.cell 7
      have HB := Lib.hid hbW1
      have HR1 := Lib.hid (HR.out.below hbW1)
      have HM1 := Lib.hid (HM.out.below hbW1)
      have HI1 := Lib.hid hsW1
      have HV1 := Lib.hid (words_of_own HR1.out)
      clear hsW1 hbW1
      go_wp2_with fail
      refine (rget_any W1 _ l a HV1.out).mono ?_
      rintro en W1 ⟨rfl, rfl⟩
      rw [HX.out]
      go_wp2_with fail
      refine (rget_any W1 _ l b HV1.out).mono ?_
      rintro en W1 ⟨rfl, rfl⟩
      rw [HY.out]
      go_wp2_with fail
      refine (rget_any W1 _ l c HV1.out).mono ?_
      rintro en W1 ⟨rfl, rfl⟩
      rw [HZ.out]
      go_wp2_with fail
      refine (rload_any W1 _ m _ (words_of_own HM1.out) hl (show InW (wrap32 (x + imm)) by rw [HT.out]; exact HTW.out)).mono ?_
      rintro en W1 ⟨rfl, rfl⟩
      rw [HT.out]
      rw [HBH.out, HV.out]
      go_wp2_with fail
      refine (rset_any W1 B _ l d v HR1.out).mono ?_
      rintro en w2 ⟨rfl, ho, hs⟩
      have HR2 := Lib.hid ho
      have HM2 := Lib.hid (OwnWords.set_kept HM1.out hs HAP.out)
      have HT2 := Lib.hid (show Two (Value.slice rA rn rc).ownBlock (Value.slice mA mn mc).ownBlock w w2 from Two.trans (Two.of_below HB.out) (Two.set hs))
      clear ho hs
      go_wp2_with fail
      go_ret2
      rw [HF.out, HG.out]
      exact ⟨rfl, HR2.out, HM2.out, HT2.out⟩
  · subst h
    obtain ⟨t, ht⟩ : ∃ t, wrap32 (x + y) = t := ⟨_, rfl⟩
    have hF0 : fxM ⟨25, d, e, a, b, c, imm, args⟩ l m = loadF t m := by have hx := HX.out; have hy := HY.out; subst hx hy ht; rfl
    have htw : InW t := by rw [← ht]; unfold InW wrap32; omega
    have HTW := Lib.hid htw
    have HT := Lib.hid ht
    clear ht htw
    cases hB : hasB m.length t with
    | false =>
      have HF := Lib.hid (show fxM ⟨25, d, e, a, b, c, imm, args⟩ l m = ⟨0, 0, -2, m⟩ by rw [hF0]; unfold loadF; rw [hB]; rfl)
      have HG := Lib.hid (show regsM ⟨25, d, e, a, b, c, imm, args⟩ l m = l from regsM_keep (Or.inr (by rw [HF.out]; show (-2 : Int) ≠ 0; decide)))
      have HBH := Lib.hid hB
      clear hB hF0
      go_enter Tryz.func19, Tryz.ntmps19
      go_upto_region 1 with (fail)
      obtain ⟨W1, hW1⟩ : ∃ W1, w.alloc (.cells #[.int .i64 25, .int .i64 d, .int .i64 e, .int .i64 a, .int .i64 b, .int .i64 c, .int .i32 imm, .slice A n k] 40) = W1 := ⟨_, rfl⟩
      have hbW1 : Below w.heap.size w W1 := by rw [← hW1]; exact (Below.refl _ _).alloc (Nat.le_refl _) _
      have hsW1 : Str W1 w.heap.size 40 [.int .i64 25, .int .i64 d, .int .i64 e, .int .i64 a, .int .i64 b, .int .i64 c, .int .i32 imm, .slice A n k] := by rw [← hW1]; exact World.alloc_heap_new w _
      rw [hW1]
      clear hW1
      have m0 : W1.cell? ⟨w.heap.size, 0, none⟩ = some (.int .i64 25) := hsW1.cell 0
      have m1 : W1.cell? ⟨w.heap.size, 1, none⟩ = some (.int .i64 d) := hsW1.cell 1
      have m2 : W1.cell? ⟨w.heap.size, 2, none⟩ = some (.int .i64 e) := hsW1.cell 2
      have m3 : W1.cell? ⟨w.heap.size, 3, none⟩ = some (.int .i64 a) := hsW1.cell 3
      have m4 : W1.cell? ⟨w.heap.size, 4, none⟩ = some (.int .i64 b) := hsW1.cell 4
      have m5 : W1.cell? ⟨w.heap.size, 5, none⟩ = some (.int .i64 c) := hsW1.cell 5
      have m6 : W1.cell? ⟨w.heap.size, 6, none⟩ = some (.int .i32 imm) := hsW1.cell 6
      have m7 : W1.cell? ⟨w.heap.size, 7, none⟩ = some (.slice A n k) := hsW1.cell 7
      have HB := Lib.hid hbW1
      have HR1 := Lib.hid (HR.out.below hbW1)
      have HM1 := Lib.hid (HM.out.below hbW1)
      have HI1 := Lib.hid hsW1
      have HV1 := Lib.hid (words_of_own HR1.out)
      clear hsW1 hbW1
      go_wp2_with fail
      refine (rget_any W1 _ l a HV1.out).mono ?_
      rintro en W1 ⟨rfl, rfl⟩
      rw [HX.out]
      go_wp2_with fail
      refine (rget_any W1 _ l b HV1.out).mono ?_
      rintro en W1 ⟨rfl, rfl⟩
      rw [HY.out]
      go_wp2_with fail
      refine (rget_any W1 _ l c HV1.out).mono ?_
      rintro en W1 ⟨rfl, rfl⟩
      rw [HZ.out]
      go_wp2_with fail
      refine (rload_any W1 _ m _ (words_of_own HM1.out) hl (show InW (wrap32 (x + y)) by rw [HT.out]; exact HTW.out)).mono ?_
      rintro en W1 ⟨rfl, rfl⟩
      rw [HT.out]
      rw [HBH.out]
      go_wp2_with fail
      go_ret2
      rw [HF.out, HG.out]
      exact ⟨rfl, HR1.out, HM1.out, Two.of_below HB.out⟩
    | true =>
      obtain ⟨v, hv⟩ : ∃ v, loadV m t = v := ⟨_, rfl⟩
      have HF := Lib.hid (show fxM ⟨25, d, e, a, b, c, imm, args⟩ l m = ⟨v, 0, 0, m⟩ by rw [hF0]; unfold loadF; rw [hB, hv]; rfl)
      have HG := Lib.hid (show regsM ⟨25, d, e, a, b, c, imm, args⟩ l m = setP l d v from regsM_one (show actsB 25 = true by decide) (show makesN 25 = 1 by decide) (show (25 : Int) ≠ 2 by decide) HF.out)
      have HBH := Lib.hid hB
      have HV := Lib.hid hv
      clear hB hv hF0
      go_enter Tryz.func19, Tryz.ntmps19
      go_upto_region 1 with (fail)
      obtain ⟨W1, hW1⟩ : ∃ W1, w.alloc (.cells #[.int .i64 25, .int .i64 d, .int .i64 e, .int .i64 a, .int .i64 b, .int .i64 c, .int .i32 imm, .slice A n k] 40) = W1 := ⟨_, rfl⟩
      have hbW1 : Below w.heap.size w W1 := by rw [← hW1]; exact (Below.refl _ _).alloc (Nat.le_refl _) _
      have hsW1 : Str W1 w.heap.size 40 [.int .i64 25, .int .i64 d, .int .i64 e, .int .i64 a, .int .i64 b, .int .i64 c, .int .i32 imm, .slice A n k] := by rw [← hW1]; exact World.alloc_heap_new w _
      rw [hW1]
      clear hW1
      have m0 : W1.cell? ⟨w.heap.size, 0, none⟩ = some (.int .i64 25) := hsW1.cell 0
      have m1 : W1.cell? ⟨w.heap.size, 1, none⟩ = some (.int .i64 d) := hsW1.cell 1
      have m2 : W1.cell? ⟨w.heap.size, 2, none⟩ = some (.int .i64 e) := hsW1.cell 2
      have m3 : W1.cell? ⟨w.heap.size, 3, none⟩ = some (.int .i64 a) := hsW1.cell 3
      have m4 : W1.cell? ⟨w.heap.size, 4, none⟩ = some (.int .i64 b) := hsW1.cell 4
      have m5 : W1.cell? ⟨w.heap.size, 5, none⟩ = some (.int .i64 c) := hsW1.cell 5
      have m6 : W1.cell? ⟨w.heap.size, 6, none⟩ = some (.int .i32 imm) := hsW1.cell 6
      have m7 : W1.cell? ⟨w.heap.size, 7, none⟩ = some (.slice A n k) := hsW1.cell 7
      have HB := Lib.hid hbW1
      have HR1 := Lib.hid (HR.out.below hbW1)
      have HM1 := Lib.hid (HM.out.below hbW1)
      have HI1 := Lib.hid hsW1
      have HV1 := Lib.hid (words_of_own HR1.out)
      clear hsW1 hbW1
      go_wp2_with fail
      refine (rget_any W1 _ l a HV1.out).mono ?_
      rintro en W1 ⟨rfl, rfl⟩
      rw [HX.out]
      go_wp2_with fail
      refine (rget_any W1 _ l b HV1.out).mono ?_
      rintro en W1 ⟨rfl, rfl⟩
      rw [HY.out]
      go_wp2_with fail
      refine (rget_any W1 _ l c HV1.out).mono ?_
      rintro en W1 ⟨rfl, rfl⟩
      rw [HZ.out]
      go_wp2_with fail
      refine (rload_any W1 _ m _ (words_of_own HM1.out) hl (show InW (wrap32 (x + y)) by rw [HT.out]; exact HTW.out)).mono ?_
      rintro en W1 ⟨rfl, rfl⟩
      rw [HT.out]
      rw [HBH.out, HV.out]
      go_wp2_with fail
      refine (rset_any W1 B _ l d v HR1.out).mono ?_
      rintro en w2 ⟨rfl, ho, hs⟩
      have HR2 := Lib.hid ho
      have HM2 := Lib.hid (OwnWords.set_kept HM1.out hs HAP.out)
      have HT2 := Lib.hid (show Two (Value.slice rA rn rc).ownBlock (Value.slice mA mn mc).ownBlock w w2 from Two.trans (Two.of_below HB.out) (Two.set hs))
      clear ho hs
      go_wp2_with fail
      go_ret2
      rw [HF.out, HG.out]
      exact ⟨rfl, HR2.out, HM2.out, HT2.out⟩
  · subst h
    obtain ⟨t, ht⟩ : ∃ t, wrap32 (x + imm) = t := ⟨_, rfl⟩
    have hF0 : fxM ⟨26, d, e, a, b, c, imm, args⟩ l m = storeF t y m := by have hx := HX.out; have hy := HY.out; have hz := HZ.out; subst hx hy hz ht; rfl
    have htw : InW t := by rw [← ht]; unfold InW wrap32; omega
    have HTW := Lib.hid htw
    have HT := Lib.hid ht
    clear ht htw
    have HG := Lib.hid (show regsM ⟨26, d, e, a, b, c, imm, args⟩ l m = l from regsM_keep (Or.inl (show makesN 26 = 0 by decide)))
    cases hB : hasB m.length t with
    | false =>
      have HF := Lib.hid (show fxM ⟨26, d, e, a, b, c, imm, args⟩ l m = ⟨0, 0, -2, m⟩ by rw [hF0]; unfold storeF; rw [hB]; rfl)
      have HBH := Lib.hid (show ¬ hasB m.length t = true by rw [hB]; simp)
      clear hB hF0
      go_enter Tryz.func19, Tryz.ntmps19
      go_upto_region 1 with (fail)
      obtain ⟨W1, hW1⟩ : ∃ W1, w.alloc (.cells #[.int .i64 26, .int .i64 d, .int .i64 e, .int .i64 a, .int .i64 b, .int .i64 c, .int .i32 imm, .slice A n k] 40) = W1 := ⟨_, rfl⟩
      have hbW1 : Below w.heap.size w W1 := by rw [← hW1]; exact (Below.refl _ _).alloc (Nat.le_refl _) _
      have hsW1 : Str W1 w.heap.size 40 [.int .i64 26, .int .i64 d, .int .i64 e, .int .i64 a, .int .i64 b, .int .i64 c, .int .i32 imm, .slice A n k] := by rw [← hW1]; exact World.alloc_heap_new w _
      rw [hW1]
      clear hW1
      have m0 : W1.cell? ⟨w.heap.size, 0, none⟩ = some (.int .i64 26) := hsW1.cell 0
      have m1 : W1.cell? ⟨w.heap.size, 1, none⟩ = some (.int .i64 d) := hsW1.cell 1
      have m2 : W1.cell? ⟨w.heap.size, 2, none⟩ = some (.int .i64 e) := hsW1.cell 2
      have m3 : W1.cell? ⟨w.heap.size, 3, none⟩ = some (.int .i64 a) := hsW1.cell 3
      have m4 : W1.cell? ⟨w.heap.size, 4, none⟩ = some (.int .i64 b) := hsW1.cell 4
      have m5 : W1.cell? ⟨w.heap.size, 5, none⟩ = some (.int .i64 c) := hsW1.cell 5
      have m6 : W1.cell? ⟨w.heap.size, 6, none⟩ = some (.int .i32 imm) := hsW1.cell 6
      have m7 : W1.cell? ⟨w.heap.size, 7, none⟩ = some (.slice A n k) := hsW1.cell 7
      have HB := Lib.hid hbW1
      have HR1 := Lib.hid (HR.out.below hbW1)
      have HM1 := Lib.hid (HM.out.below hbW1)
      have HI1 := Lib.hid hsW1
      have HV1 := Lib.hid (words_of_own HR1.out)
      clear hsW1 hbW1
      go_wp2_with fail
      refine (rget_any W1 _ l a HV1.out).mono ?_
      rintro en W1 ⟨rfl, rfl⟩
      rw [HX.out]
      go_wp2_with fail
      refine (rget_any W1 _ l b HV1.out).mono ?_
      rintro en W1 ⟨rfl, rfl⟩
      rw [HY.out]
      go_wp2_with fail
      refine (rget_any W1 _ l c HV1.out).mono ?_
      rintro en W1 ⟨rfl, rfl⟩
      rw [HZ.out]
      go_wp2_with fail
      refine (rstore_any W1 B _ m _ y HM1.out hl (show InW (wrap32 (x + imm)) by rw [HT.out]; exact HTW.out)).mono ?_
      rw [HT.out]
      intro en w2 hst
      unfold StoreRes at hst
      rw [if_neg HBH.out] at hst
      obtain ⟨rfl, rfl⟩ := hst
      go_wp2_with fail
      go_ret2
      rw [HF.out, HG.out]
      exact ⟨rfl, HR1.out, HM1.out, Two.of_below HB.out⟩
    | true =>
      have HF := Lib.hid (show fxM ⟨26, d, e, a, b, c, imm, args⟩ l m = ⟨0, 0, 0, m.set t.toNat y⟩ by rw [hF0]; unfold storeF; rw [hB]; rfl)
      have HBH := Lib.hid hB
      clear hB hF0
      go_enter Tryz.func19, Tryz.ntmps19
      go_upto_region 1 with (fail)
      obtain ⟨W1, hW1⟩ : ∃ W1, w.alloc (.cells #[.int .i64 26, .int .i64 d, .int .i64 e, .int .i64 a, .int .i64 b, .int .i64 c, .int .i32 imm, .slice A n k] 40) = W1 := ⟨_, rfl⟩
      have hbW1 : Below w.heap.size w W1 := by rw [← hW1]; exact (Below.refl _ _).alloc (Nat.le_refl _) _
      have hsW1 : Str W1 w.heap.size 40 [.int .i64 26, .int .i64 d, .int .i64 e, .int .i64 a, .int .i64 b, .int .i64 c, .int .i32 imm, .slice A n k] := by rw [← hW1]; exact World.alloc_heap_new w _
      rw [hW1]
      clear hW1
      have m0 : W1.cell? ⟨w.heap.size, 0, none⟩ = some (.int .i64 26) := hsW1.cell 0
      have m1 : W1.cell? ⟨w.heap.size, 1, none⟩ = some (.int .i64 d) := hsW1.cell 1
      have m2 : W1.cell? ⟨w.heap.size, 2, none⟩ = some (.int .i64 e) := hsW1.cell 2
      have m3 : W1.cell? ⟨w.heap.size, 3, none⟩ = some (.int .i64 a) := hsW1.cell 3
      have m4 : W1.cell? ⟨w.heap.size, 4, none⟩ = some (.int .i64 b) := hsW1.cell 4
      have m5 : W1.cell? ⟨w.heap.size, 5, none⟩ = some (.int .i64 c) := hsW1.cell 5
      have m6 : W1.cell? ⟨w.heap.size, 6, none⟩ = some (.int .i32 imm) := hsW1.cell 6
      have m7 : W1.cell? ⟨w.heap.size, 7, none⟩ = some (.slice A n k) := hsW1.cell 7
      have HB := Lib.hid hbW1
      have HR1 := Lib.hid (HR.out.below hbW1)
      have HM1 := Lib.hid (HM.out.below hbW1)
      have HI1 := Lib.hid hsW1
      have HV1 := Lib.hid (words_of_own HR1.out)
      clear hsW1 hbW1
      go_wp2_with fail
      refine (rget_any W1 _ l a HV1.out).mono ?_
      rintro en W1 ⟨rfl, rfl⟩
      rw [HX.out]
      go_wp2_with fail
      refine (rget_any W1 _ l b HV1.out).mono ?_
      rintro en W1 ⟨rfl, rfl⟩
      rw [HY.out]
      go_wp2_with fail
      refine (rget_any W1 _ l c HV1.out).mono ?_
      rintro en W1 ⟨rfl, rfl⟩
      rw [HZ.out]
      go_wp2_with fail
      refine (rstore_any W1 B _ m _ y HM1.out hl (show InW (wrap32 (x + imm)) by rw [HT.out]; exact HTW.out)).mono ?_
      rw [HT.out]
      intro en w2 hst
      unfold StoreRes at hst
      rw [if_pos HBH.out] at hst
      obtain ⟨rfl, g, hg, hbut, hom⟩ := hst
      have HM2 := Lib.hid hom
      have HR2 := Lib.hid (OwnWords.set_kept HR1.out (Or.inr ⟨g, rfl, hbut⟩) (by rcases HAP.out with h | h; exact Or.inr (by rw [h]; simp); exact Or.inr (by rw [← hg]; exact fun e => h e.symm)))
      have HT2 := Lib.hid (Two.trans (Two.of_below HB.out) (show Two (Value.slice rA rn rc).ownBlock (Value.slice mA mn mc).ownBlock W1 w2 from ⟨hbut.os, hbut.tape, hbut.output, hbut.size, fun k hk _ h2 => hbut.block k hk (fun e => h2 (by rw [hg, e]))⟩))
      clear hg hbut hom
      go_wp2_with fail
      go_ret2
      rw [HF.out, HG.out]
      exact ⟨rfl, HR2.out, HM2.out, HT2.out⟩
  · subst h
    obtain ⟨t, ht⟩ : ∃ t, wrap32 (x + y) = t := ⟨_, rfl⟩
    have hF0 : fxM ⟨27, d, e, a, b, c, imm, args⟩ l m = storeF t z m := by have hx := HX.out; have hy := HY.out; have hz := HZ.out; subst hx hy hz ht; rfl
    have htw : InW t := by rw [← ht]; unfold InW wrap32; omega
    have HTW := Lib.hid htw
    have HT := Lib.hid ht
    clear ht htw
    have HG := Lib.hid (show regsM ⟨27, d, e, a, b, c, imm, args⟩ l m = l from regsM_keep (Or.inl (show makesN 27 = 0 by decide)))
    cases hB : hasB m.length t with
    | false =>
      have HF := Lib.hid (show fxM ⟨27, d, e, a, b, c, imm, args⟩ l m = ⟨0, 0, -2, m⟩ by rw [hF0]; unfold storeF; rw [hB]; rfl)
      have HBH := Lib.hid (show ¬ hasB m.length t = true by rw [hB]; simp)
      clear hB hF0
      go_enter Tryz.func19, Tryz.ntmps19
      go_upto_region 1 with (fail)
      obtain ⟨W1, hW1⟩ : ∃ W1, w.alloc (.cells #[.int .i64 27, .int .i64 d, .int .i64 e, .int .i64 a, .int .i64 b, .int .i64 c, .int .i32 imm, .slice A n k] 40) = W1 := ⟨_, rfl⟩
      have hbW1 : Below w.heap.size w W1 := by rw [← hW1]; exact (Below.refl _ _).alloc (Nat.le_refl _) _
      have hsW1 : Str W1 w.heap.size 40 [.int .i64 27, .int .i64 d, .int .i64 e, .int .i64 a, .int .i64 b, .int .i64 c, .int .i32 imm, .slice A n k] := by rw [← hW1]; exact World.alloc_heap_new w _
      rw [hW1]
      clear hW1
      have m0 : W1.cell? ⟨w.heap.size, 0, none⟩ = some (.int .i64 27) := hsW1.cell 0
      have m1 : W1.cell? ⟨w.heap.size, 1, none⟩ = some (.int .i64 d) := hsW1.cell 1
      have m2 : W1.cell? ⟨w.heap.size, 2, none⟩ = some (.int .i64 e) := hsW1.cell 2
      have m3 : W1.cell? ⟨w.heap.size, 3, none⟩ = some (.int .i64 a) := hsW1.cell 3
      have m4 : W1.cell? ⟨w.heap.size, 4, none⟩ = some (.int .i64 b) := hsW1.cell 4
      have m5 : W1.cell? ⟨w.heap.size, 5, none⟩ = some (.int .i64 c) := hsW1.cell 5
      have m6 : W1.cell? ⟨w.heap.size, 6, none⟩ = some (.int .i32 imm) := hsW1.cell 6
      have m7 : W1.cell? ⟨w.heap.size, 7, none⟩ = some (.slice A n k) := hsW1.cell 7
      have HB := Lib.hid hbW1
      have HR1 := Lib.hid (HR.out.below hbW1)
      have HM1 := Lib.hid (HM.out.below hbW1)
      have HI1 := Lib.hid hsW1
      have HV1 := Lib.hid (words_of_own HR1.out)
      clear hsW1 hbW1
      go_wp2_with fail
      refine (rget_any W1 _ l a HV1.out).mono ?_
      rintro en W1 ⟨rfl, rfl⟩
      rw [HX.out]
      go_wp2_with fail
      refine (rget_any W1 _ l b HV1.out).mono ?_
      rintro en W1 ⟨rfl, rfl⟩
      rw [HY.out]
      go_wp2_with fail
      refine (rget_any W1 _ l c HV1.out).mono ?_
      rintro en W1 ⟨rfl, rfl⟩
      rw [HZ.out]
      go_wp2_with fail
      refine (rstore_any W1 B _ m _ z HM1.out hl (show InW (wrap32 (x + y)) by rw [HT.out]; exact HTW.out)).mono ?_
      rw [HT.out]
      intro en w2 hst
      unfold StoreRes at hst
      rw [if_neg HBH.out] at hst
      obtain ⟨rfl, rfl⟩ := hst
      go_wp2_with fail
      go_ret2
      rw [HF.out, HG.out]
      exact ⟨rfl, HR1.out, HM1.out, Two.of_below HB.out⟩
    | true =>
      have HF := Lib.hid (show fxM ⟨27, d, e, a, b, c, imm, args⟩ l m = ⟨0, 0, 0, m.set t.toNat z⟩ by rw [hF0]; unfold storeF; rw [hB]; rfl)
      have HBH := Lib.hid hB
      clear hB hF0
      go_enter Tryz.func19, Tryz.ntmps19
      go_upto_region 1 with (fail)
      obtain ⟨W1, hW1⟩ : ∃ W1, w.alloc (.cells #[.int .i64 27, .int .i64 d, .int .i64 e, .int .i64 a, .int .i64 b, .int .i64 c, .int .i32 imm, .slice A n k] 40) = W1 := ⟨_, rfl⟩
      have hbW1 : Below w.heap.size w W1 := by rw [← hW1]; exact (Below.refl _ _).alloc (Nat.le_refl _) _
      have hsW1 : Str W1 w.heap.size 40 [.int .i64 27, .int .i64 d, .int .i64 e, .int .i64 a, .int .i64 b, .int .i64 c, .int .i32 imm, .slice A n k] := by rw [← hW1]; exact World.alloc_heap_new w _
      rw [hW1]
      clear hW1
      have m0 : W1.cell? ⟨w.heap.size, 0, none⟩ = some (.int .i64 27) := hsW1.cell 0
      have m1 : W1.cell? ⟨w.heap.size, 1, none⟩ = some (.int .i64 d) := hsW1.cell 1
      have m2 : W1.cell? ⟨w.heap.size, 2, none⟩ = some (.int .i64 e) := hsW1.cell 2
      have m3 : W1.cell? ⟨w.heap.size, 3, none⟩ = some (.int .i64 a) := hsW1.cell 3
      have m4 : W1.cell? ⟨w.heap.size, 4, none⟩ = some (.int .i64 b) := hsW1.cell 4
      have m5 : W1.cell? ⟨w.heap.size, 5, none⟩ = some (.int .i64 c) := hsW1.cell 5
      have m6 : W1.cell? ⟨w.heap.size, 6, none⟩ = some (.int .i32 imm) := hsW1.cell 6
      have m7 : W1.cell? ⟨w.heap.size, 7, none⟩ = some (.slice A n k) := hsW1.cell 7
      have HB := Lib.hid hbW1
      have HR1 := Lib.hid (HR.out.below hbW1)
      have HM1 := Lib.hid (HM.out.below hbW1)
      have HI1 := Lib.hid hsW1
      have HV1 := Lib.hid (words_of_own HR1.out)
      clear hsW1 hbW1
      go_wp2_with fail
      refine (rget_any W1 _ l a HV1.out).mono ?_
      rintro en W1 ⟨rfl, rfl⟩
      rw [HX.out]
      go_wp2_with fail
      refine (rget_any W1 _ l b HV1.out).mono ?_
      rintro en W1 ⟨rfl, rfl⟩
      rw [HY.out]
      go_wp2_with fail
      refine (rget_any W1 _ l c HV1.out).mono ?_
      rintro en W1 ⟨rfl, rfl⟩
      rw [HZ.out]
      go_wp2_with fail
      refine (rstore_any W1 B _ m _ z HM1.out hl (show InW (wrap32 (x + y)) by rw [HT.out]; exact HTW.out)).mono ?_
      rw [HT.out]
      intro en w2 hst
      unfold StoreRes at hst
      rw [if_pos HBH.out] at hst
      obtain ⟨rfl, g, hg, hbut, hom⟩ := hst
      have HM2 := Lib.hid hom
      have HR2 := Lib.hid (OwnWords.set_kept HR1.out (Or.inr ⟨g, rfl, hbut⟩) (by rcases HAP.out with h | h; exact Or.inr (by rw [h]; simp); exact Or.inr (by rw [← hg]; exact fun e => h e.symm)))
      have HT2 := Lib.hid (Two.trans (Two.of_below HB.out) (show Two (Value.slice rA rn rc).ownBlock (Value.slice mA mn mc).ownBlock W1 w2 from ⟨hbut.os, hbut.tape, hbut.output, hbut.size, fun k hk _ h2 => hbut.block k hk (fun e => h2 (by rw [hg, e]))⟩))
      clear hg hbut hom
      go_wp2_with fail
      go_ret2
      rw [HF.out, HG.out]
      exact ⟨rfl, HR2.out, HM2.out, HT2.out⟩
  · subst h
    have HF := Lib.hid (show fxM ⟨28, d, e, a, b, c, imm, args⟩ l m = ⟨0, 0, 0, m⟩ by have hx := HX.out; have hy := HY.out; have hz := HZ.out; subst hx hy hz; rfl)
    have HG := Lib.hid (show regsM ⟨28, d, e, a, b, c, imm, args⟩ l m = l from if_neg (by show ¬ actsB 28 = true; decide))
    go_enter Tryz.func19, Tryz.ntmps19
    go_upto_region 1 with (fail)
    obtain ⟨W1, hW1⟩ : ∃ W1, w.alloc (.cells #[.int .i64 28, .int .i64 d, .int .i64 e, .int .i64 a, .int .i64 b, .int .i64 c, .int .i32 imm, .slice A n k] 40) = W1 := ⟨_, rfl⟩
    have hbW1 : Below w.heap.size w W1 := by rw [← hW1]; exact (Below.refl _ _).alloc (Nat.le_refl _) _
    have hsW1 : Str W1 w.heap.size 40 [.int .i64 28, .int .i64 d, .int .i64 e, .int .i64 a, .int .i64 b, .int .i64 c, .int .i32 imm, .slice A n k] := by rw [← hW1]; exact World.alloc_heap_new w _
    rw [hW1]
    clear hW1
    have m0 : W1.cell? ⟨w.heap.size, 0, none⟩ = some (.int .i64 28) := hsW1.cell 0
    have m1 : W1.cell? ⟨w.heap.size, 1, none⟩ = some (.int .i64 d) := hsW1.cell 1
    have m2 : W1.cell? ⟨w.heap.size, 2, none⟩ = some (.int .i64 e) := hsW1.cell 2
    have m3 : W1.cell? ⟨w.heap.size, 3, none⟩ = some (.int .i64 a) := hsW1.cell 3
    have m4 : W1.cell? ⟨w.heap.size, 4, none⟩ = some (.int .i64 b) := hsW1.cell 4
    have m5 : W1.cell? ⟨w.heap.size, 5, none⟩ = some (.int .i64 c) := hsW1.cell 5
    have m6 : W1.cell? ⟨w.heap.size, 6, none⟩ = some (.int .i32 imm) := hsW1.cell 6
    have m7 : W1.cell? ⟨w.heap.size, 7, none⟩ = some (.slice A n k) := hsW1.cell 7
    have HB := Lib.hid hbW1
    have HR1 := Lib.hid (HR.out.below hbW1)
    have HM1 := Lib.hid (HM.out.below hbW1)
    have HI1 := Lib.hid hsW1
    have HV1 := Lib.hid (words_of_own HR1.out)
    clear hsW1 hbW1
    go_wp2_with fail
    refine (rget_any W1 _ l a HV1.out).mono ?_
    rintro en W1 ⟨rfl, rfl⟩
    rw [HX.out]
    go_wp2_with fail
    refine (rget_any W1 _ l b HV1.out).mono ?_
    rintro en W1 ⟨rfl, rfl⟩
    rw [HY.out]
    go_wp2_with fail
    refine (rget_any W1 _ l c HV1.out).mono ?_
    rintro en W1 ⟨rfl, rfl⟩
    rw [HZ.out]
    go_wp2_with fail
    go_ret2
    rw [HF.out, HG.out]
    exact ⟨rfl, HR1.out, HM1.out, Two.of_below HB.out⟩
  · subst h
    have HF := Lib.hid (show fxM ⟨29, d, e, a, b, c, imm, args⟩ l m = ⟨wLow x y, wHigh x y, 0, m⟩ by have hx := HX.out; have hy := HY.out; have hz := HZ.out; subst hx hy hz; rfl)
    have HG := Lib.hid (show regsM ⟨29, d, e, a, b, c, imm, args⟩ l m = setP (setP l d (wLow x y)) e (wHigh x y) from regsM_two (show actsB 29 = true by decide) (show makesN 29 = 2 by decide) HF.out)
    go_enter Tryz.func19, Tryz.ntmps19
    go_upto_region 1 with (fail)
    obtain ⟨W1, hW1⟩ : ∃ W1, w.alloc (.cells #[.int .i64 29, .int .i64 d, .int .i64 e, .int .i64 a, .int .i64 b, .int .i64 c, .int .i32 imm, .slice A n k] 40) = W1 := ⟨_, rfl⟩
    have hbW1 : Below w.heap.size w W1 := by rw [← hW1]; exact (Below.refl _ _).alloc (Nat.le_refl _) _
    have hsW1 : Str W1 w.heap.size 40 [.int .i64 29, .int .i64 d, .int .i64 e, .int .i64 a, .int .i64 b, .int .i64 c, .int .i32 imm, .slice A n k] := by rw [← hW1]; exact World.alloc_heap_new w _
    rw [hW1]
    clear hW1
    have m0 : W1.cell? ⟨w.heap.size, 0, none⟩ = some (.int .i64 29) := hsW1.cell 0
    have m1 : W1.cell? ⟨w.heap.size, 1, none⟩ = some (.int .i64 d) := hsW1.cell 1
    have m2 : W1.cell? ⟨w.heap.size, 2, none⟩ = some (.int .i64 e) := hsW1.cell 2
    have m3 : W1.cell? ⟨w.heap.size, 3, none⟩ = some (.int .i64 a) := hsW1.cell 3
    have m4 : W1.cell? ⟨w.heap.size, 4, none⟩ = some (.int .i64 b) := hsW1.cell 4
    have m5 : W1.cell? ⟨w.heap.size, 5, none⟩ = some (.int .i64 c) := hsW1.cell 5
    have m6 : W1.cell? ⟨w.heap.size, 6, none⟩ = some (.int .i32 imm) := hsW1.cell 6
    have m7 : W1.cell? ⟨w.heap.size, 7, none⟩ = some (.slice A n k) := hsW1.cell 7
    have HB := Lib.hid hbW1
    have HR1 := Lib.hid (HR.out.below hbW1)
    have HM1 := Lib.hid (HM.out.below hbW1)
    have HI1 := Lib.hid hsW1
    have HV1 := Lib.hid (words_of_own HR1.out)
    clear hsW1 hbW1
    go_wp2_with fail
    refine (rget_any W1 _ l a HV1.out).mono ?_
    rintro en W1 ⟨rfl, rfl⟩
    rw [HX.out]
    go_wp2_with fail
    refine (rget_any W1 _ l b HV1.out).mono ?_
    rintro en W1 ⟨rfl, rfl⟩
    rw [HY.out]
    go_wp2_with fail
    refine (rget_any W1 _ l c HV1.out).mono ?_
    rintro en W1 ⟨rfl, rfl⟩
    rw [HZ.out]
    go_wp2_with fail
    refine (rwide_any x y HXW.out HYW.out W1).mono ?_
    rintro en W1 ⟨rfl, rfl⟩
    generalize wLow x y = lo at *
    generalize wHigh x y = hi at *
    go_wp2_with fail
    refine (rset_any W1 B _ l d lo HR1.out).mono ?_
    rintro en w2 ⟨rfl, ho, hs⟩
    have HR2 := Lib.hid ho
    have HM2 := Lib.hid (OwnWords.set_kept HM1.out hs HAP.out)
    have HT2 := Lib.hid (show Two (Value.slice rA rn rc).ownBlock (Value.slice mA mn mc).ownBlock w w2 from Two.trans (Two.of_below HB.out) (Two.set hs))
    have hsw2 := Str.set_kept HI1.out hs HF1.out
    have HI2 := Lib.hid hsw2
    have m0 : w2.cell? ⟨w.heap.size, 0, none⟩ = some (.int .i64 29) := hsw2.cell 0
    have m1 : w2.cell? ⟨w.heap.size, 1, none⟩ = some (.int .i64 d) := hsw2.cell 1
    have m2 : w2.cell? ⟨w.heap.size, 2, none⟩ = some (.int .i64 e) := hsw2.cell 2
    have m3 : w2.cell? ⟨w.heap.size, 3, none⟩ = some (.int .i64 a) := hsw2.cell 3
    have m4 : w2.cell? ⟨w.heap.size, 4, none⟩ = some (.int .i64 b) := hsw2.cell 4
    have m5 : w2.cell? ⟨w.heap.size, 5, none⟩ = some (.int .i64 c) := hsw2.cell 5
    have m6 : w2.cell? ⟨w.heap.size, 6, none⟩ = some (.int .i32 imm) := hsw2.cell 6
    have m7 : w2.cell? ⟨w.heap.size, 7, none⟩ = some (.slice A n k) := hsw2.cell 7
    clear hsw2
    clear ho hs
    go_wp2_with fail
    refine (rset_any w2 B _ (setP l d lo) e hi HR2.out).mono ?_
    rintro en w3 ⟨rfl, ho, hs⟩
    have HR3 := Lib.hid ho
    have HM3 := Lib.hid (OwnWords.set_kept HM2.out hs HAP.out)
    have HT3 := Lib.hid (show Two (Value.slice rA rn rc).ownBlock (Value.slice mA mn mc).ownBlock w w3 from Two.trans HT2.out (Two.set hs))
    clear ho hs
    go_wp2_with fail
    go_ret2
    rw [HF.out, HG.out]
    exact ⟨rfl, HR3.out, HM3.out, HT3.out⟩
  · subst h
    have HF := Lib.hid (show fxM ⟨30, d, e, a, b, c, imm, args⟩ l m = ⟨0, 0, 0, m⟩ by have hx := HX.out; have hy := HY.out; have hz := HZ.out; subst hx hy hz; rfl)
    have HG := Lib.hid (show regsM ⟨30, d, e, a, b, c, imm, args⟩ l m = l from if_neg (by show ¬ actsB 30 = true; decide))
    go_enter Tryz.func19, Tryz.ntmps19
    go_upto_region 1 with (fail)
    obtain ⟨W1, hW1⟩ : ∃ W1, w.alloc (.cells #[.int .i64 30, .int .i64 d, .int .i64 e, .int .i64 a, .int .i64 b, .int .i64 c, .int .i32 imm, .slice A n k] 40) = W1 := ⟨_, rfl⟩
    have hbW1 : Below w.heap.size w W1 := by rw [← hW1]; exact (Below.refl _ _).alloc (Nat.le_refl _) _
    have hsW1 : Str W1 w.heap.size 40 [.int .i64 30, .int .i64 d, .int .i64 e, .int .i64 a, .int .i64 b, .int .i64 c, .int .i32 imm, .slice A n k] := by rw [← hW1]; exact World.alloc_heap_new w _
    rw [hW1]
    clear hW1
    have m0 : W1.cell? ⟨w.heap.size, 0, none⟩ = some (.int .i64 30) := hsW1.cell 0
    have m1 : W1.cell? ⟨w.heap.size, 1, none⟩ = some (.int .i64 d) := hsW1.cell 1
    have m2 : W1.cell? ⟨w.heap.size, 2, none⟩ = some (.int .i64 e) := hsW1.cell 2
    have m3 : W1.cell? ⟨w.heap.size, 3, none⟩ = some (.int .i64 a) := hsW1.cell 3
    have m4 : W1.cell? ⟨w.heap.size, 4, none⟩ = some (.int .i64 b) := hsW1.cell 4
    have m5 : W1.cell? ⟨w.heap.size, 5, none⟩ = some (.int .i64 c) := hsW1.cell 5
    have m6 : W1.cell? ⟨w.heap.size, 6, none⟩ = some (.int .i32 imm) := hsW1.cell 6
    have m7 : W1.cell? ⟨w.heap.size, 7, none⟩ = some (.slice A n k) := hsW1.cell 7
    have HB := Lib.hid hbW1
    have HR1 := Lib.hid (HR.out.below hbW1)
    have HM1 := Lib.hid (HM.out.below hbW1)
    have HI1 := Lib.hid hsW1
    have HV1 := Lib.hid (words_of_own HR1.out)
    clear hsW1 hbW1
    go_wp2_with fail
    refine (rget_any W1 _ l a HV1.out).mono ?_
    rintro en W1 ⟨rfl, rfl⟩
    rw [HX.out]
    go_wp2_with fail
    refine (rget_any W1 _ l b HV1.out).mono ?_
    rintro en W1 ⟨rfl, rfl⟩
    rw [HY.out]
    go_wp2_with fail
    refine (rget_any W1 _ l c HV1.out).mono ?_
    rintro en W1 ⟨rfl, rfl⟩
    rw [HZ.out]
    go_wp2_with fail
    go_ret2
    rw [HF.out, HG.out]
    exact ⟨rfl, HR1.out, HM1.out, Two.of_below HB.out⟩
  · subst h
    have HF := Lib.hid (show fxM ⟨31, d, e, a, b, c, imm, args⟩ l m = ⟨0, 0, 0, m⟩ by have hx := HX.out; have hy := HY.out; have hz := HZ.out; subst hx hy hz; rfl)
    have HG := Lib.hid (show regsM ⟨31, d, e, a, b, c, imm, args⟩ l m = l from if_neg (by show ¬ actsB 31 = true; decide))
    go_enter Tryz.func19, Tryz.ntmps19
    go_upto_region 1 with (fail)
    obtain ⟨W1, hW1⟩ : ∃ W1, w.alloc (.cells #[.int .i64 31, .int .i64 d, .int .i64 e, .int .i64 a, .int .i64 b, .int .i64 c, .int .i32 imm, .slice A n k] 40) = W1 := ⟨_, rfl⟩
    have hbW1 : Below w.heap.size w W1 := by rw [← hW1]; exact (Below.refl _ _).alloc (Nat.le_refl _) _
    have hsW1 : Str W1 w.heap.size 40 [.int .i64 31, .int .i64 d, .int .i64 e, .int .i64 a, .int .i64 b, .int .i64 c, .int .i32 imm, .slice A n k] := by rw [← hW1]; exact World.alloc_heap_new w _
    rw [hW1]
    clear hW1
    have m0 : W1.cell? ⟨w.heap.size, 0, none⟩ = some (.int .i64 31) := hsW1.cell 0
    have m1 : W1.cell? ⟨w.heap.size, 1, none⟩ = some (.int .i64 d) := hsW1.cell 1
    have m2 : W1.cell? ⟨w.heap.size, 2, none⟩ = some (.int .i64 e) := hsW1.cell 2
    have m3 : W1.cell? ⟨w.heap.size, 3, none⟩ = some (.int .i64 a) := hsW1.cell 3
    have m4 : W1.cell? ⟨w.heap.size, 4, none⟩ = some (.int .i64 b) := hsW1.cell 4
    have m5 : W1.cell? ⟨w.heap.size, 5, none⟩ = some (.int .i64 c) := hsW1.cell 5
    have m6 : W1.cell? ⟨w.heap.size, 6, none⟩ = some (.int .i32 imm) := hsW1.cell 6
    have m7 : W1.cell? ⟨w.heap.size, 7, none⟩ = some (.slice A n k) := hsW1.cell 7
    have HB := Lib.hid hbW1
    have HR1 := Lib.hid (HR.out.below hbW1)
    have HM1 := Lib.hid (HM.out.below hbW1)
    have HI1 := Lib.hid hsW1
    have HV1 := Lib.hid (words_of_own HR1.out)
    clear hsW1 hbW1
    go_wp2_with fail
    refine (rget_any W1 _ l a HV1.out).mono ?_
    rintro en W1 ⟨rfl, rfl⟩
    rw [HX.out]
    go_wp2_with fail
    refine (rget_any W1 _ l b HV1.out).mono ?_
    rintro en W1 ⟨rfl, rfl⟩
    rw [HY.out]
    go_wp2_with fail
    refine (rget_any W1 _ l c HV1.out).mono ?_
    rintro en W1 ⟨rfl, rfl⟩
    rw [HZ.out]
    go_wp2_with fail
    go_ret2
    rw [HF.out, HG.out]
    exact ⟨rfl, HR1.out, HM1.out, Two.of_below HB.out⟩
  · have g1 : (op == 1) = false := beq_eq_false_iff_ne.2 (by omega)
    have g2 : (op == 2) = false := beq_eq_false_iff_ne.2 (by omega)
    have g3 : (op == 3) = false := beq_eq_false_iff_ne.2 (by omega)
    have g4 : (op == 4) = false := beq_eq_false_iff_ne.2 (by omega)
    have g23 : (op == 23) = false := beq_eq_false_iff_ne.2 (by omega)
    have g24 : (op == 24) = false := beq_eq_false_iff_ne.2 (by omega)
    have g25 : (op == 25) = false := beq_eq_false_iff_ne.2 (by omega)
    have g26 : (op == 26) = false := beq_eq_false_iff_ne.2 (by omega)
    have g27 : (op == 27) = false := beq_eq_false_iff_ne.2 (by omega)
    have g29 : (op == 29) = false := beq_eq_false_iff_ne.2 (by omega)
    have HF := Lib.hid (show fxM ⟨op, d, e, a, b, c, imm, args⟩ l m = ⟨0, 0, 0, m⟩ from fxM_nil (decide_eq_false (by simp only; omega)))
    have HG := Lib.hid (show regsM ⟨op, d, e, a, b, c, imm, args⟩ l m = l from if_neg (by show ¬ actsB op = true; rw [show actsB op = false from decide_eq_false (by omega)]; simp))
    go_enter Tryz.func19, Tryz.ntmps19
    go_upto_region 1 with (fail)
    obtain ⟨W1, hW1⟩ : ∃ W1, w.alloc (.cells #[.int .i64 op, .int .i64 d, .int .i64 e, .int .i64 a, .int .i64 b, .int .i64 c, .int .i32 imm, .slice A n k] 40) = W1 := ⟨_, rfl⟩
    have hbW1 : Below w.heap.size w W1 := by rw [← hW1]; exact (Below.refl _ _).alloc (Nat.le_refl _) _
    have hsW1 : Str W1 w.heap.size 40 [.int .i64 op, .int .i64 d, .int .i64 e, .int .i64 a, .int .i64 b, .int .i64 c, .int .i32 imm, .slice A n k] := by rw [← hW1]; exact World.alloc_heap_new w _
    rw [hW1]
    clear hW1
    have m0 : W1.cell? ⟨w.heap.size, 0, none⟩ = some (.int .i64 op) := hsW1.cell 0
    have m1 : W1.cell? ⟨w.heap.size, 1, none⟩ = some (.int .i64 d) := hsW1.cell 1
    have m2 : W1.cell? ⟨w.heap.size, 2, none⟩ = some (.int .i64 e) := hsW1.cell 2
    have m3 : W1.cell? ⟨w.heap.size, 3, none⟩ = some (.int .i64 a) := hsW1.cell 3
    have m4 : W1.cell? ⟨w.heap.size, 4, none⟩ = some (.int .i64 b) := hsW1.cell 4
    have m5 : W1.cell? ⟨w.heap.size, 5, none⟩ = some (.int .i64 c) := hsW1.cell 5
    have m6 : W1.cell? ⟨w.heap.size, 6, none⟩ = some (.int .i32 imm) := hsW1.cell 6
    have m7 : W1.cell? ⟨w.heap.size, 7, none⟩ = some (.slice A n k) := hsW1.cell 7
    have HB := Lib.hid hbW1
    have HR1 := Lib.hid (HR.out.below hbW1)
    have HM1 := Lib.hid (HM.out.below hbW1)
    have HI1 := Lib.hid hsW1
    have HV1 := Lib.hid (words_of_own HR1.out)
    clear hsW1 hbW1
    go_wp2_with fail
    refine (rget_any W1 _ l a HV1.out).mono ?_
    rintro en W1 ⟨rfl, rfl⟩
    rw [HX.out]
    go_wp2_with fail
    refine (rget_any W1 _ l b HV1.out).mono ?_
    rintro en W1 ⟨rfl, rfl⟩
    rw [HY.out]
    go_wp2_with fail
    refine (rget_any W1 _ l c HV1.out).mono ?_
    rintro en W1 ⟨rfl, rfl⟩
    rw [HZ.out]
    go_wp2_with fail
    go_ret2
    rw [HF.out, HG.out]
    exact ⟨rfl, HR1.out, HM1.out, Two.of_below HB.out⟩
  · have g1 : (op == 1) = false := beq_eq_false_iff_ne.2 (by omega)
    have g2 : (op == 2) = false := beq_eq_false_iff_ne.2 (by omega)
    have g3 : (op == 3) = false := beq_eq_false_iff_ne.2 (by omega)
    have g4 : (op == 4) = false := beq_eq_false_iff_ne.2 (by omega)
    have g23 : (op == 23) = false := beq_eq_false_iff_ne.2 (by omega)
    have g24 : (op == 24) = false := beq_eq_false_iff_ne.2 (by omega)
    have g25 : (op == 25) = false := beq_eq_false_iff_ne.2 (by omega)
    have g26 : (op == 26) = false := beq_eq_false_iff_ne.2 (by omega)
    have g27 : (op == 27) = false := beq_eq_false_iff_ne.2 (by omega)
    have g29 : (op == 29) = false := beq_eq_false_iff_ne.2 (by omega)
    have HF := Lib.hid (show fxM ⟨op, d, e, a, b, c, imm, args⟩ l m = ⟨0, 0, 0, m⟩ from fxM_nil (decide_eq_false (by simp only; omega)))
    have HG := Lib.hid (show regsM ⟨op, d, e, a, b, c, imm, args⟩ l m = l from if_neg (by show ¬ actsB op = true; rw [show actsB op = false from decide_eq_false (by omega)]; simp))
    go_enter Tryz.func19, Tryz.ntmps19
    go_upto_region 1 with (fail)
    obtain ⟨W1, hW1⟩ : ∃ W1, w.alloc (.cells #[.int .i64 op, .int .i64 d, .int .i64 e, .int .i64 a, .int .i64 b, .int .i64 c, .int .i32 imm, .slice A n k] 40) = W1 := ⟨_, rfl⟩
    have hbW1 : Below w.heap.size w W1 := by rw [← hW1]; exact (Below.refl _ _).alloc (Nat.le_refl _) _
    have hsW1 : Str W1 w.heap.size 40 [.int .i64 op, .int .i64 d, .int .i64 e, .int .i64 a, .int .i64 b, .int .i64 c, .int .i32 imm, .slice A n k] := by rw [← hW1]; exact World.alloc_heap_new w _
    rw [hW1]
    clear hW1
    have m0 : W1.cell? ⟨w.heap.size, 0, none⟩ = some (.int .i64 op) := hsW1.cell 0
    have m1 : W1.cell? ⟨w.heap.size, 1, none⟩ = some (.int .i64 d) := hsW1.cell 1
    have m2 : W1.cell? ⟨w.heap.size, 2, none⟩ = some (.int .i64 e) := hsW1.cell 2
    have m3 : W1.cell? ⟨w.heap.size, 3, none⟩ = some (.int .i64 a) := hsW1.cell 3
    have m4 : W1.cell? ⟨w.heap.size, 4, none⟩ = some (.int .i64 b) := hsW1.cell 4
    have m5 : W1.cell? ⟨w.heap.size, 5, none⟩ = some (.int .i64 c) := hsW1.cell 5
    have m6 : W1.cell? ⟨w.heap.size, 6, none⟩ = some (.int .i32 imm) := hsW1.cell 6
    have m7 : W1.cell? ⟨w.heap.size, 7, none⟩ = some (.slice A n k) := hsW1.cell 7
    have HB := Lib.hid hbW1
    have HR1 := Lib.hid (HR.out.below hbW1)
    have HM1 := Lib.hid (HM.out.below hbW1)
    have HI1 := Lib.hid hsW1
    have HV1 := Lib.hid (words_of_own HR1.out)
    clear hsW1 hbW1
    go_wp2_with fail
    refine (rget_any W1 _ l a HV1.out).mono ?_
    rintro en W1 ⟨rfl, rfl⟩
    rw [HX.out]
    go_wp2_with fail
    refine (rget_any W1 _ l b HV1.out).mono ?_
    rintro en W1 ⟨rfl, rfl⟩
    rw [HY.out]
    go_wp2_with fail
    refine (rget_any W1 _ l c HV1.out).mono ?_
    rintro en W1 ⟨rfl, rfl⟩
    rw [HZ.out]
    go_wp2_with fail
    go_ret2
    rw [HF.out, HG.out]
    exact ⟨rfl, HR1.out, HM1.out, Two.of_below HB.out⟩
end Go.Proofs.YtonheiaohgbbcaaGreat.Mc
