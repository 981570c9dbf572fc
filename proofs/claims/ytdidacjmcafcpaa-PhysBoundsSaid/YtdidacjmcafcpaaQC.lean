/- Stage 12: the reference's Takes, Makes, Spoils. -/
import Derived.Test.YtdidacjmcafcpaaQA
import Derived.Test.YtdidacjmcafcpaaQB
namespace Go.Proofs.Ytdidacjmcafcpaa.Ph
open Go.ChangeShapes Go.WideShapes Go.ChangeAt Go.RowKit Go.Proofs.Ytdidacjmcafcpaa.Mem Go.Proofs.Ytdidacjmcafcpaa.Kc Go.Proofs.Ytdidacjmcafcpaa.Pl Go.Proofs.Ytdidacjmcafcpaa.Mw Go.Proofs.Ytdidacjmcafcpaa.Mc Go.Proofs.Ytdidacjmcafcpaa.Br
set_option linter.unusedVariables false
set_option linter.unusedSimpArgs false
attribute [local go_sem] Oper.semAt_some
set_option maxRecDepth 100000 in
set_option maxHeartbeats 4000000 in
theorem rtakesQ_any (w : World) (i : PMach) (A : Option Addr) (n k : Nat) (hw : InW i.imm) (hv : Ints w (.slice A n k) i.args) (hl : i.args.length ≤ 1000000) : Calls Try.prog 10 #[.agg #[.int .i64 i.op, .int .i64 i.d, .int .i64 i.e, .int .i64 i.a, .int .i64 i.b, .int .i64 i.c, .int .i32 i.imm, .slice A n k]] w (RowPost (takesQ i) w) := by
  have hw1 := hw.1
  have hw2 := hw.2
  obtain ⟨W1, hW1⟩ : ∃ W1, w.alloc (.cells #[.int .i64 i.op, .int .i64 i.d, .int .i64 i.e, .int .i64 i.a, .int .i64 i.b, .int .i64 i.c, .int .i32 i.imm, .slice A n k] 24) = W1 := ⟨_, rfl⟩
  have hb1 : Below w.heap.size w W1 := by rw [← hW1]; exact (Below.refl _ _).alloc (Nat.le_refl _) _
  have hs1 : Str W1 w.heap.size 24 [.int .i64 i.op, .int .i64 i.d, .int .i64 i.e, .int .i64 i.a, .int .i64 i.b, .int .i64 i.c, .int .i32 i.imm, .slice A n k] := by rw [← hW1]; exact World.alloc_heap_new w _
  have HB1 := Lib.hid hb1
  have HS1 := Lib.hid hs1
  have m0 : W1.cell? ⟨w.heap.size, 0, none⟩ = some (.int .i64 i.op) := hs1.cell 0
  have m1 : W1.cell? ⟨w.heap.size, 1, none⟩ = some (.int .i64 i.d) := hs1.cell 1
  have m2 : W1.cell? ⟨w.heap.size, 2, none⟩ = some (.int .i64 i.e) := hs1.cell 2
  have m3 : W1.cell? ⟨w.heap.size, 3, none⟩ = some (.int .i64 i.a) := hs1.cell 3
  have m4 : W1.cell? ⟨w.heap.size, 4, none⟩ = some (.int .i64 i.b) := hs1.cell 4
  have m5 : W1.cell? ⟨w.heap.size, 5, none⟩ = some (.int .i64 i.c) := hs1.cell 5
  have m6 : W1.cell? ⟨w.heap.size, 6, none⟩ = some (.int .i32 i.imm) := hs1.cell 6
  have m7 : W1.cell? ⟨w.heap.size, 7, none⟩ = some (.slice A n k) := hs1.cell 7
  clear hb1 hs1
  have HV := Lib.hid (ints_low hv HB1.out)
  clear hv
  by_cases h1 : i.op = 2
  · have e1 : (i.op == 2) = true := beq_iff_eq.2 h1
    have HT := Lib.hid (show takesQ i = [i.a, i.b] by unfold takesQ takesL; rw [if_neg (by omega)]; rw [if_neg (by omega), h1]; rfl)
    clear h1
    go_enter Try.func10, Try.ntmps10
    obtain ⟨W3, hW3⟩ : ∃ W3, W1.alloc (.cells #[.int .i64 i.a, .int .i64 i.b] 3) = W3 := ⟨_, rfl⟩
    have hb3 : Below W1.heap.size W1 W3 := by rw [← hW3]; exact (Below.refl _ _).alloc (Nat.le_refl _) _
    have HO := Lib.hid (show OwnInts w.heap.size W3 (.slice (some ⟨W1.heap.size, 0, none⟩) 2 2) [i.a, i.b] by
      rw [← hW3]
      exact World.ownsRow_lit (size := 1) (e := 3) (base := w.heap.size) W1 #[.int .i64 i.a, .int .i64 i.b] 2 HB1.out.size (by unfold maxLen; omega) (by simp))
    have HB3 := Lib.hid (HB1.out.trans (hb3.mono HB1.out.size))
    clear hb3
    go_wp2
    go_ret
    exact ⟨_, rfl, by rw [HT.out]; exact HO.out, HB3.out⟩
  · have e1 : (i.op == 2) = false := beq_eq_false_iff_ne.2 h1
    by_cases h2 : i.op = 30
    · have e2 : (i.op == 30) = true := beq_iff_eq.2 h2
      obtain ⟨q, hq⟩ : ∃ q : Int, 16 + i.imm = q := ⟨_, rfl⟩
      have HT := Lib.hid (show takesQ i = [q] by unfold takesQ; rw [if_pos h2, hq])
      clear h1 h2
      go_enter Try.func10, Try.ntmps10
      obtain ⟨W3, hW3⟩ : ∃ W3, W1.alloc (.cells #[.int .i64 q] 3) = W3 := ⟨_, rfl⟩
      have hb3 : Below W1.heap.size W1 W3 := by rw [← hW3]; exact (Below.refl _ _).alloc (Nat.le_refl _) _
      have HO := Lib.hid (show OwnInts w.heap.size W3 (.slice (some ⟨W1.heap.size, 0, none⟩) 1 1) [q] by
        rw [← hW3]
        exact World.ownsRow_lit (size := 1) (e := 3) (base := w.heap.size) W1 #[.int .i64 q] 1 HB1.out.size (by unfold maxLen; omega) (by simp))
      have HB3 := Lib.hid (HB1.out.trans (hb3.mono HB1.out.size))
      clear hb3
      go_wp2
      go_ret
      exact ⟨_, rfl, by rw [HT.out]; exact HO.out, HB3.out⟩
    · have e2 : (i.op == 30) = false := beq_eq_false_iff_ne.2 h2
      have HT := Lib.hid (show takesQ i = takesL i by unfold takesQ; rw [if_neg h2])
      clear h1 h2
      go_enter Try.func10, Try.ntmps10
      go_wp2_with fail
      clear hW1
      refine (rtakes_any W1 i A n k HV.out hl).mono ?_
      rintro e w2 h2
      obtain ⟨v, rfl, ho, hb⟩ := row_late h2 HB1.out
      have HO := Lib.hid ho
      have HB := Lib.hid hb
      clear h2 ho hb
      go_wp2
      go_ret
      exact ⟨v, rfl, by rw [HT.out]; exact HO.out, HB.out⟩
set_option maxRecDepth 100000 in
set_option maxHeartbeats 4000000 in
theorem rmakesQ_any (w : World) (i : PMach) (A : Option Addr) (n k : Nat) (hw : InW i.imm) : Calls Try.prog 12 #[.agg #[.int .i64 i.op, .int .i64 i.d, .int .i64 i.e, .int .i64 i.a, .int .i64 i.b, .int .i64 i.c, .int .i32 i.imm, .slice A n k]] w (RowPost (makesQ i) w) := by
  have hw1 := hw.1
  have hw2 := hw.2
  obtain ⟨W1, hW1⟩ : ∃ W1, w.alloc (.cells #[.int .i64 i.op, .int .i64 i.d, .int .i64 i.e, .int .i64 i.a, .int .i64 i.b, .int .i64 i.c, .int .i32 i.imm, .slice A n k] 24) = W1 := ⟨_, rfl⟩
  have hb1 : Below w.heap.size w W1 := by rw [← hW1]; exact (Below.refl _ _).alloc (Nat.le_refl _) _
  have hs1 : Str W1 w.heap.size 24 [.int .i64 i.op, .int .i64 i.d, .int .i64 i.e, .int .i64 i.a, .int .i64 i.b, .int .i64 i.c, .int .i32 i.imm, .slice A n k] := by rw [← hW1]; exact World.alloc_heap_new w _
  have HB1 := Lib.hid hb1
  have HS1 := Lib.hid hs1
  have m0 : W1.cell? ⟨w.heap.size, 0, none⟩ = some (.int .i64 i.op) := hs1.cell 0
  have m1 : W1.cell? ⟨w.heap.size, 1, none⟩ = some (.int .i64 i.d) := hs1.cell 1
  have m2 : W1.cell? ⟨w.heap.size, 2, none⟩ = some (.int .i64 i.e) := hs1.cell 2
  have m3 : W1.cell? ⟨w.heap.size, 3, none⟩ = some (.int .i64 i.a) := hs1.cell 3
  have m4 : W1.cell? ⟨w.heap.size, 4, none⟩ = some (.int .i64 i.b) := hs1.cell 4
  have m5 : W1.cell? ⟨w.heap.size, 5, none⟩ = some (.int .i64 i.c) := hs1.cell 5
  have m6 : W1.cell? ⟨w.heap.size, 6, none⟩ = some (.int .i32 i.imm) := hs1.cell 6
  have m7 : W1.cell? ⟨w.heap.size, 7, none⟩ = some (.slice A n k) := hs1.cell 7
  clear hb1 hs1
  by_cases h1 : i.op = 2
  · have e1 : (i.op == 2) = true := beq_iff_eq.2 h1
    have HT := Lib.hid (show makesQ i = [i.a, i.b] by unfold makesQ makesL; rw [if_neg (by omega)]; rw [if_pos h1, h1]; rfl)
    clear h1
    go_enter Try.func12, Try.ntmps12
    obtain ⟨W3, hW3⟩ : ∃ W3, W1.alloc (.cells #[.int .i64 i.a, .int .i64 i.b] 3) = W3 := ⟨_, rfl⟩
    have hb3 : Below W1.heap.size W1 W3 := by rw [← hW3]; exact (Below.refl _ _).alloc (Nat.le_refl _) _
    have HO := Lib.hid (show OwnInts w.heap.size W3 (.slice (some ⟨W1.heap.size, 0, none⟩) 2 2) [i.a, i.b] by
      rw [← hW3]
      exact World.ownsRow_lit (size := 1) (e := 3) (base := w.heap.size) W1 #[.int .i64 i.a, .int .i64 i.b] 2 HB1.out.size (by unfold maxLen; omega) (by simp))
    have HB3 := Lib.hid (HB1.out.trans (hb3.mono HB1.out.size))
    clear hb3
    go_wp2
    go_ret
    exact ⟨_, rfl, by rw [HT.out]; exact HO.out, HB3.out⟩
  · have e1 : (i.op == 2) = false := beq_eq_false_iff_ne.2 h1
    by_cases h2 : i.op = 31
    · have e2 : (i.op == 31) = true := beq_iff_eq.2 h2
      obtain ⟨q, hq⟩ : ∃ q : Int, 16 + i.imm = q := ⟨_, rfl⟩
      have HT := Lib.hid (show makesQ i = [q] by unfold makesQ; rw [if_pos h2, hq])
      clear h1 h2
      go_enter Try.func12, Try.ntmps12
      obtain ⟨W3, hW3⟩ : ∃ W3, W1.alloc (.cells #[.int .i64 q] 3) = W3 := ⟨_, rfl⟩
      have hb3 : Below W1.heap.size W1 W3 := by rw [← hW3]; exact (Below.refl _ _).alloc (Nat.le_refl _) _
      have HO := Lib.hid (show OwnInts w.heap.size W3 (.slice (some ⟨W1.heap.size, 0, none⟩) 1 1) [q] by
        rw [← hW3]
        exact World.ownsRow_lit (size := 1) (e := 3) (base := w.heap.size) W1 #[.int .i64 q] 1 HB1.out.size (by unfold maxLen; omega) (by simp))
      have HB3 := Lib.hid (HB1.out.trans (hb3.mono HB1.out.size))
      clear hb3
      go_wp2
      go_ret
      exact ⟨_, rfl, by rw [HT.out]; exact HO.out, HB3.out⟩
    · have e2 : (i.op == 31) = false := beq_eq_false_iff_ne.2 h2
      have HT := Lib.hid (show makesQ i = makesL i by unfold makesQ; rw [if_neg h2])
      clear h1 h2
      go_enter Try.func12, Try.ntmps12
      go_wp2_with fail
      clear hW1
      refine (rmakes_any W1 i A n k).mono ?_
      rintro e w2 h2
      obtain ⟨v, rfl, ho, hb⟩ := row_late h2 HB1.out
      have HO := Lib.hid ho
      have HB := Lib.hid hb
      clear h2 ho hb
      go_wp2
      go_ret
      exact ⟨v, rfl, by rw [HT.out]; exact HO.out, HB.out⟩
set_option maxRecDepth 100000 in
set_option maxHeartbeats 4000000 in
theorem rspoilsQ_any (w : World) (i : PMach) (A : Option Addr) (n k : Nat) : Calls Try.prog 14 #[.agg #[.int .i64 i.op, .int .i64 i.d, .int .i64 i.e, .int .i64 i.a, .int .i64 i.b, .int .i64 i.c, .int .i32 i.imm, .slice A n k]] w (RowPost (spoilsQ i) w) := by
  obtain ⟨W1, hW1⟩ : ∃ W1, w.alloc (.cells #[.int .i64 i.op, .int .i64 i.d, .int .i64 i.e, .int .i64 i.a, .int .i64 i.b, .int .i64 i.c, .int .i32 i.imm, .slice A n k] 24) = W1 := ⟨_, rfl⟩
  have hb1 : Below w.heap.size w W1 := by rw [← hW1]; exact (Below.refl _ _).alloc (Nat.le_refl _) _
  have hs1 : Str W1 w.heap.size 24 [.int .i64 i.op, .int .i64 i.d, .int .i64 i.e, .int .i64 i.a, .int .i64 i.b, .int .i64 i.c, .int .i32 i.imm, .slice A n k] := by rw [← hW1]; exact World.alloc_heap_new w _
  have HB1 := Lib.hid hb1
  have HS1 := Lib.hid hs1
  have m0 : W1.cell? ⟨w.heap.size, 0, none⟩ = some (.int .i64 i.op) := hs1.cell 0
  have m1 : W1.cell? ⟨w.heap.size, 1, none⟩ = some (.int .i64 i.d) := hs1.cell 1
  have m2 : W1.cell? ⟨w.heap.size, 2, none⟩ = some (.int .i64 i.e) := hs1.cell 2
  have m3 : W1.cell? ⟨w.heap.size, 3, none⟩ = some (.int .i64 i.a) := hs1.cell 3
  have m4 : W1.cell? ⟨w.heap.size, 4, none⟩ = some (.int .i64 i.b) := hs1.cell 4
  have m5 : W1.cell? ⟨w.heap.size, 5, none⟩ = some (.int .i64 i.c) := hs1.cell 5
  have m6 : W1.cell? ⟨w.heap.size, 6, none⟩ = some (.int .i32 i.imm) := hs1.cell 6
  have m7 : W1.cell? ⟨w.heap.size, 7, none⟩ = some (.slice A n k) := hs1.cell 7
  clear hb1 hs1
  by_cases h1 : i.op = 28
  · have e1 : (i.op == 28) = true := beq_iff_eq.2 h1
    have HT := Lib.hid (show spoilsQ i = [1, 2, 3] by unfold spoilsQ; rw [if_pos h1])
    clear h1
    go_enter Try.func14, Try.ntmps14
    obtain ⟨W3, hW3⟩ : ∃ W3, W1.alloc (.cells #[.int .i64 1, .int .i64 2, .int .i64 3] 3) = W3 := ⟨_, rfl⟩
    have hb3 : Below W1.heap.size W1 W3 := by rw [← hW3]; exact (Below.refl _ _).alloc (Nat.le_refl _) _
    have HO := Lib.hid (show OwnInts w.heap.size W3 (.slice (some ⟨W1.heap.size, 0, none⟩) 3 3) [1, 2, 3] by
      rw [← hW3]
      exact World.ownsRow_lit (size := 1) (e := 3) (base := w.heap.size) W1 #[.int .i64 1, .int .i64 2, .int .i64 3] 3 HB1.out.size (by unfold maxLen; omega) (by simp))
    have HB3 := Lib.hid (HB1.out.trans (hb3.mono HB1.out.size))
    clear hb3
    go_wp2
    go_ret
    exact ⟨_, rfl, by rw [HT.out]; exact HO.out, HB3.out⟩
  · have e1 : (i.op == 28) = false := beq_eq_false_iff_ne.2 h1
    have HT := Lib.hid (show spoilsQ i = [] by unfold spoilsQ; rw [if_neg h1])
    clear h1
    go_enter Try.func14, Try.ntmps14
    go_wp2
    go_ret
    exact ⟨_, rfl, by rw [HT.out]; exact none_own _ _, HB1.out⟩
end Go.Proofs.Ytdidacjmcafcpaa.Ph
