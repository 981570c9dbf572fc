/- Stage 7: small contracts of mach: which registers instructions and ends take and make. -/
import Derived.Test.YtdidacjmcafcpaaRows
import Derived.Test.YtdidacjmcafcpaaMPure
import Derived.Test.YtdidacjmcafcpaaFn
import Derived.Test.YtdidacjmcafcpaaSlices
import Derived.Test.YtdidacjmcafcpaaStruct
import Derived.WalkKit
import Derived.ProofKit
import Derived.Below
import Derived.Lib.Hide
import Derived.Deep.QuietTactic
import Derived.BigQuiet
import Derived.WalkSmall
import Derived.Laws.EntriesVeiled
namespace Go.Proofs.Ytdidacjmcafcpaa.Mc
open Go.ChangeShapes Go.WideShapes Go.ChangeAt Go.RowKit Go.Proofs.Ytdidacjmcafcpaa.Mem Go.Proofs.Ytdidacjmcafcpaa.Kc Go.Proofs.Ytdidacjmcafcpaa.Pl
set_option linter.unusedVariables false
set_option linter.unusedSimpArgs false
/-- The function that does an operation. -/
def fnV (op : Int) : Value :=
  if op = 1 then .func (.func 59) #[] #[] else if op = 2 then .func (.func 60) #[] #[] else if op = 3 then .func (.func 61) #[] #[] else if op = 4 then .func (.func 61) #[] #[] else if 5 ≤ op ∧ op ≤ 17 then .func (.func 62) #[] #[] else if 18 ≤ op ∧ op ≤ 22 then .func (.func 63) #[] #[] else if op = 23 then .func (.func 64) #[] #[] else if op = 24 then .func (.func 65) #[] #[] else if op = 25 then .func (.func 66) #[] #[] else if op = 26 then .func (.func 67) #[] #[] else if op = 27 then .func (.func 68) #[] #[] else if op = 29 then .func (.func 69) #[] #[] else .nilFunc
def OpPost (op : Int) (w : World) (en : Ending) (w' : World) : Prop := en = .returned (.agg #[.int .i64 (makesN op), .int .i64 (takesN op), fnV op]) ∧ Below w.heap.size w w'
theorem fnV_none {op : Int} (h : op < 1 ∨ 31 < op) : fnV op = .nilFunc := by
  unfold fnV
  rw [if_neg (show ¬ (op = 1) by omega), if_neg (show ¬ (op = 2) by omega), if_neg (show ¬ (op = 3) by omega), if_neg (show ¬ (op = 4) by omega), if_neg (show ¬ (5 ≤ op ∧ op ≤ 17) by omega), if_neg (show ¬ (18 ≤ op ∧ op ≤ 22) by omega), if_neg (show ¬ (op = 23) by omega), if_neg (show ¬ (op = 24) by omega), if_neg (show ¬ (op = 25) by omega), if_neg (show ¬ (op = 26) by omega), if_neg (show ¬ (op = 27) by omega), if_neg (show ¬ (op = 29) by omega)]
theorem takesN_none {op : Int} (h : op < 1 ∨ 31 < op) : takesN op = 0 := by
  unfold takesN
  rw [if_neg (show ¬ (op = 1) by omega), if_neg (show ¬ (op = 2) by omega), if_neg (show ¬ (op = 3) by omega), if_neg (show ¬ (op = 4) by omega), if_neg (show ¬ (5 ≤ op ∧ op ≤ 17) by omega), if_neg (show ¬ (18 ≤ op ∧ op ≤ 22) by omega), if_neg (show ¬ (op = 23) by omega), if_neg (show ¬ (op = 24) by omega), if_neg (show ¬ (op = 25) by omega), if_neg (show ¬ (op = 26) by omega), if_neg (show ¬ (op = 27) by omega), if_neg (show ¬ (op = 29) by omega), if_neg (show ¬ (op = 31) by omega)]
theorem makesN_none {op : Int} (h : op < 1 ∨ 31 < op) : makesN op = 0 := by
  unfold makesN
  rw [if_neg (show ¬ (op = 2) by omega), if_neg (show ¬ (op = 29) by omega), if_neg (show ¬ (op = 26) by omega), if_neg (show ¬ (op = 27) by omega), if_neg (show ¬ (op = 31) by omega), if_neg (show ¬ (1 ≤ op ∧ op ≤ 30) by omega)]
set_option maxRecDepth 100000 in
set_option maxHeartbeats 4000000 in
theorem operation_none (op : Int) (h : op < 1 ∨ 31 < op) (w : World) : Calls Try.prog 51 #[.int .i64 op] w (OpPost op w) := by
  have HP := Lib.hid (show ∀ en w', (en = .returned (.agg #[.int .i64 0, .int .i64 0, .nilFunc]) ∧ Below w.heap.size w w') → OpPost op w en w' from fun en w' g => by unfold OpPost; rw [fnV_none h, takesN_none h, makesN_none h]; exact g)
  rcases h with h | h
  all_goals
    go_enter Try.func51, Try.ntmps51
    go_wp2
    refine ⟨rfl, .agg #[.int .i64 0, .int .i64 0, .nilFunc], ?_, ?_⟩
    · simp only [results]
      go_simp
    · exact HP.out _ _ ⟨rfl, (Below.refl _ _).alloc (Nat.le_refl _) _⟩
set_option maxRecDepth 100000 in
set_option maxHeartbeats 4000000 in
theorem operation_1 (w : World) : Calls Try.prog 51 #[.int .i64 1] w (OpPost 1 w) := by
  have HP := Lib.hid (show ∀ en w', (en = .returned (.agg #[.int .i64 1, .int .i64 1, .func (.func 59) #[] #[]]) ∧ Below w.heap.size w w') → OpPost 1 w en w' from fun en w' g => g)
  go_enter Try.func51, Try.ntmps51
  go_wp2
  refine ⟨rfl, .agg #[.int .i64 1, .int .i64 1, .func (.func 59) #[] #[]], ?_, ?_⟩
  · simp only [results]
    go_simp
  · exact HP.out _ _ ⟨rfl, (Below.refl _ _).alloc (Nat.le_refl _) _⟩
set_option maxRecDepth 100000 in
set_option maxHeartbeats 4000000 in
theorem operation_2 (w : World) : Calls Try.prog 51 #[.int .i64 2] w (OpPost 2 w) := by
  have HP := Lib.hid (show ∀ en w', (en = .returned (.agg #[.int .i64 2, .int .i64 2, .func (.func 60) #[] #[]]) ∧ Below w.heap.size w w') → OpPost 2 w en w' from fun en w' g => g)
  go_enter Try.func51, Try.ntmps51
  go_wp2
  refine ⟨rfl, .agg #[.int .i64 2, .int .i64 2, .func (.func 60) #[] #[]], ?_, ?_⟩
  · simp only [results]
    go_simp
  · exact HP.out _ _ ⟨rfl, (Below.refl _ _).alloc (Nat.le_refl _) _⟩
set_option maxRecDepth 100000 in
set_option maxHeartbeats 4000000 in
theorem operation_3 (w : World) : Calls Try.prog 51 #[.int .i64 3] w (OpPost 3 w) := by
  have HP := Lib.hid (show ∀ en w', (en = .returned (.agg #[.int .i64 1, .int .i64 0, .func (.func 61) #[] #[]]) ∧ Below w.heap.size w w') → OpPost 3 w en w' from fun en w' g => g)
  go_enter Try.func51, Try.ntmps51
  go_wp2
  refine ⟨rfl, .agg #[.int .i64 1, .int .i64 0, .func (.func 61) #[] #[]], ?_, ?_⟩
  · simp only [results]
    go_simp
  · exact HP.out _ _ ⟨rfl, (Below.refl _ _).alloc (Nat.le_refl _) _⟩
set_option maxRecDepth 100000 in
set_option maxHeartbeats 4000000 in
theorem operation_4 (w : World) : Calls Try.prog 51 #[.int .i64 4] w (OpPost 4 w) := by
  have HP := Lib.hid (show ∀ en w', (en = .returned (.agg #[.int .i64 1, .int .i64 0, .func (.func 61) #[] #[]]) ∧ Below w.heap.size w w') → OpPost 4 w en w' from fun en w' g => g)
  go_enter Try.func51, Try.ntmps51
  go_wp2
  refine ⟨rfl, .agg #[.int .i64 1, .int .i64 0, .func (.func 61) #[] #[]], ?_, ?_⟩
  · simp only [results]
    go_simp
  · exact HP.out _ _ ⟨rfl, (Below.refl _ _).alloc (Nat.le_refl _) _⟩
set_option maxRecDepth 100000 in
set_option maxHeartbeats 4000000 in
theorem operation_5 (w : World) : Calls Try.prog 51 #[.int .i64 5] w (OpPost 5 w) := by
  have HP := Lib.hid (show ∀ en w', (en = .returned (.agg #[.int .i64 1, .int .i64 2, .func (.func 62) #[] #[]]) ∧ Below w.heap.size w w') → OpPost 5 w en w' from fun en w' g => g)
  go_enter Try.func51, Try.ntmps51
  go_wp2
  refine ⟨rfl, .agg #[.int .i64 1, .int .i64 2, .func (.func 62) #[] #[]], ?_, ?_⟩
  · simp only [results]
    go_simp
  · exact HP.out _ _ ⟨rfl, (Below.refl _ _).alloc (Nat.le_refl _) _⟩
set_option maxRecDepth 100000 in
set_option maxHeartbeats 4000000 in
theorem operation_6 (w : World) : Calls Try.prog 51 #[.int .i64 6] w (OpPost 6 w) := by
  have HP := Lib.hid (show ∀ en w', (en = .returned (.agg #[.int .i64 1, .int .i64 2, .func (.func 62) #[] #[]]) ∧ Below w.heap.size w w') → OpPost 6 w en w' from fun en w' g => g)
  go_enter Try.func51, Try.ntmps51
  go_wp2
  refine ⟨rfl, .agg #[.int .i64 1, .int .i64 2, .func (.func 62) #[] #[]], ?_, ?_⟩
  · simp only [results]
    go_simp
  · exact HP.out _ _ ⟨rfl, (Below.refl _ _).alloc (Nat.le_refl _) _⟩
set_option maxRecDepth 100000 in
set_option maxHeartbeats 4000000 in
theorem operation_7 (w : World) : Calls Try.prog 51 #[.int .i64 7] w (OpPost 7 w) := by
  have HP := Lib.hid (show ∀ en w', (en = .returned (.agg #[.int .i64 1, .int .i64 2, .func (.func 62) #[] #[]]) ∧ Below w.heap.size w w') → OpPost 7 w en w' from fun en w' g => g)
  go_enter Try.func51, Try.ntmps51
  go_wp2
  refine ⟨rfl, .agg #[.int .i64 1, .int .i64 2, .func (.func 62) #[] #[]], ?_, ?_⟩
  · simp only [results]
    go_simp
  · exact HP.out _ _ ⟨rfl, (Below.refl _ _).alloc (Nat.le_refl _) _⟩
set_option maxRecDepth 100000 in
set_option maxHeartbeats 4000000 in
theorem operation_8 (w : World) : Calls Try.prog 51 #[.int .i64 8] w (OpPost 8 w) := by
  have HP := Lib.hid (show ∀ en w', (en = .returned (.agg #[.int .i64 1, .int .i64 2, .func (.func 62) #[] #[]]) ∧ Below w.heap.size w w') → OpPost 8 w en w' from fun en w' g => g)
  go_enter Try.func51, Try.ntmps51
  go_wp2
  refine ⟨rfl, .agg #[.int .i64 1, .int .i64 2, .func (.func 62) #[] #[]], ?_, ?_⟩
  · simp only [results]
    go_simp
  · exact HP.out _ _ ⟨rfl, (Below.refl _ _).alloc (Nat.le_refl _) _⟩
set_option maxRecDepth 100000 in
set_option maxHeartbeats 4000000 in
theorem operation_9 (w : World) : Calls Try.prog 51 #[.int .i64 9] w (OpPost 9 w) := by
  have HP := Lib.hid (show ∀ en w', (en = .returned (.agg #[.int .i64 1, .int .i64 2, .func (.func 62) #[] #[]]) ∧ Below w.heap.size w w') → OpPost 9 w en w' from fun en w' g => g)
  go_enter Try.func51, Try.ntmps51
  go_wp2
  refine ⟨rfl, .agg #[.int .i64 1, .int .i64 2, .func (.func 62) #[] #[]], ?_, ?_⟩
  · simp only [results]
    go_simp
  · exact HP.out _ _ ⟨rfl, (Below.refl _ _).alloc (Nat.le_refl _) _⟩
set_option maxRecDepth 100000 in
set_option maxHeartbeats 4000000 in
theorem operation_10 (w : World) : Calls Try.prog 51 #[.int .i64 10] w (OpPost 10 w) := by
  have HP := Lib.hid (show ∀ en w', (en = .returned (.agg #[.int .i64 1, .int .i64 2, .func (.func 62) #[] #[]]) ∧ Below w.heap.size w w') → OpPost 10 w en w' from fun en w' g => g)
  go_enter Try.func51, Try.ntmps51
  go_wp2
  refine ⟨rfl, .agg #[.int .i64 1, .int .i64 2, .func (.func 62) #[] #[]], ?_, ?_⟩
  · simp only [results]
    go_simp
  · exact HP.out _ _ ⟨rfl, (Below.refl _ _).alloc (Nat.le_refl _) _⟩
set_option maxRecDepth 100000 in
set_option maxHeartbeats 4000000 in
theorem operation_11 (w : World) : Calls Try.prog 51 #[.int .i64 11] w (OpPost 11 w) := by
  have HP := Lib.hid (show ∀ en w', (en = .returned (.agg #[.int .i64 1, .int .i64 2, .func (.func 62) #[] #[]]) ∧ Below w.heap.size w w') → OpPost 11 w en w' from fun en w' g => g)
  go_enter Try.func51, Try.ntmps51
  go_wp2
  refine ⟨rfl, .agg #[.int .i64 1, .int .i64 2, .func (.func 62) #[] #[]], ?_, ?_⟩
  · simp only [results]
    go_simp
  · exact HP.out _ _ ⟨rfl, (Below.refl _ _).alloc (Nat.le_refl _) _⟩
set_option maxRecDepth 100000 in
set_option maxHeartbeats 4000000 in
theorem operation_12 (w : World) : Calls Try.prog 51 #[.int .i64 12] w (OpPost 12 w) := by
  have HP := Lib.hid (show ∀ en w', (en = .returned (.agg #[.int .i64 1, .int .i64 2, .func (.func 62) #[] #[]]) ∧ Below w.heap.size w w') → OpPost 12 w en w' from fun en w' g => g)
  go_enter Try.func51, Try.ntmps51
  go_wp2
  refine ⟨rfl, .agg #[.int .i64 1, .int .i64 2, .func (.func 62) #[] #[]], ?_, ?_⟩
  · simp only [results]
    go_simp
  · exact HP.out _ _ ⟨rfl, (Below.refl _ _).alloc (Nat.le_refl _) _⟩
set_option maxRecDepth 100000 in
set_option maxHeartbeats 4000000 in
theorem operation_13 (w : World) : Calls Try.prog 51 #[.int .i64 13] w (OpPost 13 w) := by
  have HP := Lib.hid (show ∀ en w', (en = .returned (.agg #[.int .i64 1, .int .i64 2, .func (.func 62) #[] #[]]) ∧ Below w.heap.size w w') → OpPost 13 w en w' from fun en w' g => g)
  go_enter Try.func51, Try.ntmps51
  go_wp2
  refine ⟨rfl, .agg #[.int .i64 1, .int .i64 2, .func (.func 62) #[] #[]], ?_, ?_⟩
  · simp only [results]
    go_simp
  · exact HP.out _ _ ⟨rfl, (Below.refl _ _).alloc (Nat.le_refl _) _⟩
set_option maxRecDepth 100000 in
set_option maxHeartbeats 4000000 in
theorem operation_14 (w : World) : Calls Try.prog 51 #[.int .i64 14] w (OpPost 14 w) := by
  have HP := Lib.hid (show ∀ en w', (en = .returned (.agg #[.int .i64 1, .int .i64 2, .func (.func 62) #[] #[]]) ∧ Below w.heap.size w w') → OpPost 14 w en w' from fun en w' g => g)
  go_enter Try.func51, Try.ntmps51
  go_wp2
  refine ⟨rfl, .agg #[.int .i64 1, .int .i64 2, .func (.func 62) #[] #[]], ?_, ?_⟩
  · simp only [results]
    go_simp
  · exact HP.out _ _ ⟨rfl, (Below.refl _ _).alloc (Nat.le_refl _) _⟩
set_option maxRecDepth 100000 in
set_option maxHeartbeats 4000000 in
theorem operation_15 (w : World) : Calls Try.prog 51 #[.int .i64 15] w (OpPost 15 w) := by
  have HP := Lib.hid (show ∀ en w', (en = .returned (.agg #[.int .i64 1, .int .i64 2, .func (.func 62) #[] #[]]) ∧ Below w.heap.size w w') → OpPost 15 w en w' from fun en w' g => g)
  go_enter Try.func51, Try.ntmps51
  go_wp2
  refine ⟨rfl, .agg #[.int .i64 1, .int .i64 2, .func (.func 62) #[] #[]], ?_, ?_⟩
  · simp only [results]
    go_simp
  · exact HP.out _ _ ⟨rfl, (Below.refl _ _).alloc (Nat.le_refl _) _⟩
set_option maxRecDepth 100000 in
set_option maxHeartbeats 4000000 in
theorem operation_16 (w : World) : Calls Try.prog 51 #[.int .i64 16] w (OpPost 16 w) := by
  have HP := Lib.hid (show ∀ en w', (en = .returned (.agg #[.int .i64 1, .int .i64 2, .func (.func 62) #[] #[]]) ∧ Below w.heap.size w w') → OpPost 16 w en w' from fun en w' g => g)
  go_enter Try.func51, Try.ntmps51
  go_wp2
  refine ⟨rfl, .agg #[.int .i64 1, .int .i64 2, .func (.func 62) #[] #[]], ?_, ?_⟩
  · simp only [results]
    go_simp
  · exact HP.out _ _ ⟨rfl, (Below.refl _ _).alloc (Nat.le_refl _) _⟩
set_option maxRecDepth 100000 in
set_option maxHeartbeats 4000000 in
theorem operation_17 (w : World) : Calls Try.prog 51 #[.int .i64 17] w (OpPost 17 w) := by
  have HP := Lib.hid (show ∀ en w', (en = .returned (.agg #[.int .i64 1, .int .i64 2, .func (.func 62) #[] #[]]) ∧ Below w.heap.size w w') → OpPost 17 w en w' from fun en w' g => g)
  go_enter Try.func51, Try.ntmps51
  go_wp2
  refine ⟨rfl, .agg #[.int .i64 1, .int .i64 2, .func (.func 62) #[] #[]], ?_, ?_⟩
  · simp only [results]
    go_simp
  · exact HP.out _ _ ⟨rfl, (Below.refl _ _).alloc (Nat.le_refl _) _⟩
set_option maxRecDepth 100000 in
set_option maxHeartbeats 4000000 in
theorem operation_18 (w : World) : Calls Try.prog 51 #[.int .i64 18] w (OpPost 18 w) := by
  have HP := Lib.hid (show ∀ en w', (en = .returned (.agg #[.int .i64 1, .int .i64 1, .func (.func 63) #[] #[]]) ∧ Below w.heap.size w w') → OpPost 18 w en w' from fun en w' g => g)
  go_enter Try.func51, Try.ntmps51
  go_wp2
  refine ⟨rfl, .agg #[.int .i64 1, .int .i64 1, .func (.func 63) #[] #[]], ?_, ?_⟩
  · simp only [results]
    go_simp
  · exact HP.out _ _ ⟨rfl, (Below.refl _ _).alloc (Nat.le_refl _) _⟩
set_option maxRecDepth 100000 in
set_option maxHeartbeats 4000000 in
theorem operation_19 (w : World) : Calls Try.prog 51 #[.int .i64 19] w (OpPost 19 w) := by
  have HP := Lib.hid (show ∀ en w', (en = .returned (.agg #[.int .i64 1, .int .i64 1, .func (.func 63) #[] #[]]) ∧ Below w.heap.size w w') → OpPost 19 w en w' from fun en w' g => g)
  go_enter Try.func51, Try.ntmps51
  go_wp2
  refine ⟨rfl, .agg #[.int .i64 1, .int .i64 1, .func (.func 63) #[] #[]], ?_, ?_⟩
  · simp only [results]
    go_simp
  · exact HP.out _ _ ⟨rfl, (Below.refl _ _).alloc (Nat.le_refl _) _⟩
set_option maxRecDepth 100000 in
set_option maxHeartbeats 4000000 in
theorem operation_20 (w : World) : Calls Try.prog 51 #[.int .i64 20] w (OpPost 20 w) := by
  have HP := Lib.hid (show ∀ en w', (en = .returned (.agg #[.int .i64 1, .int .i64 1, .func (.func 63) #[] #[]]) ∧ Below w.heap.size w w') → OpPost 20 w en w' from fun en w' g => g)
  go_enter Try.func51, Try.ntmps51
  go_wp2
  refine ⟨rfl, .agg #[.int .i64 1, .int .i64 1, .func (.func 63) #[] #[]], ?_, ?_⟩
  · simp only [results]
    go_simp
  · exact HP.out _ _ ⟨rfl, (Below.refl _ _).alloc (Nat.le_refl _) _⟩
set_option maxRecDepth 100000 in
set_option maxHeartbeats 4000000 in
theorem operation_21 (w : World) : Calls Try.prog 51 #[.int .i64 21] w (OpPost 21 w) := by
  have HP := Lib.hid (show ∀ en w', (en = .returned (.agg #[.int .i64 1, .int .i64 1, .func (.func 63) #[] #[]]) ∧ Below w.heap.size w w') → OpPost 21 w en w' from fun en w' g => g)
  go_enter Try.func51, Try.ntmps51
  go_wp2
  refine ⟨rfl, .agg #[.int .i64 1, .int .i64 1, .func (.func 63) #[] #[]], ?_, ?_⟩
  · simp only [results]
    go_simp
  · exact HP.out _ _ ⟨rfl, (Below.refl _ _).alloc (Nat.le_refl _) _⟩
set_option maxRecDepth 100000 in
set_option maxHeartbeats 4000000 in
theorem operation_22 (w : World) : Calls Try.prog 51 #[.int .i64 22] w (OpPost 22 w) := by
  have HP := Lib.hid (show ∀ en w', (en = .returned (.agg #[.int .i64 1, .int .i64 1, .func (.func 63) #[] #[]]) ∧ Below w.heap.size w w') → OpPost 22 w en w' from fun en w' g => g)
  go_enter Try.func51, Try.ntmps51
  go_wp2
  refine ⟨rfl, .agg #[.int .i64 1, .int .i64 1, .func (.func 63) #[] #[]], ?_, ?_⟩
  · simp only [results]
    go_simp
  · exact HP.out _ _ ⟨rfl, (Below.refl _ _).alloc (Nat.le_refl _) _⟩
set_option maxRecDepth 100000 in
set_option maxHeartbeats 4000000 in
theorem operation_23 (w : World) : Calls Try.prog 51 #[.int .i64 23] w (OpPost 23 w) := by
  have HP := Lib.hid (show ∀ en w', (en = .returned (.agg #[.int .i64 1, .int .i64 3, .func (.func 64) #[] #[]]) ∧ Below w.heap.size w w') → OpPost 23 w en w' from fun en w' g => g)
  go_enter Try.func51, Try.ntmps51
  go_wp2
  refine ⟨rfl, .agg #[.int .i64 1, .int .i64 3, .func (.func 64) #[] #[]], ?_, ?_⟩
  · simp only [results]
    go_simp
  · exact HP.out _ _ ⟨rfl, (Below.refl _ _).alloc (Nat.le_refl _) _⟩
set_option maxRecDepth 100000 in
set_option maxHeartbeats 4000000 in
theorem operation_24 (w : World) : Calls Try.prog 51 #[.int .i64 24] w (OpPost 24 w) := by
  have HP := Lib.hid (show ∀ en w', (en = .returned (.agg #[.int .i64 1, .int .i64 1, .func (.func 65) #[] #[]]) ∧ Below w.heap.size w w') → OpPost 24 w en w' from fun en w' g => g)
  go_enter Try.func51, Try.ntmps51
  go_wp2
  refine ⟨rfl, .agg #[.int .i64 1, .int .i64 1, .func (.func 65) #[] #[]], ?_, ?_⟩
  · simp only [results]
    go_simp
  · exact HP.out _ _ ⟨rfl, (Below.refl _ _).alloc (Nat.le_refl _) _⟩
set_option maxRecDepth 100000 in
set_option maxHeartbeats 4000000 in
theorem operation_25 (w : World) : Calls Try.prog 51 #[.int .i64 25] w (OpPost 25 w) := by
  have HP := Lib.hid (show ∀ en w', (en = .returned (.agg #[.int .i64 1, .int .i64 2, .func (.func 66) #[] #[]]) ∧ Below w.heap.size w w') → OpPost 25 w en w' from fun en w' g => g)
  go_enter Try.func51, Try.ntmps51
  go_wp2
  refine ⟨rfl, .agg #[.int .i64 1, .int .i64 2, .func (.func 66) #[] #[]], ?_, ?_⟩
  · simp only [results]
    go_simp
  · exact HP.out _ _ ⟨rfl, (Below.refl _ _).alloc (Nat.le_refl _) _⟩
set_option maxRecDepth 100000 in
set_option maxHeartbeats 4000000 in
theorem operation_26 (w : World) : Calls Try.prog 51 #[.int .i64 26] w (OpPost 26 w) := by
  have HP := Lib.hid (show ∀ en w', (en = .returned (.agg #[.int .i64 0, .int .i64 2, .func (.func 67) #[] #[]]) ∧ Below w.heap.size w w') → OpPost 26 w en w' from fun en w' g => g)
  go_enter Try.func51, Try.ntmps51
  go_wp2
  refine ⟨rfl, .agg #[.int .i64 0, .int .i64 2, .func (.func 67) #[] #[]], ?_, ?_⟩
  · simp only [results]
    go_simp
  · exact HP.out _ _ ⟨rfl, (Below.refl _ _).alloc (Nat.le_refl _) _⟩
set_option maxRecDepth 100000 in
set_option maxHeartbeats 4000000 in
theorem operation_27 (w : World) : Calls Try.prog 51 #[.int .i64 27] w (OpPost 27 w) := by
  have HP := Lib.hid (show ∀ en w', (en = .returned (.agg #[.int .i64 0, .int .i64 3, .func (.func 68) #[] #[]]) ∧ Below w.heap.size w w') → OpPost 27 w en w' from fun en w' g => g)
  go_enter Try.func51, Try.ntmps51
  go_wp2
  refine ⟨rfl, .agg #[.int .i64 0, .int .i64 3, .func (.func 68) #[] #[]], ?_, ?_⟩
  · simp only [results]
    go_simp
  · exact HP.out _ _ ⟨rfl, (Below.refl _ _).alloc (Nat.le_refl _) _⟩
set_option maxRecDepth 100000 in
set_option maxHeartbeats 4000000 in
theorem operation_28 (w : World) : Calls Try.prog 51 #[.int .i64 28] w (OpPost 28 w) := by
  have HP := Lib.hid (show ∀ en w', (en = .returned (.agg #[.int .i64 1, .int .i64 0, .nilFunc]) ∧ Below w.heap.size w w') → OpPost 28 w en w' from fun en w' g => g)
  go_enter Try.func51, Try.ntmps51
  go_wp2
  refine ⟨rfl, .agg #[.int .i64 1, .int .i64 0, .nilFunc], ?_, ?_⟩
  · simp only [results]
    go_simp
  · exact HP.out _ _ ⟨rfl, (Below.refl _ _).alloc (Nat.le_refl _) _⟩
set_option maxRecDepth 100000 in
set_option maxHeartbeats 4000000 in
theorem operation_29 (w : World) : Calls Try.prog 51 #[.int .i64 29] w (OpPost 29 w) := by
  have HP := Lib.hid (show ∀ en w', (en = .returned (.agg #[.int .i64 2, .int .i64 2, .func (.func 69) #[] #[]]) ∧ Below w.heap.size w w') → OpPost 29 w en w' from fun en w' g => g)
  go_enter Try.func51, Try.ntmps51
  go_wp2
  refine ⟨rfl, .agg #[.int .i64 2, .int .i64 2, .func (.func 69) #[] #[]], ?_, ?_⟩
  · simp only [results]
    go_simp
  · exact HP.out _ _ ⟨rfl, (Below.refl _ _).alloc (Nat.le_refl _) _⟩
set_option maxRecDepth 100000 in
set_option maxHeartbeats 4000000 in
theorem operation_30 (w : World) : Calls Try.prog 51 #[.int .i64 30] w (OpPost 30 w) := by
  have HP := Lib.hid (show ∀ en w', (en = .returned (.agg #[.int .i64 1, .int .i64 0, .nilFunc]) ∧ Below w.heap.size w w') → OpPost 30 w en w' from fun en w' g => g)
  go_enter Try.func51, Try.ntmps51
  go_wp2
  refine ⟨rfl, .agg #[.int .i64 1, .int .i64 0, .nilFunc], ?_, ?_⟩
  · simp only [results]
    go_simp
  · exact HP.out _ _ ⟨rfl, (Below.refl _ _).alloc (Nat.le_refl _) _⟩
set_option maxRecDepth 100000 in
set_option maxHeartbeats 4000000 in
theorem operation_31 (w : World) : Calls Try.prog 51 #[.int .i64 31] w (OpPost 31 w) := by
  have HP := Lib.hid (show ∀ en w', (en = .returned (.agg #[.int .i64 0, .int .i64 1, .nilFunc]) ∧ Below w.heap.size w w') → OpPost 31 w en w' from fun en w' g => g)
  go_enter Try.func51, Try.ntmps51
  go_wp2
  refine ⟨rfl, .agg #[.int .i64 0, .int .i64 1, .nilFunc], ?_, ?_⟩
  · simp only [results]
    go_simp
  · exact HP.out _ _ ⟨rfl, (Below.refl _ _).alloc (Nat.le_refl _) _⟩
theorem operation_any (op : Int) (w : World) : Calls Try.prog 51 #[.int .i64 op] w (OpPost op w) := by
  by_cases h : op < 1 ∨ 31 < op
  · exact operation_none op h w
  · have h' : op = 1 ∨ op = 2 ∨ op = 3 ∨ op = 4 ∨ op = 5 ∨ op = 6 ∨ op = 7 ∨ op = 8 ∨ op = 9 ∨ op = 10 ∨ op = 11 ∨ op = 12 ∨ op = 13 ∨ op = 14 ∨ op = 15 ∨ op = 16 ∨ op = 17 ∨ op = 18 ∨ op = 19 ∨ op = 20 ∨ op = 21 ∨ op = 22 ∨ op = 23 ∨ op = 24 ∨ op = 25 ∨ op = 26 ∨ op = 27 ∨ op = 28 ∨ op = 29 ∨ op = 30 ∨ op = 31 := by omega
    rcases h' with rfl | rfl | rfl | rfl | rfl | rfl | rfl | rfl | rfl | rfl | rfl | rfl | rfl | rfl | rfl | rfl | rfl | rfl | rfl | rfl | rfl | rfl | rfl | rfl | rfl | rfl | rfl | rfl | rfl | rfl | rfl
    · exact operation_1 w
    · exact operation_2 w
    · exact operation_3 w
    · exact operation_4 w
    · exact operation_5 w
    · exact operation_6 w
    · exact operation_7 w
    · exact operation_8 w
    · exact operation_9 w
    · exact operation_10 w
    · exact operation_11 w
    · exact operation_12 w
    · exact operation_13 w
    · exact operation_14 w
    · exact operation_15 w
    · exact operation_16 w
    · exact operation_17 w
    · exact operation_18 w
    · exact operation_19 w
    · exact operation_20 w
    · exact operation_21 w
    · exact operation_22 w
    · exact operation_23 w
    · exact operation_24 w
    · exact operation_25 w
    · exact operation_26 w
    · exact operation_27 w
    · exact operation_28 w
    · exact operation_29 w
    · exact operation_30 w
    · exact operation_31 w
set_option maxRecDepth 100000 in
set_option maxHeartbeats 4000000 in
theorem sources_any (w : World) (op d e a b c imm : Int) (A : Option Addr) (n k : Nat) :
    Calls Try.prog 52 #[.agg #[.int .i64 op, .int .i64 d, .int .i64 e, .int .i64 a, .int .i64 b, .int .i64 c, .int .i32 imm, .slice A n k]] w fun en w' => en = .returned (.agg #[.int .i64 a, .int .i64 b, .int .i64 c]) ∧ Below w.heap.size w w' := by
  go_enter Try.func52, Try.ntmps52
  go_wp2
  refine ⟨rfl, .agg #[.int .i64 a, .int .i64 b, .int .i64 c], ?_, ?_⟩
  · simp only [results]
    go_simp
  · exact ⟨rfl, ((Below.refl _ _).alloc (Nat.le_refl _) _).alloc (by simp) _⟩
set_option maxRecDepth 100000 in
set_option maxHeartbeats 4000000 in
theorem targets_any (w : World) (op d e a b c imm : Int) (A : Option Addr) (n k : Nat) :
    Calls Try.prog 49 #[.agg #[.int .i64 op, .int .i64 d, .int .i64 e, .int .i64 a, .int .i64 b, .int .i64 c, .int .i32 imm, .slice A n k]] w fun en w' => en = .returned (.agg #[.int .i64 (if op = 2 then a else d), .int .i64 (if op = 2 then b else e)]) ∧ Below w.heap.size w w' := by
  by_cases h : op = 2
  · have e1 : (op == 2) = true := beq_iff_eq.2 h
    rw [if_pos h, if_pos h]
    clear h
    go_enter Try.func49, Try.ntmps49
    go_wp2
    refine ⟨rfl, .agg #[.int .i64 a, .int .i64 b], ?_, ?_⟩
    · simp only [results]
      go_simp
    · exact ⟨rfl, ((Below.refl _ _).alloc (Nat.le_refl _) _).alloc (by simp) _⟩
  · have e1 : (op == 2) = false := beq_eq_false_iff_ne.2 h
    rw [if_neg h, if_neg h]
    clear h
    go_enter Try.func49, Try.ntmps49
    go_wp2
    refine ⟨rfl, .agg #[.int .i64 d, .int .i64 e], ?_, ?_⟩
    · simp only [results]
      go_simp
    · exact ⟨rfl, ((Below.refl _ _).alloc (Nat.le_refl _) _).alloc (by simp) _⟩
end Go.Proofs.Ytdidacjmcafcpaa.Mc
