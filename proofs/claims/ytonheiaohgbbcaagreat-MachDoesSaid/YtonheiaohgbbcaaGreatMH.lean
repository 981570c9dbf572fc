/- Stage 7: which ends of blocks there may be. -/
import Derived.Test.YtonheiaohgbbcaaGreatMG
namespace Go.Proofs.YtonheiaohgbbcaaGreat.Mc
open Go.ChangeShapes Go.WideShapes Go.ChangeAt Go.RowKit Go.Proofs.YtonheiaohgbbcaaGreat.Mem Go.Proofs.YtonheiaohgbbcaaGreat.Kc Go.Proofs.YtonheiaohgbbcaaGreat.Pl Go.Proofs.YtonheiaohgbbcaaGreat.Mw
set_option linter.unusedVariables false
set_option linter.unusedSimpArgs false
/-- Is there such an end, with so many To? -/
def mayB7 (op : Int) (n : Nat) : Bool :=
  if op = 1 then (n : Int) == 1 else if op = 2 then (n : Int) == 2 else if op = 3 then (n : Int) == 2 else if op = 4 then (n : Int) == 2 else if op = 5 then (n : Int) == 2
  else if op = 6 then decide ((2 : Int) ≤ n) && decide ((n : Int) ≤ 65) else if op = 7 then (n : Int) == 0 else if op = 8 then (n : Int) == 0 else false
def badTo (blocks t : Int) : Bool := decide (t < 1) || decide (blocks ≤ t)
/-- What is wrong with an end. -/
def endE (e : PEnd) (blocks : Int) : Int :=
  if mayB7 e.op e.to.length = false then 30 else if (needsL e).all regB = false then 31 else if e.to.any (badTo blocks) = true then 14 else 0
set_option maxRecDepth 100000 in
set_option maxHeartbeats 4000000 in
theorem mayend_any (w : World) (e : PEnd) (A : Option Addr) (n k : Nat) :
    Calls Tryz.prog 116 #[.agg #[.int .i64 e.op, .int .i64 e.a, .int .i64 e.b, .slice A n k, .int .i32 e.imm]] w fun en w' => en = .returned (.bool (mayB7 e.op n)) ∧ Below w.heap.size w w' := by
  by_cases h1 : e.op = 1
  · have g1 : (e.op == 1) = true := beq_iff_eq.2 h1
    have HW := Lib.hid (show mayB7 e.op n = ((n : Int) == 1) by unfold mayB7; rw [if_pos (by omega)])
    clear h1
    go_enter Tryz.func116, Tryz.ntmps116
    go_upto_region 1 with (fail)
    obtain ⟨W1, hW1⟩ : ∃ W1, w.alloc (.cells #[.int .i64 e.op, .int .i64 e.a, .int .i64 e.b, .slice A n k, .int .i32 e.imm] 42) = W1 := ⟨_, rfl⟩
    have hbW1 : Below w.heap.size w W1 := by rw [← hW1]; exact (Below.refl _ _).alloc (Nat.le_refl _) _
    have hsW1 : Str W1 w.heap.size 42 [.int .i64 e.op, .int .i64 e.a, .int .i64 e.b, .slice A n k, .int .i32 e.imm] := by rw [← hW1]; exact World.alloc_heap_new w _
    rw [hW1]
    clear hW1
    have m0 : W1.cell? ⟨w.heap.size, 0, none⟩ = some (.int .i64 e.op) := hsW1.cell 0
    have m3 : W1.cell? ⟨w.heap.size, 3, none⟩ = some (.slice A n k) := hsW1.cell 3
    have HB1 := Lib.hid hbW1
    clear hsW1 hbW1
    go_wp2_with fail
    go_ret
    exact ⟨ret_bool HW.out.symm, HB1.out⟩
  have g1 : (e.op == 1) = false := beq_eq_false_iff_ne.2 h1
  by_cases h2 : e.op = 2
  · have g2 : (e.op == 2) = true := beq_iff_eq.2 h2
    have HW := Lib.hid (show mayB7 e.op n = ((n : Int) == 2) by unfold mayB7; rw [if_neg (by omega), if_pos (by omega)])
    clear h2
    go_enter Tryz.func116, Tryz.ntmps116
    go_upto_region 1 with (fail)
    obtain ⟨W1, hW1⟩ : ∃ W1, w.alloc (.cells #[.int .i64 e.op, .int .i64 e.a, .int .i64 e.b, .slice A n k, .int .i32 e.imm] 42) = W1 := ⟨_, rfl⟩
    have hbW1 : Below w.heap.size w W1 := by rw [← hW1]; exact (Below.refl _ _).alloc (Nat.le_refl _) _
    have hsW1 : Str W1 w.heap.size 42 [.int .i64 e.op, .int .i64 e.a, .int .i64 e.b, .slice A n k, .int .i32 e.imm] := by rw [← hW1]; exact World.alloc_heap_new w _
    rw [hW1]
    clear hW1
    have m0 : W1.cell? ⟨w.heap.size, 0, none⟩ = some (.int .i64 e.op) := hsW1.cell 0
    have m3 : W1.cell? ⟨w.heap.size, 3, none⟩ = some (.slice A n k) := hsW1.cell 3
    have HB1 := Lib.hid hbW1
    clear hsW1 hbW1
    go_wp2_with fail
    go_ret
    exact ⟨ret_bool HW.out.symm, HB1.out⟩
  have g2 : (e.op == 2) = false := beq_eq_false_iff_ne.2 h2
  by_cases h3 : e.op = 3
  · have g3 : (e.op == 3) = true := beq_iff_eq.2 h3
    have HW := Lib.hid (show mayB7 e.op n = ((n : Int) == 2) by unfold mayB7; rw [if_neg (by omega), if_neg (by omega), if_pos (by omega)])
    clear h3
    go_enter Tryz.func116, Tryz.ntmps116
    go_upto_region 1 with (fail)
    obtain ⟨W1, hW1⟩ : ∃ W1, w.alloc (.cells #[.int .i64 e.op, .int .i64 e.a, .int .i64 e.b, .slice A n k, .int .i32 e.imm] 42) = W1 := ⟨_, rfl⟩
    have hbW1 : Below w.heap.size w W1 := by rw [← hW1]; exact (Below.refl _ _).alloc (Nat.le_refl _) _
    have hsW1 : Str W1 w.heap.size 42 [.int .i64 e.op, .int .i64 e.a, .int .i64 e.b, .slice A n k, .int .i32 e.imm] := by rw [← hW1]; exact World.alloc_heap_new w _
    rw [hW1]
    clear hW1
    have m0 : W1.cell? ⟨w.heap.size, 0, none⟩ = some (.int .i64 e.op) := hsW1.cell 0
    have m3 : W1.cell? ⟨w.heap.size, 3, none⟩ = some (.slice A n k) := hsW1.cell 3
    have HB1 := Lib.hid hbW1
    clear hsW1 hbW1
    go_wp2_with fail
    go_ret
    exact ⟨ret_bool HW.out.symm, HB1.out⟩
  have g3 : (e.op == 3) = false := beq_eq_false_iff_ne.2 h3
  by_cases h4 : e.op = 4
  · have g4 : (e.op == 4) = true := beq_iff_eq.2 h4
    have HW := Lib.hid (show mayB7 e.op n = ((n : Int) == 2) by unfold mayB7; rw [if_neg (by omega), if_neg (by omega), if_neg (by omega), if_pos (by omega)])
    clear h4
    go_enter Tryz.func116, Tryz.ntmps116
    go_upto_region 1 with (fail)
    obtain ⟨W1, hW1⟩ : ∃ W1, w.alloc (.cells #[.int .i64 e.op, .int .i64 e.a, .int .i64 e.b, .slice A n k, .int .i32 e.imm] 42) = W1 := ⟨_, rfl⟩
    have hbW1 : Below w.heap.size w W1 := by rw [← hW1]; exact (Below.refl _ _).alloc (Nat.le_refl _) _
    have hsW1 : Str W1 w.heap.size 42 [.int .i64 e.op, .int .i64 e.a, .int .i64 e.b, .slice A n k, .int .i32 e.imm] := by rw [← hW1]; exact World.alloc_heap_new w _
    rw [hW1]
    clear hW1
    have m0 : W1.cell? ⟨w.heap.size, 0, none⟩ = some (.int .i64 e.op) := hsW1.cell 0
    have m3 : W1.cell? ⟨w.heap.size, 3, none⟩ = some (.slice A n k) := hsW1.cell 3
    have HB1 := Lib.hid hbW1
    clear hsW1 hbW1
    go_wp2_with fail
    go_ret
    exact ⟨ret_bool HW.out.symm, HB1.out⟩
  have g4 : (e.op == 4) = false := beq_eq_false_iff_ne.2 h4
  by_cases h5 : e.op = 5
  · have g5 : (e.op == 5) = true := beq_iff_eq.2 h5
    have HW := Lib.hid (show mayB7 e.op n = ((n : Int) == 2) by unfold mayB7; rw [if_neg (by omega), if_neg (by omega), if_neg (by omega), if_neg (by omega), if_pos (by omega)])
    clear h5
    go_enter Tryz.func116, Tryz.ntmps116
    go_upto_region 1 with (fail)
    obtain ⟨W1, hW1⟩ : ∃ W1, w.alloc (.cells #[.int .i64 e.op, .int .i64 e.a, .int .i64 e.b, .slice A n k, .int .i32 e.imm] 42) = W1 := ⟨_, rfl⟩
    have hbW1 : Below w.heap.size w W1 := by rw [← hW1]; exact (Below.refl _ _).alloc (Nat.le_refl _) _
    have hsW1 : Str W1 w.heap.size 42 [.int .i64 e.op, .int .i64 e.a, .int .i64 e.b, .slice A n k, .int .i32 e.imm] := by rw [← hW1]; exact World.alloc_heap_new w _
    rw [hW1]
    clear hW1
    have m0 : W1.cell? ⟨w.heap.size, 0, none⟩ = some (.int .i64 e.op) := hsW1.cell 0
    have m3 : W1.cell? ⟨w.heap.size, 3, none⟩ = some (.slice A n k) := hsW1.cell 3
    have HB1 := Lib.hid hbW1
    clear hsW1 hbW1
    go_wp2_with fail
    go_ret
    exact ⟨ret_bool HW.out.symm, HB1.out⟩
  have g5 : (e.op == 5) = false := beq_eq_false_iff_ne.2 h5
  by_cases h6 : e.op = 6
  · have g6 : (e.op == 6) = true := beq_iff_eq.2 h6
    by_cases r0 : (2 : Int) ≤ n
    · by_cases r1 : (n : Int) ≤ 65
      · have HW := Lib.hid (show mayB7 e.op n = true by unfold mayB7; rw [if_neg (by omega), if_neg (by omega), if_neg (by omega), if_neg (by omega), if_neg (by omega), if_pos (by omega)]; rw [decide_eq_true r0, decide_eq_true r1]; rfl)
        clear h6
        go_enter Tryz.func116, Tryz.ntmps116
        go_upto_region 1 with (fail)
        obtain ⟨W1, hW1⟩ : ∃ W1, w.alloc (.cells #[.int .i64 e.op, .int .i64 e.a, .int .i64 e.b, .slice A n k, .int .i32 e.imm] 42) = W1 := ⟨_, rfl⟩
        have hbW1 : Below w.heap.size w W1 := by rw [← hW1]; exact (Below.refl _ _).alloc (Nat.le_refl _) _
        have hsW1 : Str W1 w.heap.size 42 [.int .i64 e.op, .int .i64 e.a, .int .i64 e.b, .slice A n k, .int .i32 e.imm] := by rw [← hW1]; exact World.alloc_heap_new w _
        rw [hW1]
        clear hW1
        have m0 : W1.cell? ⟨w.heap.size, 0, none⟩ = some (.int .i64 e.op) := hsW1.cell 0
        have m3 : W1.cell? ⟨w.heap.size, 3, none⟩ = some (.slice A n k) := hsW1.cell 3
        have HB1 := Lib.hid hbW1
        clear hsW1 hbW1
        go_wp2_with fail
        go_ret
        exact ⟨ret_bool HW.out.symm, HB1.out⟩
      · have HW := Lib.hid (show mayB7 e.op n = false by unfold mayB7; rw [if_neg (by omega), if_neg (by omega), if_neg (by omega), if_neg (by omega), if_neg (by omega), if_pos (by omega)]; rw [decide_eq_false r1, Bool.and_false])
        have r1 : 65 < (n : Int) := by omega
        clear h6
        go_enter Tryz.func116, Tryz.ntmps116
        go_upto_region 1 with (fail)
        obtain ⟨W1, hW1⟩ : ∃ W1, w.alloc (.cells #[.int .i64 e.op, .int .i64 e.a, .int .i64 e.b, .slice A n k, .int .i32 e.imm] 42) = W1 := ⟨_, rfl⟩
        have hbW1 : Below w.heap.size w W1 := by rw [← hW1]; exact (Below.refl _ _).alloc (Nat.le_refl _) _
        have hsW1 : Str W1 w.heap.size 42 [.int .i64 e.op, .int .i64 e.a, .int .i64 e.b, .slice A n k, .int .i32 e.imm] := by rw [← hW1]; exact World.alloc_heap_new w _
        rw [hW1]
        clear hW1
        have m0 : W1.cell? ⟨w.heap.size, 0, none⟩ = some (.int .i64 e.op) := hsW1.cell 0
        have m3 : W1.cell? ⟨w.heap.size, 3, none⟩ = some (.slice A n k) := hsW1.cell 3
        have HB1 := Lib.hid hbW1
        clear hsW1 hbW1
        go_wp2_with fail
        go_ret
        exact ⟨ret_bool HW.out.symm, HB1.out⟩
    · have HW := Lib.hid (show mayB7 e.op n = false by unfold mayB7; rw [if_neg (by omega), if_neg (by omega), if_neg (by omega), if_neg (by omega), if_neg (by omega), if_pos (by omega)]; rw [decide_eq_false r0]; rfl)
      have r0 : (n : Int) < 2 := by omega
      clear h6
      go_enter Tryz.func116, Tryz.ntmps116
      go_upto_region 1 with (fail)
      obtain ⟨W1, hW1⟩ : ∃ W1, w.alloc (.cells #[.int .i64 e.op, .int .i64 e.a, .int .i64 e.b, .slice A n k, .int .i32 e.imm] 42) = W1 := ⟨_, rfl⟩
      have hbW1 : Below w.heap.size w W1 := by rw [← hW1]; exact (Below.refl _ _).alloc (Nat.le_refl _) _
      have hsW1 : Str W1 w.heap.size 42 [.int .i64 e.op, .int .i64 e.a, .int .i64 e.b, .slice A n k, .int .i32 e.imm] := by rw [← hW1]; exact World.alloc_heap_new w _
      rw [hW1]
      clear hW1
      have m0 : W1.cell? ⟨w.heap.size, 0, none⟩ = some (.int .i64 e.op) := hsW1.cell 0
      have m3 : W1.cell? ⟨w.heap.size, 3, none⟩ = some (.slice A n k) := hsW1.cell 3
      have HB1 := Lib.hid hbW1
      clear hsW1 hbW1
      go_wp2_with fail
      go_ret
      exact ⟨ret_bool HW.out.symm, HB1.out⟩
  have g6 : (e.op == 6) = false := beq_eq_false_iff_ne.2 h6
  by_cases h7 : e.op = 7
  · have g7 : (e.op == 7) = true := beq_iff_eq.2 h7
    have HW := Lib.hid (show mayB7 e.op n = ((n : Int) == 0) by unfold mayB7; rw [if_neg (by omega), if_neg (by omega), if_neg (by omega), if_neg (by omega), if_neg (by omega), if_neg (by omega), if_pos (by omega)])
    clear h7
    go_enter Tryz.func116, Tryz.ntmps116
    go_upto_region 1 with (fail)
    obtain ⟨W1, hW1⟩ : ∃ W1, w.alloc (.cells #[.int .i64 e.op, .int .i64 e.a, .int .i64 e.b, .slice A n k, .int .i32 e.imm] 42) = W1 := ⟨_, rfl⟩
    have hbW1 : Below w.heap.size w W1 := by rw [← hW1]; exact (Below.refl _ _).alloc (Nat.le_refl _) _
    have hsW1 : Str W1 w.heap.size 42 [.int .i64 e.op, .int .i64 e.a, .int .i64 e.b, .slice A n k, .int .i32 e.imm] := by rw [← hW1]; exact World.alloc_heap_new w _
    rw [hW1]
    clear hW1
    have m0 : W1.cell? ⟨w.heap.size, 0, none⟩ = some (.int .i64 e.op) := hsW1.cell 0
    have m3 : W1.cell? ⟨w.heap.size, 3, none⟩ = some (.slice A n k) := hsW1.cell 3
    have HB1 := Lib.hid hbW1
    clear hsW1 hbW1
    go_wp2_with fail
    go_ret
    exact ⟨ret_bool HW.out.symm, HB1.out⟩
  have g7 : (e.op == 7) = false := beq_eq_false_iff_ne.2 h7
  by_cases h8 : e.op = 8
  · have g8 : (e.op == 8) = true := beq_iff_eq.2 h8
    have HW := Lib.hid (show mayB7 e.op n = ((n : Int) == 0) by unfold mayB7; rw [if_neg (by omega), if_neg (by omega), if_neg (by omega), if_neg (by omega), if_neg (by omega), if_neg (by omega), if_neg (by omega), if_pos (by omega)])
    clear h8
    go_enter Tryz.func116, Tryz.ntmps116
    go_upto_region 1 with (fail)
    obtain ⟨W1, hW1⟩ : ∃ W1, w.alloc (.cells #[.int .i64 e.op, .int .i64 e.a, .int .i64 e.b, .slice A n k, .int .i32 e.imm] 42) = W1 := ⟨_, rfl⟩
    have hbW1 : Below w.heap.size w W1 := by rw [← hW1]; exact (Below.refl _ _).alloc (Nat.le_refl _) _
    have hsW1 : Str W1 w.heap.size 42 [.int .i64 e.op, .int .i64 e.a, .int .i64 e.b, .slice A n k, .int .i32 e.imm] := by rw [← hW1]; exact World.alloc_heap_new w _
    rw [hW1]
    clear hW1
    have m0 : W1.cell? ⟨w.heap.size, 0, none⟩ = some (.int .i64 e.op) := hsW1.cell 0
    have m3 : W1.cell? ⟨w.heap.size, 3, none⟩ = some (.slice A n k) := hsW1.cell 3
    have HB1 := Lib.hid hbW1
    clear hsW1 hbW1
    go_wp2_with fail
    go_ret
    exact ⟨ret_bool HW.out.symm, HB1.out⟩
  have g8 : (e.op == 8) = false := beq_eq_false_iff_ne.2 h8
  have HW := Lib.hid (show mayB7 e.op n = false by unfold mayB7; rw [if_neg (by omega), if_neg (by omega), if_neg (by omega), if_neg (by omega), if_neg (by omega), if_neg (by omega), if_neg (by omega), if_neg (by omega)])
  go_enter Tryz.func116, Tryz.ntmps116
  go_upto_region 1 with (fail)
  obtain ⟨W1, hW1⟩ : ∃ W1, w.alloc (.cells #[.int .i64 e.op, .int .i64 e.a, .int .i64 e.b, .slice A n k, .int .i32 e.imm] 42) = W1 := ⟨_, rfl⟩
  have hbW1 : Below w.heap.size w W1 := by rw [← hW1]; exact (Below.refl _ _).alloc (Nat.le_refl _) _
  have hsW1 : Str W1 w.heap.size 42 [.int .i64 e.op, .int .i64 e.a, .int .i64 e.b, .slice A n k, .int .i32 e.imm] := by rw [← hW1]; exact World.alloc_heap_new w _
  rw [hW1]
  clear hW1
  have m0 : W1.cell? ⟨w.heap.size, 0, none⟩ = some (.int .i64 e.op) := hsW1.cell 0
  have m3 : W1.cell? ⟨w.heap.size, 3, none⟩ = some (.slice A n k) := hsW1.cell 3
  have HB1 := Lib.hid hbW1
  clear hsW1 hbW1
  go_wp2_with fail
  go_ret
  exact ⟨ret_bool HW.out.symm, HB1.out⟩
set_option maxRecDepth 100000 in
set_option maxHeartbeats 4000000 in
theorem badto_any (w : World) (t blocks : Int) (b : Nat) (hc : w.cell? ⟨b, 0, none⟩ = some (.int .i64 blocks)) :
    Calls Tryz.prog 115 #[.int .i64 t, .pointer (some ⟨b, 0, none⟩)] w fun en w' => en = .returned (.bool (badTo blocks t)) ∧ w' = w := by
  by_cases h1 : t < 1
  · have HW := Lib.hid (show badTo blocks t = true by unfold badTo; rw [decide_eq_true h1]; rfl)
    go_enter Tryz.func115, Tryz.ntmps115
    go_wp2
    go_ret
    exact ⟨ret_bool HW.out.symm, rfl⟩
  · have HW := Lib.hid (show badTo blocks t = decide (blocks ≤ t) by unfold badTo; rw [decide_eq_false h1]; rfl)
    have h1 : 1 ≤ t := by omega
    by_cases h2 : blocks ≤ t
    · rw [decide_eq_true h2] at HW
      go_enter Tryz.func115, Tryz.ntmps115
      go_wp2
      go_ret
      exact ⟨ret_bool HW.out.symm, rfl⟩
    · rw [decide_eq_false h2] at HW
      have h2 : t < blocks := by omega
      go_enter Tryz.func115, Tryz.ntmps115
      go_wp2
      go_ret
      exact ⟨ret_bool HW.out.symm, rfl⟩
theorem any_step {q : Int → Bool} {l : List Int} {k : Nat} (hk : k < l.length) (h : (l.take k).any q = false) : (l.take (k + 1)).any q = q l[k] := by
  rw [List.take_succ_eq_append_getElem hk, List.any_append, h]; simp
theorem any_yes {q : Int → Bool} {l : List Int} {k : Nat} (hk : k < l.length) (h : q l[k] = true) : l.any q = true := by
  rw [List.any_eq_true]
  exact ⟨l[k], List.getElem_mem hk, h⟩
set_option maxRecDepth 100000 in
set_option maxHeartbeats 4000000 in
theorem index_any (w : World) (v : Value) (l : List Int) (hv : Ints w v l) (F : Nat) (x : Value) (q : Int → Bool) (hF : ∀ y : Value, (callFunc F #[y, x]).run Tryz.prog w = .ok (.enter F #[y, x]) w) (hq : ∀ y, Calls Tryz.prog F #[.int .i64 y, x] w fun en w' => en = .returned (.bool (q y)) ∧ w' = w) :
    Calls Tryz.prog 132 #[v, .func (.func F) #[] #[x]] w fun en w' => ∃ r : Int, en = .returned (.int .i64 r) ∧ (0 ≤ r ↔ l.any q = true) ∧ w' = w := by
  obtain ⟨A, c, rfl, h1, h2, h3⟩ := hv
  have H3 := Lib.hid h3
  have HQ := Lib.hid hq
  unfold maxLen at h2
  obtain ⟨n, hn⟩ : ∃ n, l.length = n := ⟨_, rfl⟩
  have HN := Lib.hid hn
  rw [hn] at h1
  rw [hn]
  clear h3 hn hq
  go_enter Tryz.func132, Tryz.ntmps132
  go_wp2_with fail
  go_loopw [5, 8] (fun _ j wr => ∃ k : Nat, k ≤ n ∧ j = .int .i64 k ∧ (l.take k).any q = false ∧ wr = w) (fun _ j _ => n - (intOf j).toNat)
  case atStart => exact ⟨0, Nat.zero_le _, rfl, rfl, rfl⟩
  case round =>
    obtain ⟨k, hk, rfl, hall, rfl⟩ := hrel
    have HA := Lib.hid hall
    clear hall
    by_cases hlt : k < n
    · have hkl : k < l.length := by rw [HN.out]; exact hlt
      obtain ⟨ad, rfl, hc⟩ := H3.out k hkl
      have HX := Lib.hid (any_step hkl HA.out)
      have HY := Lib.hid (fun h => any_yes (q := q) hkl h)
      generalize l[k] = y at *
      clear hkl
      go_wp2_with fail
      refine (HQ.out y).mono ?_
      rintro e' w3 ⟨rfl, rfl⟩
      cases hx : q y with
      | false =>
        have HXX := Lib.hid hx
        clear hx
        go_wp2_with fail
        exact ⟨⟨k + 1, by omega, by go_num, by rw [HX.out]; exact HXX.out, trivial⟩, by simp [intOf]; omega⟩
      | true =>
        have HXX := Lib.hid hx
        clear hx
        go_wp2_with fail
        go_ret
        exact ⟨_, rfl, ⟨fun _ => HY.out HXX.out, fun _ => by omega⟩, rfl⟩
    · obtain rfl : k = n := by omega
      have HZ := Lib.hid (show l.any q = false by have := HA.out; rw [← HN.out, List.take_length] at this; exact this)
      go_wp2_with fail
      go_ret
      exact ⟨_, rfl, ⟨fun h => absurd h (by omega), fun h => by rw [HZ.out] at h; cases h⟩, rfl⟩
end Go.Proofs.YtonheiaohgbbcaaGreat.Mc
