/- Stage 12: phys: what is wrong first with an end. -/
import Derived.Test.YtdidacjmcafcpaaQE
namespace Go.Proofs.Ytdidacjmcafcpaa.Ph
open Go.ChangeShapes Go.WideShapes Go.ChangeAt Go.RowKit Go.Proofs.Ytdidacjmcafcpaa.Mem Go.Proofs.Ytdidacjmcafcpaa.Kc Go.Proofs.Ytdidacjmcafcpaa.Pl Go.Proofs.Ytdidacjmcafcpaa.Mw Go.Proofs.Ytdidacjmcafcpaa.Mc Go.Proofs.Ytdidacjmcafcpaa.Br
set_option linter.unusedVariables false
set_option linter.unusedSimpArgs false
attribute [local go_sem] Oper.semAt_some
/-- Is there such an end, with so many To? -/
def mayE (op : Int) (n : Nat) : Bool := if op = 1 then (n : Int) == 1 else if op = 2 ∨ op = 3 ∨ op = 4 ∨ op = 5 then (n : Int) == 2 else if op = 6 then decide ((2 : Int) ≤ n) && decide ((n : Int) ≤ 65) else if op = 7 ∨ op = 8 then (n : Int) == 0 else false
def badTo (blocks t : Int) : Bool := decide (t < 1) || decide (blocks ≤ t)
/-- What is wrong first with an end, with so many registers and blocks. -/
def endQ (e : PEnd) (r blocks : Int) : Int := if mayE e.op e.to.length = false then 30 else if (regsB r (needsL e) && !(e.op == 7 && decide (0 < e.a))) = false then 31 else if e.to.any (badTo blocks) = true then 14 else 0
theorem badto_any (w : World) (t blocks : Int) (b : Nat) (hc : w.cell? ⟨b, 0, none⟩ = some (.int .i64 blocks)) :
    Calls Try.prog 40 #[.int .i64 t, .pointer (some ⟨b, 0, none⟩)] w fun en w' => en = .returned (.bool (badTo blocks t)) ∧ w' = w := by
  by_cases h1 : t < 1
  · have HW := Lib.hid (show badTo blocks t = true by unfold badTo; rw [decide_eq_true h1]; rfl)
    go_enter Try.func40, Try.ntmps40
    go_wp2
    go_ret
    exact ⟨ret_bool HW.out.symm, rfl⟩
  · have HW := Lib.hid (show badTo blocks t = decide (blocks ≤ t) by unfold badTo; rw [decide_eq_false h1]; rfl)
    have h1 : 1 ≤ t := by omega
    by_cases h2 : blocks ≤ t
    · rw [decide_eq_true h2] at HW
      go_enter Try.func40, Try.ntmps40
      go_wp2
      go_ret
      exact ⟨ret_bool HW.out.symm, rfl⟩
    · rw [decide_eq_false h2] at HW
      have h2 : t < blocks := by omega
      go_enter Try.func40, Try.ntmps40
      go_wp2
      go_ret
      exact ⟨ret_bool HW.out.symm, rfl⟩
set_option maxRecDepth 100000 in
set_option maxHeartbeats 4000000 in
theorem isend_any (w : World) (e : PEnd) (A : Option Addr) (k : Nat) : Calls Try.prog 41 #[.agg #[.int .i64 e.op, .int .i64 e.a, .int .i64 e.b, .slice A e.to.length k, .int .i32 e.imm]] w fun en w' => en = .returned (.bool (mayE e.op e.to.length)) ∧ Below w.heap.size w w' := by
  obtain ⟨W1, hW1⟩ : ∃ W1, w.alloc (.cells #[.int .i64 e.op, .int .i64 e.a, .int .i64 e.b, .slice A e.to.length k, .int .i32 e.imm] 26) = W1 := ⟨_, rfl⟩
  have hb1 : Below w.heap.size w W1 := by rw [← hW1]; exact (Below.refl _ _).alloc (Nat.le_refl _) _
  have hs1 : Str W1 w.heap.size 26 [.int .i64 e.op, .int .i64 e.a, .int .i64 e.b, .slice A e.to.length k, .int .i32 e.imm] := by rw [← hW1]; exact World.alloc_heap_new w _
  have HB1 := Lib.hid hb1
  have m0 : W1.cell? ⟨w.heap.size, 0, none⟩ = some (.int .i64 e.op) := hs1.cell 0
  have m1 : W1.cell? ⟨w.heap.size, 1, none⟩ = some (.int .i64 e.a) := hs1.cell 1
  have m2 : W1.cell? ⟨w.heap.size, 2, none⟩ = some (.int .i64 e.b) := hs1.cell 2
  have m3 : W1.cell? ⟨w.heap.size, 3, none⟩ = some (.slice A e.to.length k) := hs1.cell 3
  have m4 : W1.cell? ⟨w.heap.size, 4, none⟩ = some (.int .i32 e.imm) := hs1.cell 4
  clear hb1 hs1
  by_cases h1 : e.op = 1
  · have e1 : (e.op == 1) = true := beq_iff_eq.2 h1
    have HF := Lib.hid (show mayE e.op e.to.length = ((e.to.length : Int) == 1) by unfold mayE; rw [if_pos (by omega)])
    clear h1
    go_enter Try.func41, Try.ntmps41
    go_wp2
    go_ret
    exact ⟨ret_bool HF.out.symm, HB1.out⟩
  have e1 : (e.op == 1) = false := beq_eq_false_iff_ne.2 h1
  by_cases h2 : e.op = 2
  · have e2 : (e.op == 2) = true := beq_iff_eq.2 h2
    have HF := Lib.hid (show mayE e.op e.to.length = ((e.to.length : Int) == 2) by unfold mayE; rw [if_neg (by omega), if_pos (by omega)])
    clear h1 h2
    go_enter Try.func41, Try.ntmps41
    go_wp2
    go_ret
    exact ⟨ret_bool HF.out.symm, HB1.out⟩
  have e2 : (e.op == 2) = false := beq_eq_false_iff_ne.2 h2
  by_cases h3 : e.op = 3
  · have e3 : (e.op == 3) = true := beq_iff_eq.2 h3
    have HF := Lib.hid (show mayE e.op e.to.length = ((e.to.length : Int) == 2) by unfold mayE; rw [if_neg (by omega), if_pos (by omega)])
    clear h1 h2 h3
    go_enter Try.func41, Try.ntmps41
    go_wp2
    go_ret
    exact ⟨ret_bool HF.out.symm, HB1.out⟩
  have e3 : (e.op == 3) = false := beq_eq_false_iff_ne.2 h3
  by_cases h4 : e.op = 4
  · have e4 : (e.op == 4) = true := beq_iff_eq.2 h4
    have HF := Lib.hid (show mayE e.op e.to.length = ((e.to.length : Int) == 2) by unfold mayE; rw [if_neg (by omega), if_pos (by omega)])
    clear h1 h2 h3 h4
    go_enter Try.func41, Try.ntmps41
    go_wp2
    go_ret
    exact ⟨ret_bool HF.out.symm, HB1.out⟩
  have e4 : (e.op == 4) = false := beq_eq_false_iff_ne.2 h4
  by_cases h5 : e.op = 5
  · have e5 : (e.op == 5) = true := beq_iff_eq.2 h5
    have HF := Lib.hid (show mayE e.op e.to.length = ((e.to.length : Int) == 2) by unfold mayE; rw [if_neg (by omega), if_pos (by omega)])
    clear h1 h2 h3 h4 h5
    go_enter Try.func41, Try.ntmps41
    go_wp2
    go_ret
    exact ⟨ret_bool HF.out.symm, HB1.out⟩
  have e5 : (e.op == 5) = false := beq_eq_false_iff_ne.2 h5
  by_cases h6 : e.op = 6
  · have e6 : (e.op == 6) = true := beq_iff_eq.2 h6
    have HF := Lib.hid (show mayE e.op e.to.length = (decide ((2 : Int) ≤ e.to.length) && decide ((e.to.length : Int) ≤ 65)) by unfold mayE; rw [if_neg (by omega), if_neg (by omega), if_pos (by omega)])
    clear h1 h2 h3 h4 h5 h6
    by_cases g2 : (2 : Int) ≤ e.to.length
    · have HF2 := Lib.hid (show mayE e.op e.to.length = decide ((e.to.length : Int) ≤ 65) by rw [HF.out, decide_eq_true g2]; rfl)
      go_enter Try.func41, Try.ntmps41
      go_wp2
      go_ret
      exact ⟨ret_bool HF2.out.symm, HB1.out⟩
    · have HF2 := Lib.hid (show mayE e.op e.to.length = false by rw [HF.out, decide_eq_false g2]; rfl)
      go_enter Try.func41, Try.ntmps41
      go_wp2
      go_ret
      exact ⟨ret_bool HF2.out.symm, HB1.out⟩
  have e6 : (e.op == 6) = false := beq_eq_false_iff_ne.2 h6
  by_cases h7 : e.op = 7
  · have e7 : (e.op == 7) = true := beq_iff_eq.2 h7
    have HF := Lib.hid (show mayE e.op e.to.length = ((e.to.length : Int) == 0) by unfold mayE; rw [if_neg (by omega), if_neg (by omega), if_neg (by omega), if_pos (by omega)])
    clear h1 h2 h3 h4 h5 h6 h7
    go_enter Try.func41, Try.ntmps41
    go_wp2
    go_ret
    exact ⟨ret_bool HF.out.symm, HB1.out⟩
  have e7 : (e.op == 7) = false := beq_eq_false_iff_ne.2 h7
  by_cases h8 : e.op = 8
  · have e8 : (e.op == 8) = true := beq_iff_eq.2 h8
    have HF := Lib.hid (show mayE e.op e.to.length = ((e.to.length : Int) == 0) by unfold mayE; rw [if_neg (by omega), if_neg (by omega), if_neg (by omega), if_pos (by omega)])
    clear h1 h2 h3 h4 h5 h6 h7 h8
    go_enter Try.func41, Try.ntmps41
    go_wp2
    go_ret
    exact ⟨ret_bool HF.out.symm, HB1.out⟩
  have e8 : (e.op == 8) = false := beq_eq_false_iff_ne.2 h8
  have HF := Lib.hid (show mayE e.op e.to.length = false by unfold mayE; rw [if_neg (by omega), if_neg (by omega), if_neg (by omega), if_neg (by omega)])
  clear h1 h2 h3 h4 h5 h6 h7 h8
  go_enter Try.func41, Try.ntmps41
  go_wp2
  go_ret
  exact ⟨ret_bool HF.out.symm, HB1.out⟩
set_option maxRecDepth 100000 in
set_option maxHeartbeats 4000000 in
theorem endP_any (w : World) (e : PEnd) (A : Option Addr) (k : Nat) (r bl : Int) (hv : Ints w (.slice A e.to.length k) e.to) : Calls Try.prog 19 #[.agg #[.int .i64 e.op, .int .i64 e.a, .int .i64 e.b, .slice A e.to.length k, .int .i32 e.imm], .int .i64 r, .int .i64 bl] w fun en w' => en = .returned (.int .i64 (endQ e r bl)) ∧ Below w.heap.size w w' := by
  obtain ⟨W0, hW0⟩ : ∃ W0, w.alloc (.cells #[.int .i64 e.op, .int .i64 e.a, .int .i64 e.b, .slice A e.to.length k, .int .i32 e.imm] 26) = W0 := ⟨_, rfl⟩
  have hb0 : Below w.heap.size w W0 := by rw [← hW0]; exact (Below.refl _ _).alloc (Nat.le_refl _) _
  have hs0 : Str W0 w.heap.size 26 [.int .i64 e.op, .int .i64 e.a, .int .i64 e.b, .slice A e.to.length k, .int .i32 e.imm] := by rw [← hW0]; exact World.alloc_heap_new w _
  obtain ⟨W1, hW1⟩ : ∃ W1, W0.alloc (.cells #[.int .i64 bl] 3) = W1 := ⟨_, rfl⟩
  have hb1 : Below W0.heap.size W0 W1 := by rw [← hW1]; exact (Below.refl _ _).alloc (Nat.le_refl _) _
  have hs1 : Str W1 W0.heap.size 3 [.int .i64 bl] := by rw [← hW1]; exact World.alloc_heap_new W0 _
  have hs01 := hs0.below hb1
  have HB1 := Lib.hid (hb0.trans (hb1.mono hb0.size))
  have HV := Lib.hid (ints_low (ints_low hv hb0) hb1)
  have HT1 := Lib.hid (show W1.cell? ⟨W0.heap.size, 0, none⟩ = some (.int .i64 bl) from hs1.cell 0)
  have m0 : W1.cell? ⟨w.heap.size, 0, none⟩ = some (.int .i64 e.op) := hs01.cell 0
  have m1 : W1.cell? ⟨w.heap.size, 1, none⟩ = some (.int .i64 e.a) := hs01.cell 1
  have m2 : W1.cell? ⟨w.heap.size, 2, none⟩ = some (.int .i64 e.b) := hs01.cell 2
  have m3 : W1.cell? ⟨w.heap.size, 3, none⟩ = some (.slice A e.to.length k) := hs01.cell 3
  have m4 : W1.cell? ⟨w.heap.size, 4, none⟩ = some (.int .i32 e.imm) := hs01.cell 4
  clear hb0 hs0 hb1 hs1 hs01 hv
  go_enter Try.func19, Try.ntmps19
  go_wp2_with fail
  clear hW0 hW1
  refine (isend_any W1 e A k).mono ?_
  rintro e' w2 ⟨rfl, hb⟩
  have HB2 := Lib.hid (HB1.out.trans (hb.mono HB1.out.size))
  have HV2 := Lib.hid (ints_low HV.out hb)
  have HT2 := Lib.hid (cell_keep hb (Nat.le_refl _) HT1.out)
  have m0 : w2.cell? ⟨w.heap.size, 0, none⟩ = some (.int .i64 e.op) := cell_keep hb (Nat.le_refl _) m0
  have m1 : w2.cell? ⟨w.heap.size, 1, none⟩ = some (.int .i64 e.a) := cell_keep hb (Nat.le_refl _) m1
  have m2 : w2.cell? ⟨w.heap.size, 2, none⟩ = some (.int .i64 e.b) := cell_keep hb (Nat.le_refl _) m2
  have m3 : w2.cell? ⟨w.heap.size, 3, none⟩ = some (.slice A e.to.length k) := cell_keep hb (Nat.le_refl _) m3
  have m4 : w2.cell? ⟨w.heap.size, 4, none⟩ = some (.int .i32 e.imm) := cell_keep hb (Nat.le_refl _) m4
  clear hb
  cases c1 : mayE e.op e.to.length with
  | false =>
    have HE := Lib.hid (show endQ e r bl = 30 by unfold endQ; rw [if_pos c1])
    clear c1
    go_wp2
    go_ret
    exact ⟨ret_num HE.out.symm, HB2.out⟩
  | true =>
    have C1 := Lib.hid c1
    clear c1
    go_wp2_with fail
    refine (needsQ_any w2 e A e.to.length k).mono ?_
    rintro e' w3 ⟨v3, rfl, ho, hb⟩
    have HB3 := Lib.hid (HB2.out.trans (hb.mono HB2.out.size))
    have HV3 := Lib.hid (ints_low HV2.out hb)
    have HT3 := Lib.hid (cell_keep hb (Nat.le_refl _) HT2.out)
    have HO3 := Lib.hid (OwnInts.ints ho)
    have m0 : w3.cell? ⟨w.heap.size, 0, none⟩ = some (.int .i64 e.op) := cell_keep hb (Nat.le_refl _) m0
    have m1 : w3.cell? ⟨w.heap.size, 1, none⟩ = some (.int .i64 e.a) := cell_keep hb (Nat.le_refl _) m1
    have m2 : w3.cell? ⟨w.heap.size, 2, none⟩ = some (.int .i64 e.b) := cell_keep hb (Nat.le_refl _) m2
    have m3 : w3.cell? ⟨w.heap.size, 3, none⟩ = some (.slice A e.to.length k) := cell_keep hb (Nat.le_refl _) m3
    have m4 : w3.cell? ⟨w.heap.size, 4, none⟩ = some (.int .i32 e.imm) := cell_keep hb (Nat.le_refl _) m4
    clear hb ho
    go_wp2_with fail
    refine (areregs_any w3 v3 (needsL e) r HO3.out).mono ?_
    rintro e' w4 ⟨rfl, hb⟩
    have HB4 := Lib.hid (HB3.out.trans (hb.mono HB3.out.size))
    have HV4 := Lib.hid (ints_low HV3.out hb)
    have HT4 := Lib.hid (cell_keep hb (Nat.le_refl _) HT3.out)
    have m0 : w4.cell? ⟨w.heap.size, 0, none⟩ = some (.int .i64 e.op) := cell_keep hb (Nat.le_refl _) m0
    have m1 : w4.cell? ⟨w.heap.size, 1, none⟩ = some (.int .i64 e.a) := cell_keep hb (Nat.le_refl _) m1
    have m2 : w4.cell? ⟨w.heap.size, 2, none⟩ = some (.int .i64 e.b) := cell_keep hb (Nat.le_refl _) m2
    have m3 : w4.cell? ⟨w.heap.size, 3, none⟩ = some (.slice A e.to.length k) := cell_keep hb (Nat.le_refl _) m3
    have m4 : w4.cell? ⟨w.heap.size, 4, none⟩ = some (.int .i32 e.imm) := cell_keep hb (Nat.le_refl _) m4
    clear hb
    cases c2 : regsB r (needsL e) with
    | false =>
      have HE := Lib.hid (show endQ e r bl = 31 by unfold endQ; rw [if_neg (by rw [C1.out]; simp), if_pos (by rw [c2]; rfl)])
      clear c2
      go_wp2
      go_ret
      exact ⟨ret_num HE.out.symm, HB4.out⟩
    | true =>
      have C2 := Lib.hid c2
      clear c2
      by_cases c3 : (e.op == 7) = true ∧ 0 < e.a
      · have HE := Lib.hid (show endQ e r bl = 31 by unfold endQ; rw [if_neg (by rw [C1.out]; simp), if_pos (by rw [C2.out, c3.1, decide_eq_true c3.2]; rfl)])
        obtain ⟨c3a, c3b⟩ := c3
        go_wp2
        go_ret
        exact ⟨ret_num HE.out.symm, HB4.out⟩
      · have C3 := Lib.hid (show (e.op == 7 && decide (0 < e.a)) = false by
          cases h : (e.op == 7 && decide (0 < e.a)) with
          | false => rfl
          | true =>
            rw [Bool.and_eq_true, decide_eq_true_eq] at h
            exact absurd h c3)
        cases h7 : e.op == 7
        all_goals
          (first
            | (have c3b : ¬ 0 < e.a := fun h => c3 ⟨h7, h⟩
               clear c3
               go_wp2_with fail)
            | (clear c3
               go_wp2_with fail))
          refine (contains_any w4 _ _ HV4.out 40 (.pointer (some ⟨W0.heap.size, 0, none⟩)) (badTo bl) (fun y => by kernel_rfl) (fun y => badto_any w4 y bl _ HT4.out)).mono ?_
          rintro e' w5 ⟨rfl, hw5⟩
          obtain rfl : w4 = w5 := hw5.symm
          cases c4 : e.to.any (badTo bl) with
          | true =>
            have HE := Lib.hid (show endQ e r bl = 14 by unfold endQ; rw [if_neg (by rw [C1.out]; simp), if_neg (by rw [C2.out, C3.out]; simp), if_pos c4])
            clear c4
            go_wp2
            go_ret
            exact ⟨ret_num HE.out.symm, HB4.out⟩
          | false =>
            have HE := Lib.hid (show endQ e r bl = 0 by unfold endQ; rw [if_neg (by rw [C1.out]; simp), if_neg (by rw [C2.out, C3.out]; simp), if_neg (by rw [c4]; simp)])
            clear c4
            go_wp2
            go_ret
            exact ⟨ret_num HE.out.symm, HB4.out⟩
end Go.Proofs.Ytdidacjmcafcpaa.Ph
