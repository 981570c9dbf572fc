/- Stage 7: which instructions of the machine there may be. -/
import Derived.Test.YtonheiaohgbbcaaGreatMB
import Derived.Test.YtonheiaohgbbcaaGreatRef7
import Derived.Deep.Cut
namespace Go.Proofs.YtonheiaohgbbcaaGreat.Mc
open Go.ChangeShapes Go.WideShapes Go.ChangeAt Go.RowKit Go.Proofs.YtonheiaohgbbcaaGreat.Mem Go.Proofs.YtonheiaohgbbcaaGreat.Kc Go.Proofs.YtonheiaohgbbcaaGreat.Pl Go.Proofs.YtonheiaohgbbcaaGreat.Mw
set_option linter.unusedVariables false
set_option linter.unusedSimpArgs false
theorem ret_bool {a b : Bool} (h : a = b) : Ending.returned (.bool a) = .returned (.bool b) := by rw [h]
def virtB (op : Int) : Bool := op == 1 || decide (3 ≤ op) && decide (op ≤ 29)
def regB (r : Int) : Bool := decide (0 ≤ r) && decide (r < 8192)
def fitsM (op imm : Int) : Bool :=
  if op = 3 then fitB imm 16 else if op = 18 then fitB imm 8 else if op = 19 then fitB imm 8 else if 20 ≤ op ∧ op ≤ 22 then decide (0 ≤ imm) && decide (imm ≤ 31)
  else if op = 24 then decide (0 ≤ imm) && decide (imm ≤ 255) else if op = 26 then decide (0 ≤ imm) && decide (imm ≤ 255) else true
/-- What is wrong with an instruction. -/
def insM (i : PMach) : Int :=
  if (!virtB i.op || i.op == 28 && decide (4 < (i.args.length : Int))) = true then 30
  else if (!(makesL i).all regB || !(takesL i).all regB) = true then 31
  else if (i.op == 29 && i.e == i.d) = true then 12
  else if fitsM i.op i.imm = false then 32 else 0
set_option maxRecDepth 100000 in
set_option maxHeartbeats 4000000 in
theorem virt_any (op : Int) (w : World) : Calls Tryz.prog 112 #[.int .i64 op] w fun e w' => e = .returned (.bool (virtB op)) ∧ w' = w := by
  cases c0 : (op == 1) with
  | true =>
    have HW := Lib.hid (show virtB op = true by unfold virtB; rw [c0]; rfl)
    go_enter Tryz.func112, Tryz.ntmps112
    go_wp2
    go_ret
    exact ⟨ret_bool HW.out.symm, rfl⟩
  | false =>
    by_cases h3 : 3 ≤ op
    · by_cases h4 : op ≤ 29
      · have HW := Lib.hid (show virtB op = true by unfold virtB; rw [c0, decide_eq_true h3, decide_eq_true h4]; rfl)
        go_enter Tryz.func112, Tryz.ntmps112
        go_wp2
        go_ret
        exact ⟨ret_bool HW.out.symm, rfl⟩
      · have HW := Lib.hid (show virtB op = false by unfold virtB; rw [c0, decide_eq_false h4, Bool.and_false]; rfl)
        have h4 : 29 < op := by omega
        go_enter Tryz.func112, Tryz.ntmps112
        go_wp2
        go_ret
        exact ⟨ret_bool HW.out.symm, rfl⟩
    · have HW := Lib.hid (show virtB op = false by unfold virtB; rw [c0, decide_eq_false h3]; rfl)
      have h3 : op < 3 := by omega
      go_enter Tryz.func112, Tryz.ntmps112
      go_wp2
      go_ret
      exact ⟨ret_bool HW.out.symm, rfl⟩
set_option maxRecDepth 100000 in
set_option maxHeartbeats 4000000 in
theorem reg_any (r : Int) (w : World) : Calls Tryz.prog 110 #[.int .i64 r] w fun e w' => e = .returned (.bool (regB r)) ∧ w' = w := by
  by_cases h3 : 0 ≤ r
  · by_cases h4 : r < 8192
    · have HW := Lib.hid (show regB r = true by unfold regB; rw [decide_eq_true h3, decide_eq_true h4]; rfl)
      go_enter Tryz.func110, Tryz.ntmps110
      go_wp2
      go_ret
      exact ⟨ret_bool HW.out.symm, rfl⟩
    · have HW := Lib.hid (show regB r = false by unfold regB; rw [decide_eq_false h4, Bool.and_false])
      have h4 : 8192 ≤ r := by omega
      go_enter Tryz.func110, Tryz.ntmps110
      go_wp2
      go_ret
      exact ⟨ret_bool HW.out.symm, rfl⟩
  · have HW := Lib.hid (show regB r = false by unfold regB; rw [decide_eq_false h3]; rfl)
    have h3 : r < 0 := by omega
    go_enter Tryz.func110, Tryz.ntmps110
    go_wp2
    go_ret
    exact ⟨ret_bool HW.out.symm, rfl⟩
theorem all_step {q : Int → Bool} {l : List Int} {k : Nat} (hk : k < l.length) (h : (l.take k).all q = true) : (l.take (k + 1)).all q = q l[k] := by
  rw [List.take_succ_eq_append_getElem hk, List.all_append, h]; simp
theorem all_no {q : Int → Bool} {l : List Int} {k : Nat} (hk : k < l.length) (h : q l[k] = false) : l.all q = false := by
  rw [List.all_eq_false]
  exact ⟨l[k], List.getElem_mem hk, by rw [h]; simp⟩
set_option maxRecDepth 100000 in
set_option maxHeartbeats 4000000 in
theorem regs_any (w : World) (v : Value) (l : List Int) (hv : Ints w v l) :
    Calls Tryz.prog 113 #[v] w fun e w' => e = .returned (.bool (l.all regB)) ∧ w' = w := by
  obtain ⟨A, c, rfl, h1, h2, h3⟩ := hv
  have H3 := Lib.hid h3
  unfold maxLen at h2
  obtain ⟨n, hn⟩ : ∃ n, l.length = n := ⟨_, rfl⟩
  have HN := Lib.hid hn
  rw [hn] at h1
  rw [hn]
  clear h3 hn
  go_enter Tryz.func113, Tryz.ntmps113
  go_wp2_with fail
  go_loopw [4, 7] (fun _ j wr => ∃ k : Nat, k ≤ n ∧ j = .int .i64 k ∧ (l.take k).all regB = true ∧ wr = w) (fun _ j _ => n - (intOf j).toNat)
  case atStart => exact ⟨0, Nat.zero_le _, rfl, rfl, rfl⟩
  case round =>
    obtain ⟨k, hk, rfl, hall, rfl⟩ := hrel
    have HA := Lib.hid hall
    clear hall
    by_cases hlt : k < n
    · have hkl : k < l.length := by rw [HN.out]; exact hlt
      obtain ⟨ad, rfl, hc⟩ := H3.out k hkl
      have HX := Lib.hid (all_step hkl HA.out)
      have HY := Lib.hid (fun h => all_no (q := regB) hkl h)
      generalize l[k] = x at *
      clear hkl
      go_wp2_with fail
      refine (reg_any x _).mono ?_
      rintro e' w3 ⟨rfl, rfl⟩
      cases hx : regB x with
      | true =>
        have HXX := Lib.hid hx
        clear hx
        go_wp2_with fail
        exact ⟨⟨k + 1, by omega, by go_num, by rw [HX.out]; exact HXX.out, trivial⟩, by simp [intOf]; omega⟩
      | false =>
        have HXX := Lib.hid hx
        clear hx
        go_wp2_with fail
        go_ret
        exact ⟨ret_bool (HY.out HXX.out).symm, rfl⟩
    · obtain rfl : k = n := by omega
      go_wp2_with fail
      go_ret
      exact ⟨ret_bool (by rw [← HA.out, ← HN.out, List.take_length]), rfl⟩
set_option maxRecDepth 100000 in
set_option maxHeartbeats 4000000 in
theorem mfits_any (w : World) (i : PMach) (A : Option Addr) (n k : Nat) (hi : InW i.imm) :
    Calls Tryz.prog 114 #[.agg #[.int .i64 i.op, .int .i64 i.d, .int .i64 i.e, .int .i64 i.a, .int .i64 i.b, .int .i64 i.c, .int .i32 i.imm, .slice A n k]] w fun en w' => en = .returned (.bool (fitsM i.op i.imm)) ∧ Below w.heap.size w w' := by
  have HI := Lib.hid hi
  clear hi
  by_cases h3 : i.op = 3
  · have g3 : (i.op == 3) = true := beq_iff_eq.2 h3
    have HW := Lib.hid (show fitsM i.op i.imm = fitB i.imm 16 by unfold fitsM; rw [if_pos (by omega)])
    clear h3
    go_enter Tryz.func114, Tryz.ntmps114
    go_upto_region 1 with (fail)
    obtain ⟨W1, hW1⟩ : ∃ W1, w.alloc (.cells #[.int .i64 i.op, .int .i64 i.d, .int .i64 i.e, .int .i64 i.a, .int .i64 i.b, .int .i64 i.c, .int .i32 i.imm, .slice A n k] 40) = W1 := ⟨_, rfl⟩
    have hbW1 : Below w.heap.size w W1 := by rw [← hW1]; exact (Below.refl _ _).alloc (Nat.le_refl _) _
    have hsW1 : Str W1 w.heap.size 40 [.int .i64 i.op, .int .i64 i.d, .int .i64 i.e, .int .i64 i.a, .int .i64 i.b, .int .i64 i.c, .int .i32 i.imm, .slice A n k] := by rw [← hW1]; exact World.alloc_heap_new w _
    rw [hW1]
    clear hW1
    have m0 : W1.cell? ⟨w.heap.size, 0, none⟩ = some (.int .i64 i.op) := hsW1.cell 0
    have m6 : W1.cell? ⟨w.heap.size, 6, none⟩ = some (.int .i32 i.imm) := hsW1.cell 6
    have HB1 := Lib.hid hbW1
    clear hsW1 hbW1
    go_wp2_with fail
    refine (Go.Proofs.YtonheiaohgbbcaaGreat.Wd.fits_any i.imm 16 HI.out W1).mono ?_
    rintro e' w3 ⟨rfl, rfl⟩
    rw [← HW.out]
    go_wp2_with fail
    go_ret
    exact ⟨rfl, HB1.out⟩
  have g3 : (i.op == 3) = false := beq_eq_false_iff_ne.2 h3
  by_cases h18 : i.op = 18
  · have g18 : (i.op == 18) = true := beq_iff_eq.2 h18
    have HW := Lib.hid (show fitsM i.op i.imm = fitB i.imm 8 by unfold fitsM; rw [if_neg (by omega), if_pos (by omega)])
    clear h18
    go_enter Tryz.func114, Tryz.ntmps114
    go_upto_region 1 with (fail)
    obtain ⟨W1, hW1⟩ : ∃ W1, w.alloc (.cells #[.int .i64 i.op, .int .i64 i.d, .int .i64 i.e, .int .i64 i.a, .int .i64 i.b, .int .i64 i.c, .int .i32 i.imm, .slice A n k] 40) = W1 := ⟨_, rfl⟩
    have hbW1 : Below w.heap.size w W1 := by rw [← hW1]; exact (Below.refl _ _).alloc (Nat.le_refl _) _
    have hsW1 : Str W1 w.heap.size 40 [.int .i64 i.op, .int .i64 i.d, .int .i64 i.e, .int .i64 i.a, .int .i64 i.b, .int .i64 i.c, .int .i32 i.imm, .slice A n k] := by rw [← hW1]; exact World.alloc_heap_new w _
    rw [hW1]
    clear hW1
    have m0 : W1.cell? ⟨w.heap.size, 0, none⟩ = some (.int .i64 i.op) := hsW1.cell 0
    have m6 : W1.cell? ⟨w.heap.size, 6, none⟩ = some (.int .i32 i.imm) := hsW1.cell 6
    have HB1 := Lib.hid hbW1
    clear hsW1 hbW1
    go_wp2_with fail
    refine (Go.Proofs.YtonheiaohgbbcaaGreat.Wd.fits_any i.imm 8 HI.out W1).mono ?_
    rintro e' w3 ⟨rfl, rfl⟩
    rw [← HW.out]
    go_wp2_with fail
    go_ret
    exact ⟨rfl, HB1.out⟩
  have g18 : (i.op == 18) = false := beq_eq_false_iff_ne.2 h18
  by_cases h19 : i.op = 19
  · have g19 : (i.op == 19) = true := beq_iff_eq.2 h19
    have HW := Lib.hid (show fitsM i.op i.imm = fitB i.imm 8 by unfold fitsM; rw [if_neg (by omega), if_neg (by omega), if_pos (by omega)])
    clear h19
    go_enter Tryz.func114, Tryz.ntmps114
    go_upto_region 1 with (fail)
    obtain ⟨W1, hW1⟩ : ∃ W1, w.alloc (.cells #[.int .i64 i.op, .int .i64 i.d, .int .i64 i.e, .int .i64 i.a, .int .i64 i.b, .int .i64 i.c, .int .i32 i.imm, .slice A n k] 40) = W1 := ⟨_, rfl⟩
    have hbW1 : Below w.heap.size w W1 := by rw [← hW1]; exact (Below.refl _ _).alloc (Nat.le_refl _) _
    have hsW1 : Str W1 w.heap.size 40 [.int .i64 i.op, .int .i64 i.d, .int .i64 i.e, .int .i64 i.a, .int .i64 i.b, .int .i64 i.c, .int .i32 i.imm, .slice A n k] := by rw [← hW1]; exact World.alloc_heap_new w _
    rw [hW1]
    clear hW1
    have m0 : W1.cell? ⟨w.heap.size, 0, none⟩ = some (.int .i64 i.op) := hsW1.cell 0
    have m6 : W1.cell? ⟨w.heap.size, 6, none⟩ = some (.int .i32 i.imm) := hsW1.cell 6
    have HB1 := Lib.hid hbW1
    clear hsW1 hbW1
    go_wp2_with fail
    refine (Go.Proofs.YtonheiaohgbbcaaGreat.Wd.fits_any i.imm 8 HI.out W1).mono ?_
    rintro e' w3 ⟨rfl, rfl⟩
    rw [← HW.out]
    go_wp2_with fail
    go_ret
    exact ⟨rfl, HB1.out⟩
  have g19 : (i.op == 19) = false := beq_eq_false_iff_ne.2 h19
  by_cases h20 : i.op = 20
  · have g20 : (i.op == 20) = true := beq_iff_eq.2 h20
    by_cases r0 : 0 ≤ i.imm
    · by_cases r1 : i.imm ≤ 31
      · have HW := Lib.hid (show fitsM i.op i.imm = true by unfold fitsM; rw [if_neg (by omega), if_neg (by omega), if_neg (by omega), if_pos (by omega)]; rw [decide_eq_true r0, decide_eq_true r1]; rfl)
        clear h20
        go_enter Tryz.func114, Tryz.ntmps114
        go_upto_region 1 with (fail)
        obtain ⟨W1, hW1⟩ : ∃ W1, w.alloc (.cells #[.int .i64 i.op, .int .i64 i.d, .int .i64 i.e, .int .i64 i.a, .int .i64 i.b, .int .i64 i.c, .int .i32 i.imm, .slice A n k] 40) = W1 := ⟨_, rfl⟩
        have hbW1 : Below w.heap.size w W1 := by rw [← hW1]; exact (Below.refl _ _).alloc (Nat.le_refl _) _
        have hsW1 : Str W1 w.heap.size 40 [.int .i64 i.op, .int .i64 i.d, .int .i64 i.e, .int .i64 i.a, .int .i64 i.b, .int .i64 i.c, .int .i32 i.imm, .slice A n k] := by rw [← hW1]; exact World.alloc_heap_new w _
        rw [hW1]
        clear hW1
        have m0 : W1.cell? ⟨w.heap.size, 0, none⟩ = some (.int .i64 i.op) := hsW1.cell 0
        have m6 : W1.cell? ⟨w.heap.size, 6, none⟩ = some (.int .i32 i.imm) := hsW1.cell 6
        have HB1 := Lib.hid hbW1
        clear hsW1 hbW1
        go_wp2_with fail
        go_ret
        exact ⟨ret_bool HW.out.symm, HB1.out⟩
      · have HW := Lib.hid (show fitsM i.op i.imm = false by unfold fitsM; rw [if_neg (by omega), if_neg (by omega), if_neg (by omega), if_pos (by omega)]; rw [decide_eq_false r1, Bool.and_false])
        have r1 : 31 < i.imm := by omega
        clear h20
        go_enter Tryz.func114, Tryz.ntmps114
        go_upto_region 1 with (fail)
        obtain ⟨W1, hW1⟩ : ∃ W1, w.alloc (.cells #[.int .i64 i.op, .int .i64 i.d, .int .i64 i.e, .int .i64 i.a, .int .i64 i.b, .int .i64 i.c, .int .i32 i.imm, .slice A n k] 40) = W1 := ⟨_, rfl⟩
        have hbW1 : Below w.heap.size w W1 := by rw [← hW1]; exact (Below.refl _ _).alloc (Nat.le_refl _) _
        have hsW1 : Str W1 w.heap.size 40 [.int .i64 i.op, .int .i64 i.d, .int .i64 i.e, .int .i64 i.a, .int .i64 i.b, .int .i64 i.c, .int .i32 i.imm, .slice A n k] := by rw [← hW1]; exact World.alloc_heap_new w _
        rw [hW1]
        clear hW1
        have m0 : W1.cell? ⟨w.heap.size, 0, none⟩ = some (.int .i64 i.op) := hsW1.cell 0
        have m6 : W1.cell? ⟨w.heap.size, 6, none⟩ = some (.int .i32 i.imm) := hsW1.cell 6
        have HB1 := Lib.hid hbW1
        clear hsW1 hbW1
        go_wp2_with fail
        go_ret
        exact ⟨ret_bool HW.out.symm, HB1.out⟩
    · have HW := Lib.hid (show fitsM i.op i.imm = false by unfold fitsM; rw [if_neg (by omega), if_neg (by omega), if_neg (by omega), if_pos (by omega)]; rw [decide_eq_false r0]; rfl)
      have r0 : i.imm < 0 := by omega
      clear h20
      go_enter Tryz.func114, Tryz.ntmps114
      go_upto_region 1 with (fail)
      obtain ⟨W1, hW1⟩ : ∃ W1, w.alloc (.cells #[.int .i64 i.op, .int .i64 i.d, .int .i64 i.e, .int .i64 i.a, .int .i64 i.b, .int .i64 i.c, .int .i32 i.imm, .slice A n k] 40) = W1 := ⟨_, rfl⟩
      have hbW1 : Below w.heap.size w W1 := by rw [← hW1]; exact (Below.refl _ _).alloc (Nat.le_refl _) _
      have hsW1 : Str W1 w.heap.size 40 [.int .i64 i.op, .int .i64 i.d, .int .i64 i.e, .int .i64 i.a, .int .i64 i.b, .int .i64 i.c, .int .i32 i.imm, .slice A n k] := by rw [← hW1]; exact World.alloc_heap_new w _
      rw [hW1]
      clear hW1
      have m0 : W1.cell? ⟨w.heap.size, 0, none⟩ = some (.int .i64 i.op) := hsW1.cell 0
      have m6 : W1.cell? ⟨w.heap.size, 6, none⟩ = some (.int .i32 i.imm) := hsW1.cell 6
      have HB1 := Lib.hid hbW1
      clear hsW1 hbW1
      go_wp2_with fail
      go_ret
      exact ⟨ret_bool HW.out.symm, HB1.out⟩
  have g20 : (i.op == 20) = false := beq_eq_false_iff_ne.2 h20
  by_cases h21 : i.op = 21
  · have g21 : (i.op == 21) = true := beq_iff_eq.2 h21
    by_cases r0 : 0 ≤ i.imm
    · by_cases r1 : i.imm ≤ 31
      · have HW := Lib.hid (show fitsM i.op i.imm = true by unfold fitsM; rw [if_neg (by omega), if_neg (by omega), if_neg (by omega), if_pos (by omega)]; rw [decide_eq_true r0, decide_eq_true r1]; rfl)
        clear h21
        go_enter Tryz.func114, Tryz.ntmps114
        go_upto_region 1 with (fail)
        obtain ⟨W1, hW1⟩ : ∃ W1, w.alloc (.cells #[.int .i64 i.op, .int .i64 i.d, .int .i64 i.e, .int .i64 i.a, .int .i64 i.b, .int .i64 i.c, .int .i32 i.imm, .slice A n k] 40) = W1 := ⟨_, rfl⟩
        have hbW1 : Below w.heap.size w W1 := by rw [← hW1]; exact (Below.refl _ _).alloc (Nat.le_refl _) _
        have hsW1 : Str W1 w.heap.size 40 [.int .i64 i.op, .int .i64 i.d, .int .i64 i.e, .int .i64 i.a, .int .i64 i.b, .int .i64 i.c, .int .i32 i.imm, .slice A n k] := by rw [← hW1]; exact World.alloc_heap_new w _
        rw [hW1]
        clear hW1
        have m0 : W1.cell? ⟨w.heap.size, 0, none⟩ = some (.int .i64 i.op) := hsW1.cell 0
        have m6 : W1.cell? ⟨w.heap.size, 6, none⟩ = some (.int .i32 i.imm) := hsW1.cell 6
        have HB1 := Lib.hid hbW1
        clear hsW1 hbW1
        go_wp2_with fail
        go_ret
        exact ⟨ret_bool HW.out.symm, HB1.out⟩
      · have HW := Lib.hid (show fitsM i.op i.imm = false by unfold fitsM; rw [if_neg (by omega), if_neg (by omega), if_neg (by omega), if_pos (by omega)]; rw [decide_eq_false r1, Bool.and_false])
        have r1 : 31 < i.imm := by omega
        clear h21
        go_enter Tryz.func114, Tryz.ntmps114
        go_upto_region 1 with (fail)
        obtain ⟨W1, hW1⟩ : ∃ W1, w.alloc (.cells #[.int .i64 i.op, .int .i64 i.d, .int .i64 i.e, .int .i64 i.a, .int .i64 i.b, .int .i64 i.c, .int .i32 i.imm, .slice A n k] 40) = W1 := ⟨_, rfl⟩
        have hbW1 : Below w.heap.size w W1 := by rw [← hW1]; exact (Below.refl _ _).alloc (Nat.le_refl _) _
        have hsW1 : Str W1 w.heap.size 40 [.int .i64 i.op, .int .i64 i.d, .int .i64 i.e, .int .i64 i.a, .int .i64 i.b, .int .i64 i.c, .int .i32 i.imm, .slice A n k] := by rw [← hW1]; exact World.alloc_heap_new w _
        rw [hW1]
        clear hW1
        have m0 : W1.cell? ⟨w.heap.size, 0, none⟩ = some (.int .i64 i.op) := hsW1.cell 0
        have m6 : W1.cell? ⟨w.heap.size, 6, none⟩ = some (.int .i32 i.imm) := hsW1.cell 6
        have HB1 := Lib.hid hbW1
        clear hsW1 hbW1
        go_wp2_with fail
        go_ret
        exact ⟨ret_bool HW.out.symm, HB1.out⟩
    · have HW := Lib.hid (show fitsM i.op i.imm = false by unfold fitsM; rw [if_neg (by omega), if_neg (by omega), if_neg (by omega), if_pos (by omega)]; rw [decide_eq_false r0]; rfl)
      have r0 : i.imm < 0 := by omega
      clear h21
      go_enter Tryz.func114, Tryz.ntmps114
      go_upto_region 1 with (fail)
      obtain ⟨W1, hW1⟩ : ∃ W1, w.alloc (.cells #[.int .i64 i.op, .int .i64 i.d, .int .i64 i.e, .int .i64 i.a, .int .i64 i.b, .int .i64 i.c, .int .i32 i.imm, .slice A n k] 40) = W1 := ⟨_, rfl⟩
      have hbW1 : Below w.heap.size w W1 := by rw [← hW1]; exact (Below.refl _ _).alloc (Nat.le_refl _) _
      have hsW1 : Str W1 w.heap.size 40 [.int .i64 i.op, .int .i64 i.d, .int .i64 i.e, .int .i64 i.a, .int .i64 i.b, .int .i64 i.c, .int .i32 i.imm, .slice A n k] := by rw [← hW1]; exact World.alloc_heap_new w _
      rw [hW1]
      clear hW1
      have m0 : W1.cell? ⟨w.heap.size, 0, none⟩ = some (.int .i64 i.op) := hsW1.cell 0
      have m6 : W1.cell? ⟨w.heap.size, 6, none⟩ = some (.int .i32 i.imm) := hsW1.cell 6
      have HB1 := Lib.hid hbW1
      clear hsW1 hbW1
      go_wp2_with fail
      go_ret
      exact ⟨ret_bool HW.out.symm, HB1.out⟩
  have g21 : (i.op == 21) = false := beq_eq_false_iff_ne.2 h21
  by_cases h22 : i.op = 22
  · have g22 : (i.op == 22) = true := beq_iff_eq.2 h22
    by_cases r0 : 0 ≤ i.imm
    · by_cases r1 : i.imm ≤ 31
      · have HW := Lib.hid (show fitsM i.op i.imm = true by unfold fitsM; rw [if_neg (by omega), if_neg (by omega), if_neg (by omega), if_pos (by omega)]; rw [decide_eq_true r0, decide_eq_true r1]; rfl)
        clear h22
        go_enter Tryz.func114, Tryz.ntmps114
        go_upto_region 1 with (fail)
        obtain ⟨W1, hW1⟩ : ∃ W1, w.alloc (.cells #[.int .i64 i.op, .int .i64 i.d, .int .i64 i.e, .int .i64 i.a, .int .i64 i.b, .int .i64 i.c, .int .i32 i.imm, .slice A n k] 40) = W1 := ⟨_, rfl⟩
        have hbW1 : Below w.heap.size w W1 := by rw [← hW1]; exact (Below.refl _ _).alloc (Nat.le_refl _) _
        have hsW1 : Str W1 w.heap.size 40 [.int .i64 i.op, .int .i64 i.d, .int .i64 i.e, .int .i64 i.a, .int .i64 i.b, .int .i64 i.c, .int .i32 i.imm, .slice A n k] := by rw [← hW1]; exact World.alloc_heap_new w _
        rw [hW1]
        clear hW1
        have m0 : W1.cell? ⟨w.heap.size, 0, none⟩ = some (.int .i64 i.op) := hsW1.cell 0
        have m6 : W1.cell? ⟨w.heap.size, 6, none⟩ = some (.int .i32 i.imm) := hsW1.cell 6
        have HB1 := Lib.hid hbW1
        clear hsW1 hbW1
        go_wp2_with fail
        go_ret
        exact ⟨ret_bool HW.out.symm, HB1.out⟩
      · have HW := Lib.hid (show fitsM i.op i.imm = false by unfold fitsM; rw [if_neg (by omega), if_neg (by omega), if_neg (by omega), if_pos (by omega)]; rw [decide_eq_false r1, Bool.and_false])
        have r1 : 31 < i.imm := by omega
        clear h22
        go_enter Tryz.func114, Tryz.ntmps114
        go_upto_region 1 with (fail)
        obtain ⟨W1, hW1⟩ : ∃ W1, w.alloc (.cells #[.int .i64 i.op, .int .i64 i.d, .int .i64 i.e, .int .i64 i.a, .int .i64 i.b, .int .i64 i.c, .int .i32 i.imm, .slice A n k] 40) = W1 := ⟨_, rfl⟩
        have hbW1 : Below w.heap.size w W1 := by rw [← hW1]; exact (Below.refl _ _).alloc (Nat.le_refl _) _
        have hsW1 : Str W1 w.heap.size 40 [.int .i64 i.op, .int .i64 i.d, .int .i64 i.e, .int .i64 i.a, .int .i64 i.b, .int .i64 i.c, .int .i32 i.imm, .slice A n k] := by rw [← hW1]; exact World.alloc_heap_new w _
        rw [hW1]
        clear hW1
        have m0 : W1.cell? ⟨w.heap.size, 0, none⟩ = some (.int .i64 i.op) := hsW1.cell 0
        have m6 : W1.cell? ⟨w.heap.size, 6, none⟩ = some (.int .i32 i.imm) := hsW1.cell 6
        have HB1 := Lib.hid hbW1
        clear hsW1 hbW1
        go_wp2_with fail
        go_ret
        exact ⟨ret_bool HW.out.symm, HB1.out⟩
    · have HW := Lib.hid (show fitsM i.op i.imm = false by unfold fitsM; rw [if_neg (by omega), if_neg (by omega), if_neg (by omega), if_pos (by omega)]; rw [decide_eq_false r0]; rfl)
      have r0 : i.imm < 0 := by omega
      clear h22
      go_enter Tryz.func114, Tryz.ntmps114
      go_upto_region 1 with (fail)
      obtain ⟨W1, hW1⟩ : ∃ W1, w.alloc (.cells #[.int .i64 i.op, .int .i64 i.d, .int .i64 i.e, .int .i64 i.a, .int .i64 i.b, .int .i64 i.c, .int .i32 i.imm, .slice A n k] 40) = W1 := ⟨_, rfl⟩
      have hbW1 : Below w.heap.size w W1 := by rw [← hW1]; exact (Below.refl _ _).alloc (Nat.le_refl _) _
      have hsW1 : Str W1 w.heap.size 40 [.int .i64 i.op, .int .i64 i.d, .int .i64 i.e, .int .i64 i.a, .int .i64 i.b, .int .i64 i.c, .int .i32 i.imm, .slice A n k] := by rw [← hW1]; exact World.alloc_heap_new w _
      rw [hW1]
      clear hW1
      have m0 : W1.cell? ⟨w.heap.size, 0, none⟩ = some (.int .i64 i.op) := hsW1.cell 0
      have m6 : W1.cell? ⟨w.heap.size, 6, none⟩ = some (.int .i32 i.imm) := hsW1.cell 6
      have HB1 := Lib.hid hbW1
      clear hsW1 hbW1
      go_wp2_with fail
      go_ret
      exact ⟨ret_bool HW.out.symm, HB1.out⟩
  have g22 : (i.op == 22) = false := beq_eq_false_iff_ne.2 h22
  by_cases h24 : i.op = 24
  · have g24 : (i.op == 24) = true := beq_iff_eq.2 h24
    by_cases r0 : 0 ≤ i.imm
    · by_cases r1 : i.imm ≤ 255
      · have HW := Lib.hid (show fitsM i.op i.imm = true by unfold fitsM; rw [if_neg (by omega), if_neg (by omega), if_neg (by omega), if_neg (by omega), if_pos (by omega)]; rw [decide_eq_true r0, decide_eq_true r1]; rfl)
        clear h24
        go_enter Tryz.func114, Tryz.ntmps114
        go_upto_region 1 with (fail)
        obtain ⟨W1, hW1⟩ : ∃ W1, w.alloc (.cells #[.int .i64 i.op, .int .i64 i.d, .int .i64 i.e, .int .i64 i.a, .int .i64 i.b, .int .i64 i.c, .int .i32 i.imm, .slice A n k] 40) = W1 := ⟨_, rfl⟩
        have hbW1 : Below w.heap.size w W1 := by rw [← hW1]; exact (Below.refl _ _).alloc (Nat.le_refl _) _
        have hsW1 : Str W1 w.heap.size 40 [.int .i64 i.op, .int .i64 i.d, .int .i64 i.e, .int .i64 i.a, .int .i64 i.b, .int .i64 i.c, .int .i32 i.imm, .slice A n k] := by rw [← hW1]; exact World.alloc_heap_new w _
        rw [hW1]
        clear hW1
        have m0 : W1.cell? ⟨w.heap.size, 0, none⟩ = some (.int .i64 i.op) := hsW1.cell 0
        have m6 : W1.cell? ⟨w.heap.size, 6, none⟩ = some (.int .i32 i.imm) := hsW1.cell 6
        have HB1 := Lib.hid hbW1
        clear hsW1 hbW1
        go_wp2_with fail
        go_ret
        exact ⟨ret_bool HW.out.symm, HB1.out⟩
      · have HW := Lib.hid (show fitsM i.op i.imm = false by unfold fitsM; rw [if_neg (by omega), if_neg (by omega), if_neg (by omega), if_neg (by omega), if_pos (by omega)]; rw [decide_eq_false r1, Bool.and_false])
        have r1 : 255 < i.imm := by omega
        clear h24
        go_enter Tryz.func114, Tryz.ntmps114
        go_upto_region 1 with (fail)
        obtain ⟨W1, hW1⟩ : ∃ W1, w.alloc (.cells #[.int .i64 i.op, .int .i64 i.d, .int .i64 i.e, .int .i64 i.a, .int .i64 i.b, .int .i64 i.c, .int .i32 i.imm, .slice A n k] 40) = W1 := ⟨_, rfl⟩
        have hbW1 : Below w.heap.size w W1 := by rw [← hW1]; exact (Below.refl _ _).alloc (Nat.le_refl _) _
        have hsW1 : Str W1 w.heap.size 40 [.int .i64 i.op, .int .i64 i.d, .int .i64 i.e, .int .i64 i.a, .int .i64 i.b, .int .i64 i.c, .int .i32 i.imm, .slice A n k] := by rw [← hW1]; exact World.alloc_heap_new w _
        rw [hW1]
        clear hW1
        have m0 : W1.cell? ⟨w.heap.size, 0, none⟩ = some (.int .i64 i.op) := hsW1.cell 0
        have m6 : W1.cell? ⟨w.heap.size, 6, none⟩ = some (.int .i32 i.imm) := hsW1.cell 6
        have HB1 := Lib.hid hbW1
        clear hsW1 hbW1
        go_wp2_with fail
        go_ret
        exact ⟨ret_bool HW.out.symm, HB1.out⟩
    · have HW := Lib.hid (show fitsM i.op i.imm = false by unfold fitsM; rw [if_neg (by omega), if_neg (by omega), if_neg (by omega), if_neg (by omega), if_pos (by omega)]; rw [decide_eq_false r0]; rfl)
      have r0 : i.imm < 0 := by omega
      clear h24
      go_enter Tryz.func114, Tryz.ntmps114
      go_upto_region 1 with (fail)
      obtain ⟨W1, hW1⟩ : ∃ W1, w.alloc (.cells #[.int .i64 i.op, .int .i64 i.d, .int .i64 i.e, .int .i64 i.a, .int .i64 i.b, .int .i64 i.c, .int .i32 i.imm, .slice A n k] 40) = W1 := ⟨_, rfl⟩
      have hbW1 : Below w.heap.size w W1 := by rw [← hW1]; exact (Below.refl _ _).alloc (Nat.le_refl _) _
      have hsW1 : Str W1 w.heap.size 40 [.int .i64 i.op, .int .i64 i.d, .int .i64 i.e, .int .i64 i.a, .int .i64 i.b, .int .i64 i.c, .int .i32 i.imm, .slice A n k] := by rw [← hW1]; exact World.alloc_heap_new w _
      rw [hW1]
      clear hW1
      have m0 : W1.cell? ⟨w.heap.size, 0, none⟩ = some (.int .i64 i.op) := hsW1.cell 0
      have m6 : W1.cell? ⟨w.heap.size, 6, none⟩ = some (.int .i32 i.imm) := hsW1.cell 6
      have HB1 := Lib.hid hbW1
      clear hsW1 hbW1
      go_wp2_with fail
      go_ret
      exact ⟨ret_bool HW.out.symm, HB1.out⟩
  have g24 : (i.op == 24) = false := beq_eq_false_iff_ne.2 h24
  by_cases h26 : i.op = 26
  · have g26 : (i.op == 26) = true := beq_iff_eq.2 h26
    by_cases r0 : 0 ≤ i.imm
    · by_cases r1 : i.imm ≤ 255
      · have HW := Lib.hid (show fitsM i.op i.imm = true by unfold fitsM; rw [if_neg (by omega), if_neg (by omega), if_neg (by omega), if_neg (by omega), if_neg (by omega), if_pos (by omega)]; rw [decide_eq_true r0, decide_eq_true r1]; rfl)
        clear h26
        go_enter Tryz.func114, Tryz.ntmps114
        go_upto_region 1 with (fail)
        obtain ⟨W1, hW1⟩ : ∃ W1, w.alloc (.cells #[.int .i64 i.op, .int .i64 i.d, .int .i64 i.e, .int .i64 i.a, .int .i64 i.b, .int .i64 i.c, .int .i32 i.imm, .slice A n k] 40) = W1 := ⟨_, rfl⟩
        have hbW1 : Below w.heap.size w W1 := by rw [← hW1]; exact (Below.refl _ _).alloc (Nat.le_refl _) _
        have hsW1 : Str W1 w.heap.size 40 [.int .i64 i.op, .int .i64 i.d, .int .i64 i.e, .int .i64 i.a, .int .i64 i.b, .int .i64 i.c, .int .i32 i.imm, .slice A n k] := by rw [← hW1]; exact World.alloc_heap_new w _
        rw [hW1]
        clear hW1
        have m0 : W1.cell? ⟨w.heap.size, 0, none⟩ = some (.int .i64 i.op) := hsW1.cell 0
        have m6 : W1.cell? ⟨w.heap.size, 6, none⟩ = some (.int .i32 i.imm) := hsW1.cell 6
        have HB1 := Lib.hid hbW1
        clear hsW1 hbW1
        go_wp2_with fail
        go_ret
        exact ⟨ret_bool HW.out.symm, HB1.out⟩
      · have HW := Lib.hid (show fitsM i.op i.imm = false by unfold fitsM; rw [if_neg (by omega), if_neg (by omega), if_neg (by omega), if_neg (by omega), if_neg (by omega), if_pos (by omega)]; rw [decide_eq_false r1, Bool.and_false])
        have r1 : 255 < i.imm := by omega
        clear h26
        go_enter Tryz.func114, Tryz.ntmps114
        go_upto_region 1 with (fail)
        obtain ⟨W1, hW1⟩ : ∃ W1, w.alloc (.cells #[.int .i64 i.op, .int .i64 i.d, .int .i64 i.e, .int .i64 i.a, .int .i64 i.b, .int .i64 i.c, .int .i32 i.imm, .slice A n k] 40) = W1 := ⟨_, rfl⟩
        have hbW1 : Below w.heap.size w W1 := by rw [← hW1]; exact (Below.refl _ _).alloc (Nat.le_refl _) _
        have hsW1 : Str W1 w.heap.size 40 [.int .i64 i.op, .int .i64 i.d, .int .i64 i.e, .int .i64 i.a, .int .i64 i.b, .int .i64 i.c, .int .i32 i.imm, .slice A n k] := by rw [← hW1]; exact World.alloc_heap_new w _
        rw [hW1]
        clear hW1
        have m0 : W1.cell? ⟨w.heap.size, 0, none⟩ = some (.int .i64 i.op) := hsW1.cell 0
        have m6 : W1.cell? ⟨w.heap.size, 6, none⟩ = some (.int .i32 i.imm) := hsW1.cell 6
        have HB1 := Lib.hid hbW1
        clear hsW1 hbW1
        go_wp2_with fail
        go_ret
        exact ⟨ret_bool HW.out.symm, HB1.out⟩
    · have HW := Lib.hid (show fitsM i.op i.imm = false by unfold fitsM; rw [if_neg (by omega), if_neg (by omega), if_neg (by omega), if_neg (by omega), if_neg (by omega), if_pos (by omega)]; rw [decide_eq_false r0]; rfl)
      have r0 : i.imm < 0 := by omega
      clear h26
      go_enter Tryz.func114, Tryz.ntmps114
      go_upto_region 1 with (fail)
      obtain ⟨W1, hW1⟩ : ∃ W1, w.alloc (.cells #[.int .i64 i.op, .int .i64 i.d, .int .i64 i.e, .int .i64 i.a, .int .i64 i.b, .int .i64 i.c, .int .i32 i.imm, .slice A n k] 40) = W1 := ⟨_, rfl⟩
      have hbW1 : Below w.heap.size w W1 := by rw [← hW1]; exact (Below.refl _ _).alloc (Nat.le_refl _) _
      have hsW1 : Str W1 w.heap.size 40 [.int .i64 i.op, .int .i64 i.d, .int .i64 i.e, .int .i64 i.a, .int .i64 i.b, .int .i64 i.c, .int .i32 i.imm, .slice A n k] := by rw [← hW1]; exact World.alloc_heap_new w _
      rw [hW1]
      clear hW1
      have m0 : W1.cell? ⟨w.heap.size, 0, none⟩ = some (.int .i64 i.op) := hsW1.cell 0
      have m6 : W1.cell? ⟨w.heap.size, 6, none⟩ = some (.int .i32 i.imm) := hsW1.cell 6
      have HB1 := Lib.hid hbW1
      clear hsW1 hbW1
      go_wp2_with fail
      go_ret
      exact ⟨ret_bool HW.out.symm, HB1.out⟩
  have g26 : (i.op == 26) = false := beq_eq_false_iff_ne.2 h26
  have HW := Lib.hid (show fitsM i.op i.imm = true by unfold fitsM; rw [if_neg (by omega), if_neg (by omega), if_neg (by omega), if_neg (by omega), if_neg (by omega), if_neg (by omega)])
  go_enter Tryz.func114, Tryz.ntmps114
  go_upto_region 1 with (fail)
  obtain ⟨W1, hW1⟩ : ∃ W1, w.alloc (.cells #[.int .i64 i.op, .int .i64 i.d, .int .i64 i.e, .int .i64 i.a, .int .i64 i.b, .int .i64 i.c, .int .i32 i.imm, .slice A n k] 40) = W1 := ⟨_, rfl⟩
  have hbW1 : Below w.heap.size w W1 := by rw [← hW1]; exact (Below.refl _ _).alloc (Nat.le_refl _) _
  have hsW1 : Str W1 w.heap.size 40 [.int .i64 i.op, .int .i64 i.d, .int .i64 i.e, .int .i64 i.a, .int .i64 i.b, .int .i64 i.c, .int .i32 i.imm, .slice A n k] := by rw [← hW1]; exact World.alloc_heap_new w _
  rw [hW1]
  clear hW1
  have m0 : W1.cell? ⟨w.heap.size, 0, none⟩ = some (.int .i64 i.op) := hsW1.cell 0
  have m6 : W1.cell? ⟨w.heap.size, 6, none⟩ = some (.int .i32 i.imm) := hsW1.cell 6
  have HB1 := Lib.hid hbW1
  clear hsW1 hbW1
  go_wp2_with fail
  go_ret
  exact ⟨ret_bool HW.out.symm, HB1.out⟩
set_option maxRecDepth 100000 in
set_option maxHeartbeats 4000000 in
theorem instruction_any (w : World) (i : PMach) (A : Option Addr) (n k : Nat) (hi : InW i.imm) (hv : Ints w (.slice A n k) i.args) (hl : i.args.length ≤ 1000000) :
    Calls Tryz.prog 91 #[.agg #[.int .i64 i.op, .int .i64 i.d, .int .i64 i.e, .int .i64 i.a, .int .i64 i.b, .int .i64 i.c, .int .i32 i.imm, .slice A n k]] w fun en w' => en = .returned (.int .i64 (insM i)) ∧ Below w.heap.size w w' := by
  have HI := Lib.hid hi
  have HV := Lib.hid hv
  have HN := Lib.hid (show n = i.args.length from by obtain ⟨_, _, e, _⟩ := hv; injection e)
  clear hi hv
  cases cv : virtB i.op with
  | false =>
    have CV := Lib.hid cv
    clear cv
    go_enter Tryz.func91, Tryz.ntmps91
    go_upto_region 1 with (fail)
    obtain ⟨W1, hW1⟩ : ∃ W1, w.alloc (.cells #[.int .i64 i.op, .int .i64 i.d, .int .i64 i.e, .int .i64 i.a, .int .i64 i.b, .int .i64 i.c, .int .i32 i.imm, .slice A n k] 40) = W1 := ⟨_, rfl⟩
    have hbW1 : Below w.heap.size w W1 := by rw [← hW1]; exact (Below.refl _ _).alloc (Nat.le_refl _) _
    have hsW1 : Str W1 w.heap.size 40 [.int .i64 i.op, .int .i64 i.d, .int .i64 i.e, .int .i64 i.a, .int .i64 i.b, .int .i64 i.c, .int .i32 i.imm, .slice A n k] := by rw [← hW1]; exact World.alloc_heap_new w _
    rw [hW1]
    clear hW1
    have HS1 := Lib.hid hsW1
    have m0 : W1.cell? ⟨w.heap.size, 0, none⟩ = some (.int .i64 i.op) := hsW1.cell 0
    have m1 : W1.cell? ⟨w.heap.size, 1, none⟩ = some (.int .i64 i.d) := hsW1.cell 1
    have m2 : W1.cell? ⟨w.heap.size, 2, none⟩ = some (.int .i64 i.e) := hsW1.cell 2
    have m3 : W1.cell? ⟨w.heap.size, 3, none⟩ = some (.int .i64 i.a) := hsW1.cell 3
    have m4 : W1.cell? ⟨w.heap.size, 4, none⟩ = some (.int .i64 i.b) := hsW1.cell 4
    have m5 : W1.cell? ⟨w.heap.size, 5, none⟩ = some (.int .i64 i.c) := hsW1.cell 5
    have m6 : W1.cell? ⟨w.heap.size, 6, none⟩ = some (.int .i32 i.imm) := hsW1.cell 6
    have m7 : W1.cell? ⟨w.heap.size, 7, none⟩ = some (.slice A n k) := hsW1.cell 7
    have HB1 := Lib.hid hbW1
    have HV1 := Lib.hid (HV.out.keep hbW1)
    clear hsW1 hbW1
    go_wp2_with fail
    refine (virt_any i.op W1).mono ?_
    rintro e' w2 ⟨rfl, rfl⟩
    rw [CV.out]
    go_wp2_with fail
    go_ret
    refine ⟨?_, HB1.out⟩
    rw [show insM i = 30 by unfold insM; rw [CV.out]; rfl]
    first | done | rfl
  | true =>
    have CV := Lib.hid cv
    clear cv
    cases co : (i.op == 28) with
    | false =>
      have CO := Lib.hid co
      have co : (i.op == 28) = false := CO.out
      go_enter Tryz.func91, Tryz.ntmps91
      go_upto_region 1 with (fail)
      obtain ⟨W1, hW1⟩ : ∃ W1, w.alloc (.cells #[.int .i64 i.op, .int .i64 i.d, .int .i64 i.e, .int .i64 i.a, .int .i64 i.b, .int .i64 i.c, .int .i32 i.imm, .slice A n k] 40) = W1 := ⟨_, rfl⟩
      have hbW1 : Below w.heap.size w W1 := by rw [← hW1]; exact (Below.refl _ _).alloc (Nat.le_refl _) _
      have hsW1 : Str W1 w.heap.size 40 [.int .i64 i.op, .int .i64 i.d, .int .i64 i.e, .int .i64 i.a, .int .i64 i.b, .int .i64 i.c, .int .i32 i.imm, .slice A n k] := by rw [← hW1]; exact World.alloc_heap_new w _
      rw [hW1]
      clear hW1
      have HS1 := Lib.hid hsW1
      have m0 : W1.cell? ⟨w.heap.size, 0, none⟩ = some (.int .i64 i.op) := hsW1.cell 0
      have m1 : W1.cell? ⟨w.heap.size, 1, none⟩ = some (.int .i64 i.d) := hsW1.cell 1
      have m2 : W1.cell? ⟨w.heap.size, 2, none⟩ = some (.int .i64 i.e) := hsW1.cell 2
      have m3 : W1.cell? ⟨w.heap.size, 3, none⟩ = some (.int .i64 i.a) := hsW1.cell 3
      have m4 : W1.cell? ⟨w.heap.size, 4, none⟩ = some (.int .i64 i.b) := hsW1.cell 4
      have m5 : W1.cell? ⟨w.heap.size, 5, none⟩ = some (.int .i64 i.c) := hsW1.cell 5
      have m6 : W1.cell? ⟨w.heap.size, 6, none⟩ = some (.int .i32 i.imm) := hsW1.cell 6
      have m7 : W1.cell? ⟨w.heap.size, 7, none⟩ = some (.slice A n k) := hsW1.cell 7
      have HB1 := Lib.hid hbW1
      have HV1 := Lib.hid (HV.out.keep hbW1)
      clear hsW1 hbW1
      go_wp2_with fail
      refine (virt_any i.op W1).mono ?_
      rintro e' w2 ⟨rfl, rfl⟩
      rw [CV.out]
      go_wp2_with fail
      refine (makes_any w2 i A n k).mono ?_
      rintro e' w3 ⟨v3, rfl, ho3, hb3⟩
      have m0 : w3.cell? ⟨w.heap.size, 0, none⟩ = some (.int .i64 i.op) := cell_keep hb3 (Nat.le_refl _) m0
      have m1 : w3.cell? ⟨w.heap.size, 1, none⟩ = some (.int .i64 i.d) := cell_keep hb3 (Nat.le_refl _) m1
      have m2 : w3.cell? ⟨w.heap.size, 2, none⟩ = some (.int .i64 i.e) := cell_keep hb3 (Nat.le_refl _) m2
      have m3 : w3.cell? ⟨w.heap.size, 3, none⟩ = some (.int .i64 i.a) := cell_keep hb3 (Nat.le_refl _) m3
      have m4 : w3.cell? ⟨w.heap.size, 4, none⟩ = some (.int .i64 i.b) := cell_keep hb3 (Nat.le_refl _) m4
      have m5 : w3.cell? ⟨w.heap.size, 5, none⟩ = some (.int .i64 i.c) := cell_keep hb3 (Nat.le_refl _) m5
      have m6 : w3.cell? ⟨w.heap.size, 6, none⟩ = some (.int .i32 i.imm) := cell_keep hb3 (Nat.le_refl _) m6
      have m7 : w3.cell? ⟨w.heap.size, 7, none⟩ = some (.slice A n k) := cell_keep hb3 (Nat.le_refl _) m7
      have HB3 := Lib.hid (HB1.out.trans (hb3.mono HB1.out.size))
      have HV3 := Lib.hid (HV1.out.keep hb3)
      have HO3 := Lib.hid (OwnInts.ints ho3)
      obtain ⟨A3, c3, rfl⟩ := own_form ho3
      clear hb3 ho3
      go_wp2_with fail
      refine (regs_any w3 _ _ HO3.out).mono ?_
      rintro e' w4 ⟨rfl, rfl⟩
      cases c4 : (makesL i).all regB with
      | false =>
        have C4 := Lib.hid c4
        clear c4
        go_wp2_with fail
        go_ret
        refine ⟨?_, HB3.out⟩
        rw [show insM i = 31 by unfold insM; rw [CV.out, CO.out]; rw [C4.out]; rfl]
        first | done | rfl
      | true =>
        have C4 := Lib.hid c4
        clear c4
        go_wp2_with fail
        refine (takes_any w4 i A n k HV3.out hl).mono ?_
        rintro e' w5 ⟨v5, rfl, ho5, hb5⟩
        have m0 : w5.cell? ⟨w.heap.size, 0, none⟩ = some (.int .i64 i.op) := cell_keep hb5 (Nat.le_refl _) m0
        have m1 : w5.cell? ⟨w.heap.size, 1, none⟩ = some (.int .i64 i.d) := cell_keep hb5 (Nat.le_refl _) m1
        have m2 : w5.cell? ⟨w.heap.size, 2, none⟩ = some (.int .i64 i.e) := cell_keep hb5 (Nat.le_refl _) m2
        have m3 : w5.cell? ⟨w.heap.size, 3, none⟩ = some (.int .i64 i.a) := cell_keep hb5 (Nat.le_refl _) m3
        have m4 : w5.cell? ⟨w.heap.size, 4, none⟩ = some (.int .i64 i.b) := cell_keep hb5 (Nat.le_refl _) m4
        have m5 : w5.cell? ⟨w.heap.size, 5, none⟩ = some (.int .i64 i.c) := cell_keep hb5 (Nat.le_refl _) m5
        have m6 : w5.cell? ⟨w.heap.size, 6, none⟩ = some (.int .i32 i.imm) := cell_keep hb5 (Nat.le_refl _) m6
        have m7 : w5.cell? ⟨w.heap.size, 7, none⟩ = some (.slice A n k) := cell_keep hb5 (Nat.le_refl _) m7
        have HB5 := Lib.hid (HB3.out.trans (hb5.mono HB3.out.size))
        have HO5 := Lib.hid (OwnInts.ints ho5)
        obtain ⟨A5, c5, rfl⟩ := own_form ho5
        clear hb5 ho5
        go_wp2_with fail
        refine (regs_any w5 _ _ HO5.out).mono ?_
        rintro e' w6 ⟨rfl, rfl⟩
        cases c6 : (takesL i).all regB with
        | false =>
          have C6 := Lib.hid c6
          clear c6
          go_wp2_with fail
          go_ret
          refine ⟨?_, HB5.out⟩
          rw [show insM i = 31 by unfold insM; rw [CV.out, CO.out]; rw [C4.out, C6.out]; rfl]
          first | done | rfl
        | true =>
          have C6 := Lib.hid c6
          clear c6
          cases g29 : (i.op == 29) with
          | false =>
            have C29 := Lib.hid g29
            go_wp2_with fail
            refine (mfits_any w6 i A n k HI.out).mono ?_
            rintro e' w6 ⟨rfl, hb6⟩
            have HB6 := Lib.hid (HB5.out.trans (hb6.mono HB5.out.size))
            clear hb6
            cases cf : fitsM i.op i.imm with
            | true =>
              have CF := Lib.hid cf
              clear cf
              go_wp2_with fail
              go_ret
              refine ⟨?_, HB6.out⟩
              rw [show insM i = 0 by unfold insM; rw [CV.out, CO.out]; rw [C4.out, C6.out]; rw [C29.out]; rw [CF.out]; rfl]
              first | done | rfl
            | false =>
              have CF := Lib.hid cf
              clear cf
              go_wp2_with fail
              go_ret
              refine ⟨?_, HB6.out⟩
              rw [show insM i = 32 by unfold insM; rw [CV.out, CO.out]; rw [C4.out, C6.out]; rw [C29.out]; rw [CF.out]; rfl]
              first | done | rfl
          | true =>
            have C29 := Lib.hid g29
            cases ged : (i.e == i.d) with
            | true =>
              have CED := Lib.hid ged
              go_wp2_with fail
              go_ret
              refine ⟨?_, HB5.out⟩
              rw [show insM i = 12 by unfold insM; rw [CV.out, CO.out]; rw [C4.out, C6.out]; rw [C29.out, CED.out]; rfl]
              first | done | rfl
            | false =>
              have CED := Lib.hid ged
              go_wp2_with fail
              refine (mfits_any w6 i A n k HI.out).mono ?_
              rintro e' w6 ⟨rfl, hb6⟩
              have HB6 := Lib.hid (HB5.out.trans (hb6.mono HB5.out.size))
              clear hb6
              cases cf : fitsM i.op i.imm with
              | true =>
                have CF := Lib.hid cf
                clear cf
                go_wp2_with fail
                go_ret
                refine ⟨?_, HB6.out⟩
                rw [show insM i = 0 by unfold insM; rw [CV.out, CO.out]; rw [C4.out, C6.out]; rw [C29.out, CED.out]; rw [CF.out]; rfl]
                first | done | rfl
              | false =>
                have CF := Lib.hid cf
                clear cf
                go_wp2_with fail
                go_ret
                refine ⟨?_, HB6.out⟩
                rw [show insM i = 32 by unfold insM; rw [CV.out, CO.out]; rw [C4.out, C6.out]; rw [C29.out, CED.out]; rw [CF.out]; rfl]
                first | done | rfl
    | true =>
      have CO := Lib.hid co
      have co : (i.op == 28) = true := CO.out
      by_cases h4 : 4 < (n : Int)
      · have C5 := Lib.hid (show decide (4 < (i.args.length : Int)) = true from decide_eq_true (by rw [← HN.out]; exact h4))
        go_enter Tryz.func91, Tryz.ntmps91
        go_upto_region 1 with (fail)
        obtain ⟨W1, hW1⟩ : ∃ W1, w.alloc (.cells #[.int .i64 i.op, .int .i64 i.d, .int .i64 i.e, .int .i64 i.a, .int .i64 i.b, .int .i64 i.c, .int .i32 i.imm, .slice A n k] 40) = W1 := ⟨_, rfl⟩
        have hbW1 : Below w.heap.size w W1 := by rw [← hW1]; exact (Below.refl _ _).alloc (Nat.le_refl _) _
        have hsW1 : Str W1 w.heap.size 40 [.int .i64 i.op, .int .i64 i.d, .int .i64 i.e, .int .i64 i.a, .int .i64 i.b, .int .i64 i.c, .int .i32 i.imm, .slice A n k] := by rw [← hW1]; exact World.alloc_heap_new w _
        rw [hW1]
        clear hW1
        have HS1 := Lib.hid hsW1
        have m0 : W1.cell? ⟨w.heap.size, 0, none⟩ = some (.int .i64 i.op) := hsW1.cell 0
        have m1 : W1.cell? ⟨w.heap.size, 1, none⟩ = some (.int .i64 i.d) := hsW1.cell 1
        have m2 : W1.cell? ⟨w.heap.size, 2, none⟩ = some (.int .i64 i.e) := hsW1.cell 2
        have m3 : W1.cell? ⟨w.heap.size, 3, none⟩ = some (.int .i64 i.a) := hsW1.cell 3
        have m4 : W1.cell? ⟨w.heap.size, 4, none⟩ = some (.int .i64 i.b) := hsW1.cell 4
        have m5 : W1.cell? ⟨w.heap.size, 5, none⟩ = some (.int .i64 i.c) := hsW1.cell 5
        have m6 : W1.cell? ⟨w.heap.size, 6, none⟩ = some (.int .i32 i.imm) := hsW1.cell 6
        have m7 : W1.cell? ⟨w.heap.size, 7, none⟩ = some (.slice A n k) := hsW1.cell 7
        have HB1 := Lib.hid hbW1
        have HV1 := Lib.hid (HV.out.keep hbW1)
        clear hsW1 hbW1
        go_wp2_with fail
        refine (virt_any i.op W1).mono ?_
        rintro e' w2 ⟨rfl, rfl⟩
        rw [CV.out]
        go_wp2_with fail
        go_ret
        refine ⟨?_, HB1.out⟩
        rw [show insM i = 30 by unfold insM; rw [CV.out, CO.out, C5.out]; rfl]
        first | done | rfl
      · have C5 := Lib.hid (show decide (4 < (i.args.length : Int)) = false from decide_eq_false (by rw [← HN.out]; exact h4))
        have h4 : (n : Int) ≤ 4 := by omega
        go_enter Tryz.func91, Tryz.ntmps91
        go_upto_region 1 with (fail)
        obtain ⟨W1, hW1⟩ : ∃ W1, w.alloc (.cells #[.int .i64 i.op, .int .i64 i.d, .int .i64 i.e, .int .i64 i.a, .int .i64 i.b, .int .i64 i.c, .int .i32 i.imm, .slice A n k] 40) = W1 := ⟨_, rfl⟩
        have hbW1 : Below w.heap.size w W1 := by rw [← hW1]; exact (Below.refl _ _).alloc (Nat.le_refl _) _
        have hsW1 : Str W1 w.heap.size 40 [.int .i64 i.op, .int .i64 i.d, .int .i64 i.e, .int .i64 i.a, .int .i64 i.b, .int .i64 i.c, .int .i32 i.imm, .slice A n k] := by rw [← hW1]; exact World.alloc_heap_new w _
        rw [hW1]
        clear hW1
        have HS1 := Lib.hid hsW1
        have m0 : W1.cell? ⟨w.heap.size, 0, none⟩ = some (.int .i64 i.op) := hsW1.cell 0
        have m1 : W1.cell? ⟨w.heap.size, 1, none⟩ = some (.int .i64 i.d) := hsW1.cell 1
        have m2 : W1.cell? ⟨w.heap.size, 2, none⟩ = some (.int .i64 i.e) := hsW1.cell 2
        have m3 : W1.cell? ⟨w.heap.size, 3, none⟩ = some (.int .i64 i.a) := hsW1.cell 3
        have m4 : W1.cell? ⟨w.heap.size, 4, none⟩ = some (.int .i64 i.b) := hsW1.cell 4
        have m5 : W1.cell? ⟨w.heap.size, 5, none⟩ = some (.int .i64 i.c) := hsW1.cell 5
        have m6 : W1.cell? ⟨w.heap.size, 6, none⟩ = some (.int .i32 i.imm) := hsW1.cell 6
        have m7 : W1.cell? ⟨w.heap.size, 7, none⟩ = some (.slice A n k) := hsW1.cell 7
        have HB1 := Lib.hid hbW1
        have HV1 := Lib.hid (HV.out.keep hbW1)
        clear hsW1 hbW1
        go_wp2_with fail
        refine (virt_any i.op W1).mono ?_
        rintro e' w2 ⟨rfl, rfl⟩
        rw [CV.out]
        go_wp2_with fail
        refine (makes_any w2 i A n k).mono ?_
        rintro e' w3 ⟨v3, rfl, ho3, hb3⟩
        have m0 : w3.cell? ⟨w.heap.size, 0, none⟩ = some (.int .i64 i.op) := cell_keep hb3 (Nat.le_refl _) m0
        have m1 : w3.cell? ⟨w.heap.size, 1, none⟩ = some (.int .i64 i.d) := cell_keep hb3 (Nat.le_refl _) m1
        have m2 : w3.cell? ⟨w.heap.size, 2, none⟩ = some (.int .i64 i.e) := cell_keep hb3 (Nat.le_refl _) m2
        have m3 : w3.cell? ⟨w.heap.size, 3, none⟩ = some (.int .i64 i.a) := cell_keep hb3 (Nat.le_refl _) m3
        have m4 : w3.cell? ⟨w.heap.size, 4, none⟩ = some (.int .i64 i.b) := cell_keep hb3 (Nat.le_refl _) m4
        have m5 : w3.cell? ⟨w.heap.size, 5, none⟩ = some (.int .i64 i.c) := cell_keep hb3 (Nat.le_refl _) m5
        have m6 : w3.cell? ⟨w.heap.size, 6, none⟩ = some (.int .i32 i.imm) := cell_keep hb3 (Nat.le_refl _) m6
        have m7 : w3.cell? ⟨w.heap.size, 7, none⟩ = some (.slice A n k) := cell_keep hb3 (Nat.le_refl _) m7
        have HB3 := Lib.hid (HB1.out.trans (hb3.mono HB1.out.size))
        have HV3 := Lib.hid (HV1.out.keep hb3)
        have HO3 := Lib.hid (OwnInts.ints ho3)
        obtain ⟨A3, c3, rfl⟩ := own_form ho3
        clear hb3 ho3
        go_wp2_with fail
        refine (regs_any w3 _ _ HO3.out).mono ?_
        rintro e' w4 ⟨rfl, rfl⟩
        cases c4 : (makesL i).all regB with
        | false =>
          have C4 := Lib.hid c4
          clear c4
          go_wp2_with fail
          go_ret
          refine ⟨?_, HB3.out⟩
          rw [show insM i = 31 by unfold insM; rw [CV.out, CO.out, C5.out]; rw [C4.out]; rfl]
          first | done | rfl
        | true =>
          have C4 := Lib.hid c4
          clear c4
          go_wp2_with fail
          refine (takes_any w4 i A n k HV3.out hl).mono ?_
          rintro e' w5 ⟨v5, rfl, ho5, hb5⟩
          have m0 : w5.cell? ⟨w.heap.size, 0, none⟩ = some (.int .i64 i.op) := cell_keep hb5 (Nat.le_refl _) m0
          have m1 : w5.cell? ⟨w.heap.size, 1, none⟩ = some (.int .i64 i.d) := cell_keep hb5 (Nat.le_refl _) m1
          have m2 : w5.cell? ⟨w.heap.size, 2, none⟩ = some (.int .i64 i.e) := cell_keep hb5 (Nat.le_refl _) m2
          have m3 : w5.cell? ⟨w.heap.size, 3, none⟩ = some (.int .i64 i.a) := cell_keep hb5 (Nat.le_refl _) m3
          have m4 : w5.cell? ⟨w.heap.size, 4, none⟩ = some (.int .i64 i.b) := cell_keep hb5 (Nat.le_refl _) m4
          have m5 : w5.cell? ⟨w.heap.size, 5, none⟩ = some (.int .i64 i.c) := cell_keep hb5 (Nat.le_refl _) m5
          have m6 : w5.cell? ⟨w.heap.size, 6, none⟩ = some (.int .i32 i.imm) := cell_keep hb5 (Nat.le_refl _) m6
          have m7 : w5.cell? ⟨w.heap.size, 7, none⟩ = some (.slice A n k) := cell_keep hb5 (Nat.le_refl _) m7
          have HB5 := Lib.hid (HB3.out.trans (hb5.mono HB3.out.size))
          have HO5 := Lib.hid (OwnInts.ints ho5)
          obtain ⟨A5, c5, rfl⟩ := own_form ho5
          clear hb5 ho5
          go_wp2_with fail
          refine (regs_any w5 _ _ HO5.out).mono ?_
          rintro e' w6 ⟨rfl, rfl⟩
          cases c6 : (takesL i).all regB with
          | false =>
            have C6 := Lib.hid c6
            clear c6
            go_wp2_with fail
            go_ret
            refine ⟨?_, HB5.out⟩
            rw [show insM i = 31 by unfold insM; rw [CV.out, CO.out, C5.out]; rw [C4.out, C6.out]; rfl]
            first | done | rfl
          | true =>
            have C6 := Lib.hid c6
            clear c6
            have g29 : (i.op == 29) = false := by rw [beq_iff_eq.1 CO.out]; rfl
            go_wp2_with fail
            refine (mfits_any w6 i A n k HI.out).mono ?_
            rintro e' w6 ⟨rfl, hb6⟩
            have HB6 := Lib.hid (HB5.out.trans (hb6.mono HB5.out.size))
            clear hb6
            cases cf : fitsM i.op i.imm with
            | true =>
              have CF := Lib.hid cf
              clear cf
              go_wp2_with fail
              go_ret
              refine ⟨?_, HB6.out⟩
              rw [show insM i = 0 by unfold insM; rw [CV.out, CO.out, C5.out]; rw [C4.out, C6.out]; rw [show (i.op == 29) = false by rw [beq_iff_eq.1 CO.out]; rfl]; rw [CF.out]; rfl]
              first | done | rfl
            | false =>
              have CF := Lib.hid cf
              clear cf
              go_wp2_with fail
              go_ret
              refine ⟨?_, HB6.out⟩
              rw [show insM i = 32 by unfold insM; rw [CV.out, CO.out, C5.out]; rw [C4.out, C6.out]; rw [show (i.op == 29) = false by rw [beq_iff_eq.1 CO.out]; rfl]; rw [CF.out]; rfl]
              first | done | rfl
end Go.Proofs.YtonheiaohgbbcaaGreat.Mc
