/- Stage 12: the reference's Ins. -/
import Derived.Test.YtdidacjmcafcpaaQG
namespace Go.Proofs.Ytdidacjmcafcpaa.Ph
open Go.ChangeShapes Go.WideShapes Go.ChangeAt Go.RowKit Go.Proofs.Ytdidacjmcafcpaa.Mem Go.Proofs.Ytdidacjmcafcpaa.Kc Go.Proofs.Ytdidacjmcafcpaa.Pl Go.Proofs.Ytdidacjmcafcpaa.Mw Go.Proofs.Ytdidacjmcafcpaa.Mc Go.Proofs.Ytdidacjmcafcpaa.Br Go.Proofs.Ytdidacjmcafcpaa.Gr
set_option linter.unusedVariables false
set_option linter.unusedSimpArgs false
attribute [local go_sem] Oper.semAt_some
theorem regs_app (r : Int) (a b : List Int) : regsB r (a ++ b) = (regsB r a && regsB r b) := by unfold regsB; rw [List.any_append]; cases a.any (badR r) <;> cases b.any (badR r) <;> rfl
theorem named_regs (i : PMach) (r : Int) : regsB r (namedQ i) = (regsB r (makesL i) && regsB r (takesL i)) := by
  unfold namedQ
  by_cases h1 : i.op = 30
  · rw [if_pos h1, show makesL i = [i.d] by unfold makesL; rw [h1]; rfl, show takesL i = [] by unfold takesL; rw [h1]; rfl]
    exact (Bool.and_true _).symm
  · by_cases h2 : i.op = 31
    · rw [if_neg h1, if_pos h2, show makesL i = [] by unfold makesL; rw [h2]; rfl, show takesL i = [i.a] by unfold takesL; rw [h2]; rfl]
      exact (Bool.true_and _).symm
    · rw [if_neg h1, if_neg h2, show takesQ i = takesL i by unfold takesQ; rw [if_neg h1], show makesQ i = makesL i by unfold makesQ; rw [if_neg h2], regs_app, Bool.and_comm]
theorem own_capQ {w : World} {B : Nat} {A : Option Addr} {m c : Nat} {l : List Int} (h : OwnInts B w (.slice A m c) l) : l.length ≤ c ∧ c ≤ maxLen := by
  obtain ⟨A', c', e, h1, h2, _⟩ := OwnInts.ints h
  injection e with e1 e2 e3
  subst e3
  exact ⟨h1, h2⟩
set_option maxRecDepth 100000 in
set_option maxHeartbeats 8000000 in
theorem insR_any (w : World) (i : PMach) (A : Option Addr) (k : Nat) (r sl : Int) (hv : Ints w (.slice A i.args.length k) i.args) (hl : i.args.length ≤ 900000) (hw : InW i.imm) : Calls Try.prog 18 #[.agg #[.int .i64 i.op, .int .i64 i.d, .int .i64 i.e, .int .i64 i.a, .int .i64 i.b, .int .i64 i.c, .int .i32 i.imm, .slice A i.args.length k], .int .i64 r, .int .i64 sl] w fun en w' => en = .returned (.int .i64 (insQ i r sl)) ∧ Below w.heap.size w w' := by
  have hw1 := hw.1
  have hw2 := hw.2
  obtain ⟨W1, hW1⟩ : ∃ W1, w.alloc (.cells #[.int .i64 i.op, .int .i64 i.d, .int .i64 i.e, .int .i64 i.a, .int .i64 i.b, .int .i64 i.c, .int .i32 i.imm, .slice A i.args.length k] 24) = W1 := ⟨_, rfl⟩
  have hb1 : Below w.heap.size w W1 := by rw [← hW1]; exact (Below.refl _ _).alloc (Nat.le_refl _) _
  have hs1 : Str W1 w.heap.size 24 [.int .i64 i.op, .int .i64 i.d, .int .i64 i.e, .int .i64 i.a, .int .i64 i.b, .int .i64 i.c, .int .i32 i.imm, .slice A i.args.length k] := by rw [← hW1]; exact World.alloc_heap_new w _
  have HB1 := Lib.hid hb1
  have HS1 := Lib.hid hs1
  have m0 : W1.cell? ⟨w.heap.size, 0, none⟩ = some (.int .i64 i.op) := hs1.cell 0
  have m1 : W1.cell? ⟨w.heap.size, 1, none⟩ = some (.int .i64 i.d) := hs1.cell 1
  have m2 : W1.cell? ⟨w.heap.size, 2, none⟩ = some (.int .i64 i.e) := hs1.cell 2
  have m3 : W1.cell? ⟨w.heap.size, 3, none⟩ = some (.int .i64 i.a) := hs1.cell 3
  have m4 : W1.cell? ⟨w.heap.size, 4, none⟩ = some (.int .i64 i.b) := hs1.cell 4
  have m5 : W1.cell? ⟨w.heap.size, 5, none⟩ = some (.int .i64 i.c) := hs1.cell 5
  have m6 : W1.cell? ⟨w.heap.size, 6, none⟩ = some (.int .i32 i.imm) := hs1.cell 6
  have m7 : W1.cell? ⟨w.heap.size, 7, none⟩ = some (.slice A i.args.length k) := hs1.cell 7
  clear hb1 hs1
  have HV := Lib.hid (ints_low hv HB1.out)
  clear hv
  by_cases hlo : i.op < 1
  · have C1 := Lib.hid (show okI i = false by unfold okI; rw [if_neg (by omega), if_neg (by omega), decide_eq_false (by omega)]; rfl)
    have HE := Lib.hid (show insQ i r sl = 30 by unfold insQ; rw [if_pos C1.out])
    go_enter Try.func18, Try.ntmps18
    go_wp2
    go_ret
    exact ⟨ret_num HE.out.symm, HB1.out⟩
  · by_cases hhi : 31 < i.op
    · have C1 := Lib.hid (show okI i = false by unfold okI; rw [if_neg (by omega), if_neg (by omega), decide_eq_false (show ¬ i.op ≤ 31 by omega), Bool.and_false])
      have HE := Lib.hid (show insQ i r sl = 30 by unfold insQ; rw [if_pos C1.out])
      go_enter Try.func18, Try.ntmps18
      go_wp2
      go_ret
      exact ⟨ret_num HE.out.symm, HB1.out⟩
    · by_cases h28 : i.op = 28
      · have e28 : (i.op == 28) = true := beq_iff_eq.2 h28
        have e29 : (i.op == 29) = false := beq_eq_false_iff_ne.2 (by omega)
        have HF := Lib.hid (show okI i = (decide ((i.args.length : Int) ≤ 4) && (i.d == 0) && inOrderB i.args) by unfold okI; rw [if_pos h28])
        clear h28
        by_cases h4 : (i.args.length : Int) ≤ 4
        · cases hd : i.d == 0 with
          | true =>
            have hd2 : (i.d != 0) = false := by simpa using hd
            have HF2 := Lib.hid (show okI i = inOrderB i.args by rw [HF.out, decide_eq_true h4, hd]; rfl)
            go_enter Try.func18, Try.ntmps18
            go_wp2_with fail
            clear hW1
            go_loopw [7] (fun jv wr => ∃ j : Nat, j ≤ i.args.length ∧ jv = .int .i64 j ∧ (∀ q (hq : q < i.args.length), q < j → i.args[q] = (q : Int)) ∧ wr = W1) (fun jv _ => i.args.length - (intOf jv).toNat)
            case atStart => exact ⟨0, Nat.zero_le _, rfl, fun q _ hq => absurd hq (by omega), rfl⟩
            case round =>
              obtain ⟨j, hj, rfl, hall, hw9⟩ := hrel
              obtain rfl : W1 = wr := hw9.symm
              have HAL := Lib.hid hall
              clear hall
              by_cases hlt : j < i.args.length
              · obtain ⟨A', c', e, -, -, hcc⟩ := HV.out
                injection e with e1 e2 e3
                subst e1 e3
                obtain ⟨ad, rfl, hz⟩ := hcc j hlt
                have HNn := Lib.hid (fun h => inorder_no hlt h)
                have HYy := Lib.hid (show i.args[j] = (j : Int) → ∀ q (hq : q < i.args.length), q < j + 1 → i.args[q] = (q : Int) from fun e q hq h => by
                  by_cases e2 : q = j
                  · subst e2; exact e
                  · exact HAL.out q hq (by omega))
                have hj1 : j + 1 ≤ i.args.length := hlt
                clear hcc
                generalize i.args[j] = y at *
                by_cases hy : y = (j : Int)
                · have HR := Lib.hid (HYy.out hy)
                  have hne : (y != (j : Int)) = false := by rw [hy]; simp
                  clear hy HNn HYy
                  go_wp2_with fail
                  exact ⟨⟨j + 1, hj1, by go_num, HR.out, trivial⟩, by simp [intOf]; omega⟩
                · have C1 := Lib.hid (show okI i = false by rw [HF2.out]; exact HNn.out hy)
                  have hne : (y != (j : Int)) = true := by simpa using hy
                  clear hy HNn HYy
                  have HE := Lib.hid (show insQ i r sl = 30 by unfold insQ; rw [if_pos C1.out])
                  go_wp2
                  go_ret
                  exact ⟨ret_num HE.out.symm, HB1.out⟩
              · obtain rfl : j = i.args.length := by omega
                have C1 := Lib.hid (show okI i = true by rw [HF2.out]; exact inorder_yes fun q hq => HAL.out q hq hq)
                clear HAL
                go_wp2_with fail
                refine (registers_any W1 i A i.args.length k hw HV.out hl).mono ?_
                rintro e w2 ⟨v2, rfl, ho, hb⟩
                have HB2 := Lib.hid (HB1.out.trans (hb.mono HB1.out.size))
                have HO2 := Lib.hid (OwnInts.ints ho)
                have m0 : w2.cell? ⟨w.heap.size, 0, none⟩ = some (.int .i64 i.op) := cell_keep hb (Nat.le_refl _) m0
                have m1 : w2.cell? ⟨w.heap.size, 1, none⟩ = some (.int .i64 i.d) := cell_keep hb (Nat.le_refl _) m1
                have m2 : w2.cell? ⟨w.heap.size, 2, none⟩ = some (.int .i64 i.e) := cell_keep hb (Nat.le_refl _) m2
                have m3 : w2.cell? ⟨w.heap.size, 3, none⟩ = some (.int .i64 i.a) := cell_keep hb (Nat.le_refl _) m3
                have m4 : w2.cell? ⟨w.heap.size, 4, none⟩ = some (.int .i64 i.b) := cell_keep hb (Nat.le_refl _) m4
                have m5 : w2.cell? ⟨w.heap.size, 5, none⟩ = some (.int .i64 i.c) := cell_keep hb (Nat.le_refl _) m5
                have m6 : w2.cell? ⟨w.heap.size, 6, none⟩ = some (.int .i32 i.imm) := cell_keep hb (Nat.le_refl _) m6
                have m7 : w2.cell? ⟨w.heap.size, 7, none⟩ = some (.slice A i.args.length k) := cell_keep hb (Nat.le_refl _) m7
                obtain ⟨LA, lc, rfl⟩ := own_form ho
                have HNR := Lib.hid (named_regs i r)
                have hcap := own_capQ ho
                unfold maxLen at hcap
                generalize namedQ i = nl at *
                clear hb ho
                go_wp2_with fail
                go_loopw [9] (fun jv wr => ∃ j : Nat, j ≤ nl.length ∧ jv = .int .i64 j ∧ (nl.take j).any (badR r) = false ∧ wr = w2) (fun jv _ => nl.length - (intOf jv).toNat)
                case atStart => exact ⟨0, Nat.zero_le _, rfl, rfl, rfl⟩
                case round =>
                  obtain ⟨j, hj, rfl, hno, hw9⟩ := hrel
                  obtain rfl : w2 = wr := hw9.symm
                  have HNO := Lib.hid hno
                  clear hno
                  by_cases hlt : j < nl.length
                  · obtain ⟨A', c', e, -, -, hcc⟩ := HO2.out
                    injection e with e1 e2 e3
                    subst e1 e3
                    obtain ⟨ad, rfl, hz⟩ := hcc j hlt
                    have HT := Lib.hid (any_step hlt HNO.out)
                    have HY := Lib.hid (fun h => any_yes (q := badR r) hlt h)
                    have hj1 : j + 1 ≤ nl.length := hlt
                    clear hcc
                    generalize nl[j] = y at *
                    have HBR := Lib.hid (show badR r y = (decide (y < 0) || decide (r ≤ y)) from rfl)
                    by_cases g1 : y < 0
                    · have HR := Lib.hid (show (regsB r (makesL i) && regsB r (takesL i)) = false by rw [← HNR.out]; unfold regsB; rw [HY.out (by rw [HBR.out, decide_eq_true g1]; rfl)]; rfl)
                      have HE := Lib.hid (show insQ i r sl = 31 by unfold insQ; rw [if_neg (by rw [C1.out]; simp), if_pos HR.out])
                      go_wp2
                      go_ret
                      exact ⟨ret_num HE.out.symm, HB2.out⟩
                    · by_cases g2 : r ≤ y
                      · have HR := Lib.hid (show (regsB r (makesL i) && regsB r (takesL i)) = false by rw [← HNR.out]; unfold regsB; rw [HY.out (by rw [HBR.out, decide_eq_true g2, Bool.or_true])]; rfl)
                        have HE := Lib.hid (show insQ i r sl = 31 by unfold insQ; rw [if_neg (by rw [C1.out]; simp), if_pos HR.out])
                        go_wp2
                        go_ret
                        exact ⟨ret_num HE.out.symm, HB2.out⟩
                      · have HR := Lib.hid (show (nl.take (j + 1)).any (badR r) = false by rw [HT.out, HBR.out, decide_eq_false g1, decide_eq_false g2]; rfl)
                        go_wp2_with fail
                        exact ⟨⟨j + 1, hj1, by go_num, HR.out, trivial⟩, by simp [intOf]; omega⟩
                  · obtain rfl : j = nl.length := by omega
                    have C2 := Lib.hid (show (regsB r (makesL i) && regsB r (takesL i)) = true by
                      rw [← HNR.out]; unfold regsB
                      have h := HNO.out
                      rw [List.take_length] at h
                      rw [h]; rfl)
                    clear HNO HNR
                    by_cases h30q : i.op = 30
                    · have e30 : (i.op == 30) = true := beq_iff_eq.2 h30q
                      have CS := Lib.hid (show (i.op == 30 || i.op == 31) = true by rw [e30]; rfl)
                      by_cases g1 : i.imm < 0
                      · have C4 := Lib.hid (show ((i.op == 30 || i.op == 31) && (decide (i.imm < 0) || decide (sl ≤ i.imm))) = true by rw [CS.out, decide_eq_true g1]; rfl)
                        clear h30q
                        have HE := Lib.hid (show insQ i r sl = 43 by unfold insQ; rw [if_neg (by rw [C1.out]; simp), if_neg (by rw [C2.out]; simp), if_pos C4.out])
                        go_wp2
                        go_ret
                        exact ⟨ret_num HE.out.symm, HB2.out⟩
                      · by_cases g2 : sl ≤ i.imm
                        · have C4 := Lib.hid (show ((i.op == 30 || i.op == 31) && (decide (i.imm < 0) || decide (sl ≤ i.imm))) = true by rw [CS.out, decide_eq_true g2, Bool.or_true]; rfl)
                          clear h30q
                          have HE := Lib.hid (show insQ i r sl = 43 by unfold insQ; rw [if_neg (by rw [C1.out]; simp), if_neg (by rw [C2.out]; simp), if_pos C4.out])
                          go_wp2
                          go_ret
                          exact ⟨ret_num HE.out.symm, HB2.out⟩
                        · have C4 := Lib.hid (show ((i.op == 30 || i.op == 31) && (decide (i.imm < 0) || decide (sl ≤ i.imm))) = false by rw [decide_eq_false g1, decide_eq_false g2]; simp)
                          have e3 : (i.op == 3) = false := beq_eq_false_iff_ne.2 (by omega)
                          have e18 : (i.op == 18) = false := beq_eq_false_iff_ne.2 (by omega)
                          have e19 : (i.op == 19) = false := beq_eq_false_iff_ne.2 (by omega)
                          have e20 : (i.op == 20) = false := beq_eq_false_iff_ne.2 (by omega)
                          have e21 : (i.op == 21) = false := beq_eq_false_iff_ne.2 (by omega)
                          have e22 : (i.op == 22) = false := beq_eq_false_iff_ne.2 (by omega)
                          have e24 : (i.op == 24) = false := beq_eq_false_iff_ne.2 (by omega)
                          have e26 : (i.op == 26) = false := beq_eq_false_iff_ne.2 (by omega)
                          have HF := Lib.hid (show fitsI i = true by unfold fitsI loI hiI; rw [if_neg (by omega), if_neg (by omega), if_neg (by omega), if_neg (by omega), if_neg (by omega), if_neg (by omega), if_neg (by omega), if_neg (by omega), decide_eq_true (by omega), decide_eq_true (by omega)]; rfl)
                          clear h30q
                          have HE := Lib.hid (show insQ i r sl = 0 by unfold insQ; rw [if_neg (by rw [C1.out]; simp), if_neg (by rw [C2.out]; simp), if_neg (by rw [C4.out]; simp), if_neg (by rw [HF.out]; simp)])
                          go_wp2
                          go_ret
                          exact ⟨ret_num HE.out.symm, HB2.out⟩
                    · have e30 : (i.op == 30) = false := beq_eq_false_iff_ne.2 h30q
                      clear h30q
                      by_cases h30q : i.op = 31
                      · have e31 : (i.op == 31) = true := beq_iff_eq.2 h30q
                        have CS := Lib.hid (show (i.op == 30 || i.op == 31) = true by rw [e31, Bool.or_true])
                        by_cases g1 : i.imm < 0
                        · have C4 := Lib.hid (show ((i.op == 30 || i.op == 31) && (decide (i.imm < 0) || decide (sl ≤ i.imm))) = true by rw [CS.out, decide_eq_true g1]; rfl)
                          clear h30q
                          have HE := Lib.hid (show insQ i r sl = 43 by unfold insQ; rw [if_neg (by rw [C1.out]; simp), if_neg (by rw [C2.out]; simp), if_pos C4.out])
                          go_wp2
                          go_ret
                          exact ⟨ret_num HE.out.symm, HB2.out⟩
                        · by_cases g2 : sl ≤ i.imm
                          · have C4 := Lib.hid (show ((i.op == 30 || i.op == 31) && (decide (i.imm < 0) || decide (sl ≤ i.imm))) = true by rw [CS.out, decide_eq_true g2, Bool.or_true]; rfl)
                            clear h30q
                            have HE := Lib.hid (show insQ i r sl = 43 by unfold insQ; rw [if_neg (by rw [C1.out]; simp), if_neg (by rw [C2.out]; simp), if_pos C4.out])
                            go_wp2
                            go_ret
                            exact ⟨ret_num HE.out.symm, HB2.out⟩
                          · have C4 := Lib.hid (show ((i.op == 30 || i.op == 31) && (decide (i.imm < 0) || decide (sl ≤ i.imm))) = false by rw [decide_eq_false g1, decide_eq_false g2]; simp)
                            have e3 : (i.op == 3) = false := beq_eq_false_iff_ne.2 (by omega)
                            have e18 : (i.op == 18) = false := beq_eq_false_iff_ne.2 (by omega)
                            have e19 : (i.op == 19) = false := beq_eq_false_iff_ne.2 (by omega)
                            have e20 : (i.op == 20) = false := beq_eq_false_iff_ne.2 (by omega)
                            have e21 : (i.op == 21) = false := beq_eq_false_iff_ne.2 (by omega)
                            have e22 : (i.op == 22) = false := beq_eq_false_iff_ne.2 (by omega)
                            have e24 : (i.op == 24) = false := beq_eq_false_iff_ne.2 (by omega)
                            have e26 : (i.op == 26) = false := beq_eq_false_iff_ne.2 (by omega)
                            have HF := Lib.hid (show fitsI i = true by unfold fitsI loI hiI; rw [if_neg (by omega), if_neg (by omega), if_neg (by omega), if_neg (by omega), if_neg (by omega), if_neg (by omega), if_neg (by omega), if_neg (by omega), decide_eq_true (by omega), decide_eq_true (by omega)]; rfl)
                            clear h30q
                            have HE := Lib.hid (show insQ i r sl = 0 by unfold insQ; rw [if_neg (by rw [C1.out]; simp), if_neg (by rw [C2.out]; simp), if_neg (by rw [C4.out]; simp), if_neg (by rw [HF.out]; simp)])
                            go_wp2
                            go_ret
                            exact ⟨ret_num HE.out.symm, HB2.out⟩
                      · have e31 : (i.op == 31) = false := beq_eq_false_iff_ne.2 h30q
                        clear h30q
                        have C4 := Lib.hid (show ((i.op == 30 || i.op == 31) && (decide (i.imm < 0) || decide (sl ≤ i.imm))) = false by rw [e30, e31]; rfl)
                        by_cases h3 : i.op = 3
                        · have e3 : (i.op == 3) = true := beq_iff_eq.2 h3
                          have HF := Lib.hid (show fitsI i = (decide (-32768 ≤ i.imm) && decide (i.imm ≤ 32767)) by unfold fitsI loI hiI; rw [if_pos (by omega), if_pos (by omega)])
                          clear h3
                          by_cases g1 : i.imm < -32768
                          · have HF2 := Lib.hid (show fitsI i = false by rw [HF.out, decide_eq_false (by omega)]; rfl)
                            have HE := Lib.hid (show insQ i r sl = 32 by unfold insQ; rw [if_neg (by rw [C1.out]; simp), if_neg (by rw [C2.out]; simp), if_neg (by rw [C4.out]; simp), if_pos HF2.out])
                            go_wp2
                            go_ret
                            exact ⟨ret_num HE.out.symm, HB2.out⟩
                          · by_cases g2 : 32767 < i.imm
                            · have HF2 := Lib.hid (show fitsI i = false by rw [HF.out, decide_eq_false (show ¬ i.imm ≤ 32767 by omega), Bool.and_false])
                              have HE := Lib.hid (show insQ i r sl = 32 by unfold insQ; rw [if_neg (by rw [C1.out]; simp), if_neg (by rw [C2.out]; simp), if_neg (by rw [C4.out]; simp), if_pos HF2.out])
                              go_wp2
                              go_ret
                              exact ⟨ret_num HE.out.symm, HB2.out⟩
                            · have HF2 := Lib.hid (show fitsI i = true by rw [HF.out, decide_eq_true (show (-32768 : Int) ≤ i.imm by omega), decide_eq_true (show i.imm ≤ 32767 by omega)]; rfl)
                              have HE := Lib.hid (show insQ i r sl = 0 by unfold insQ; rw [if_neg (by rw [C1.out]; simp), if_neg (by rw [C2.out]; simp), if_neg (by rw [C4.out]; simp), if_neg (by rw [HF2.out]; simp)])
                              go_wp2
                              go_ret
                              exact ⟨ret_num HE.out.symm, HB2.out⟩
                        have e3 : (i.op == 3) = false := beq_eq_false_iff_ne.2 h3
                        by_cases h18 : i.op = 18
                        · have e18 : (i.op == 18) = true := beq_iff_eq.2 h18
                          have HF := Lib.hid (show fitsI i = (decide (-128 ≤ i.imm) && decide (i.imm ≤ 127)) by unfold fitsI loI hiI; rw [if_neg (by omega), if_pos (by omega), if_neg (by omega), if_pos (by omega)])
                          clear h3 h18
                          by_cases g1 : i.imm < -128
                          · have HF2 := Lib.hid (show fitsI i = false by rw [HF.out, decide_eq_false (by omega)]; rfl)
                            have HE := Lib.hid (show insQ i r sl = 32 by unfold insQ; rw [if_neg (by rw [C1.out]; simp), if_neg (by rw [C2.out]; simp), if_neg (by rw [C4.out]; simp), if_pos HF2.out])
                            go_wp2
                            go_ret
                            exact ⟨ret_num HE.out.symm, HB2.out⟩
                          · by_cases g2 : 127 < i.imm
                            · have HF2 := Lib.hid (show fitsI i = false by rw [HF.out, decide_eq_false (show ¬ i.imm ≤ 127 by omega), Bool.and_false])
                              have HE := Lib.hid (show insQ i r sl = 32 by unfold insQ; rw [if_neg (by rw [C1.out]; simp), if_neg (by rw [C2.out]; simp), if_neg (by rw [C4.out]; simp), if_pos HF2.out])
                              go_wp2
                              go_ret
                              exact ⟨ret_num HE.out.symm, HB2.out⟩
                            · have HF2 := Lib.hid (show fitsI i = true by rw [HF.out, decide_eq_true (show (-128 : Int) ≤ i.imm by omega), decide_eq_true (show i.imm ≤ 127 by omega)]; rfl)
                              have HE := Lib.hid (show insQ i r sl = 0 by unfold insQ; rw [if_neg (by rw [C1.out]; simp), if_neg (by rw [C2.out]; simp), if_neg (by rw [C4.out]; simp), if_neg (by rw [HF2.out]; simp)])
                              go_wp2
                              go_ret
                              exact ⟨ret_num HE.out.symm, HB2.out⟩
                        have e18 : (i.op == 18) = false := beq_eq_false_iff_ne.2 h18
                        by_cases h19 : i.op = 19
                        · have e19 : (i.op == 19) = true := beq_iff_eq.2 h19
                          have HF := Lib.hid (show fitsI i = (decide (-128 ≤ i.imm) && decide (i.imm ≤ 127)) by unfold fitsI loI hiI; rw [if_neg (by omega), if_pos (by omega), if_neg (by omega), if_pos (by omega)])
                          clear h3 h18 h19
                          by_cases g1 : i.imm < -128
                          · have HF2 := Lib.hid (show fitsI i = false by rw [HF.out, decide_eq_false (by omega)]; rfl)
                            have HE := Lib.hid (show insQ i r sl = 32 by unfold insQ; rw [if_neg (by rw [C1.out]; simp), if_neg (by rw [C2.out]; simp), if_neg (by rw [C4.out]; simp), if_pos HF2.out])
                            go_wp2
                            go_ret
                            exact ⟨ret_num HE.out.symm, HB2.out⟩
                          · by_cases g2 : 127 < i.imm
                            · have HF2 := Lib.hid (show fitsI i = false by rw [HF.out, decide_eq_false (show ¬ i.imm ≤ 127 by omega), Bool.and_false])
                              have HE := Lib.hid (show insQ i r sl = 32 by unfold insQ; rw [if_neg (by rw [C1.out]; simp), if_neg (by rw [C2.out]; simp), if_neg (by rw [C4.out]; simp), if_pos HF2.out])
                              go_wp2
                              go_ret
                              exact ⟨ret_num HE.out.symm, HB2.out⟩
                            · have HF2 := Lib.hid (show fitsI i = true by rw [HF.out, decide_eq_true (show (-128 : Int) ≤ i.imm by omega), decide_eq_true (show i.imm ≤ 127 by omega)]; rfl)
                              have HE := Lib.hid (show insQ i r sl = 0 by unfold insQ; rw [if_neg (by rw [C1.out]; simp), if_neg (by rw [C2.out]; simp), if_neg (by rw [C4.out]; simp), if_neg (by rw [HF2.out]; simp)])
                              go_wp2
                              go_ret
                              exact ⟨ret_num HE.out.symm, HB2.out⟩
                        have e19 : (i.op == 19) = false := beq_eq_false_iff_ne.2 h19
                        by_cases h20 : i.op = 20
                        · have e20 : (i.op == 20) = true := beq_iff_eq.2 h20
                          have HF := Lib.hid (show fitsI i = (decide (0 ≤ i.imm) && decide (i.imm ≤ 31)) by unfold fitsI loI hiI; rw [if_neg (by omega), if_neg (by omega), if_pos (by omega), if_neg (by omega), if_neg (by omega), if_pos (by omega)])
                          clear h3 h18 h19 h20
                          by_cases g1 : i.imm < 0
                          · have HF2 := Lib.hid (show fitsI i = false by rw [HF.out, decide_eq_false (by omega)]; rfl)
                            have HE := Lib.hid (show insQ i r sl = 32 by unfold insQ; rw [if_neg (by rw [C1.out]; simp), if_neg (by rw [C2.out]; simp), if_neg (by rw [C4.out]; simp), if_pos HF2.out])
                            go_wp2
                            go_ret
                            exact ⟨ret_num HE.out.symm, HB2.out⟩
                          · by_cases g2 : 31 < i.imm
                            · have HF2 := Lib.hid (show fitsI i = false by rw [HF.out, decide_eq_false (show ¬ i.imm ≤ 31 by omega), Bool.and_false])
                              have HE := Lib.hid (show insQ i r sl = 32 by unfold insQ; rw [if_neg (by rw [C1.out]; simp), if_neg (by rw [C2.out]; simp), if_neg (by rw [C4.out]; simp), if_pos HF2.out])
                              go_wp2
                              go_ret
                              exact ⟨ret_num HE.out.symm, HB2.out⟩
                            · have HF2 := Lib.hid (show fitsI i = true by rw [HF.out, decide_eq_true (show (0 : Int) ≤ i.imm by omega), decide_eq_true (show i.imm ≤ 31 by omega)]; rfl)
                              have HE := Lib.hid (show insQ i r sl = 0 by unfold insQ; rw [if_neg (by rw [C1.out]; simp), if_neg (by rw [C2.out]; simp), if_neg (by rw [C4.out]; simp), if_neg (by rw [HF2.out]; simp)])
                              go_wp2
                              go_ret
                              exact ⟨ret_num HE.out.symm, HB2.out⟩
                        have e20 : (i.op == 20) = false := beq_eq_false_iff_ne.2 h20
                        by_cases h21 : i.op = 21
                        · have e21 : (i.op == 21) = true := beq_iff_eq.2 h21
                          have HF := Lib.hid (show fitsI i = (decide (0 ≤ i.imm) && decide (i.imm ≤ 31)) by unfold fitsI loI hiI; rw [if_neg (by omega), if_neg (by omega), if_pos (by omega), if_neg (by omega), if_neg (by omega), if_pos (by omega)])
                          clear h3 h18 h19 h20 h21
                          by_cases g1 : i.imm < 0
                          · have HF2 := Lib.hid (show fitsI i = false by rw [HF.out, decide_eq_false (by omega)]; rfl)
                            have HE := Lib.hid (show insQ i r sl = 32 by unfold insQ; rw [if_neg (by rw [C1.out]; simp), if_neg (by rw [C2.out]; simp), if_neg (by rw [C4.out]; simp), if_pos HF2.out])
                            go_wp2
                            go_ret
                            exact ⟨ret_num HE.out.symm, HB2.out⟩
                          · by_cases g2 : 31 < i.imm
                            · have HF2 := Lib.hid (show fitsI i = false by rw [HF.out, decide_eq_false (show ¬ i.imm ≤ 31 by omega), Bool.and_false])
                              have HE := Lib.hid (show insQ i r sl = 32 by unfold insQ; rw [if_neg (by rw [C1.out]; simp), if_neg (by rw [C2.out]; simp), if_neg (by rw [C4.out]; simp), if_pos HF2.out])
                              go_wp2
                              go_ret
                              exact ⟨ret_num HE.out.symm, HB2.out⟩
                            · have HF2 := Lib.hid (show fitsI i = true by rw [HF.out, decide_eq_true (show (0 : Int) ≤ i.imm by omega), decide_eq_true (show i.imm ≤ 31 by omega)]; rfl)
                              have HE := Lib.hid (show insQ i r sl = 0 by unfold insQ; rw [if_neg (by rw [C1.out]; simp), if_neg (by rw [C2.out]; simp), if_neg (by rw [C4.out]; simp), if_neg (by rw [HF2.out]; simp)])
                              go_wp2
                              go_ret
                              exact ⟨ret_num HE.out.symm, HB2.out⟩
                        have e21 : (i.op == 21) = false := beq_eq_false_iff_ne.2 h21
                        by_cases h22 : i.op = 22
                        · have e22 : (i.op == 22) = true := beq_iff_eq.2 h22
                          have HF := Lib.hid (show fitsI i = (decide (0 ≤ i.imm) && decide (i.imm ≤ 31)) by unfold fitsI loI hiI; rw [if_neg (by omega), if_neg (by omega), if_pos (by omega), if_neg (by omega), if_neg (by omega), if_pos (by omega)])
                          clear h3 h18 h19 h20 h21 h22
                          by_cases g1 : i.imm < 0
                          · have HF2 := Lib.hid (show fitsI i = false by rw [HF.out, decide_eq_false (by omega)]; rfl)
                            have HE := Lib.hid (show insQ i r sl = 32 by unfold insQ; rw [if_neg (by rw [C1.out]; simp), if_neg (by rw [C2.out]; simp), if_neg (by rw [C4.out]; simp), if_pos HF2.out])
                            go_wp2
                            go_ret
                            exact ⟨ret_num HE.out.symm, HB2.out⟩
                          · by_cases g2 : 31 < i.imm
                            · have HF2 := Lib.hid (show fitsI i = false by rw [HF.out, decide_eq_false (show ¬ i.imm ≤ 31 by omega), Bool.and_false])
                              have HE := Lib.hid (show insQ i r sl = 32 by unfold insQ; rw [if_neg (by rw [C1.out]; simp), if_neg (by rw [C2.out]; simp), if_neg (by rw [C4.out]; simp), if_pos HF2.out])
                              go_wp2
                              go_ret
                              exact ⟨ret_num HE.out.symm, HB2.out⟩
                            · have HF2 := Lib.hid (show fitsI i = true by rw [HF.out, decide_eq_true (show (0 : Int) ≤ i.imm by omega), decide_eq_true (show i.imm ≤ 31 by omega)]; rfl)
                              have HE := Lib.hid (show insQ i r sl = 0 by unfold insQ; rw [if_neg (by rw [C1.out]; simp), if_neg (by rw [C2.out]; simp), if_neg (by rw [C4.out]; simp), if_neg (by rw [HF2.out]; simp)])
                              go_wp2
                              go_ret
                              exact ⟨ret_num HE.out.symm, HB2.out⟩
                        have e22 : (i.op == 22) = false := beq_eq_false_iff_ne.2 h22
                        by_cases h24 : i.op = 24
                        · have e24 : (i.op == 24) = true := beq_iff_eq.2 h24
                          have HF := Lib.hid (show fitsI i = (decide (0 ≤ i.imm) && decide (i.imm ≤ 255)) by unfold fitsI loI hiI; rw [if_neg (by omega), if_neg (by omega), if_neg (by omega), if_pos (by omega), if_neg (by omega), if_neg (by omega), if_neg (by omega), if_pos (by omega)])
                          clear h3 h18 h19 h20 h21 h22 h24
                          by_cases g1 : i.imm < 0
                          · have HF2 := Lib.hid (show fitsI i = false by rw [HF.out, decide_eq_false (by omega)]; rfl)
                            have HE := Lib.hid (show insQ i r sl = 32 by unfold insQ; rw [if_neg (by rw [C1.out]; simp), if_neg (by rw [C2.out]; simp), if_neg (by rw [C4.out]; simp), if_pos HF2.out])
                            go_wp2
                            go_ret
                            exact ⟨ret_num HE.out.symm, HB2.out⟩
                          · by_cases g2 : 255 < i.imm
                            · have HF2 := Lib.hid (show fitsI i = false by rw [HF.out, decide_eq_false (show ¬ i.imm ≤ 255 by omega), Bool.and_false])
                              have HE := Lib.hid (show insQ i r sl = 32 by unfold insQ; rw [if_neg (by rw [C1.out]; simp), if_neg (by rw [C2.out]; simp), if_neg (by rw [C4.out]; simp), if_pos HF2.out])
                              go_wp2
                              go_ret
                              exact ⟨ret_num HE.out.symm, HB2.out⟩
                            · have HF2 := Lib.hid (show fitsI i = true by rw [HF.out, decide_eq_true (show (0 : Int) ≤ i.imm by omega), decide_eq_true (show i.imm ≤ 255 by omega)]; rfl)
                              have HE := Lib.hid (show insQ i r sl = 0 by unfold insQ; rw [if_neg (by rw [C1.out]; simp), if_neg (by rw [C2.out]; simp), if_neg (by rw [C4.out]; simp), if_neg (by rw [HF2.out]; simp)])
                              go_wp2
                              go_ret
                              exact ⟨ret_num HE.out.symm, HB2.out⟩
                        have e24 : (i.op == 24) = false := beq_eq_false_iff_ne.2 h24
                        by_cases h26 : i.op = 26
                        · have e26 : (i.op == 26) = true := beq_iff_eq.2 h26
                          have HF := Lib.hid (show fitsI i = (decide (0 ≤ i.imm) && decide (i.imm ≤ 255)) by unfold fitsI loI hiI; rw [if_neg (by omega), if_neg (by omega), if_neg (by omega), if_pos (by omega), if_neg (by omega), if_neg (by omega), if_neg (by omega), if_pos (by omega)])
                          clear h3 h18 h19 h20 h21 h22 h24 h26
                          by_cases g1 : i.imm < 0
                          · have HF2 := Lib.hid (show fitsI i = false by rw [HF.out, decide_eq_false (by omega)]; rfl)
                            have HE := Lib.hid (show insQ i r sl = 32 by unfold insQ; rw [if_neg (by rw [C1.out]; simp), if_neg (by rw [C2.out]; simp), if_neg (by rw [C4.out]; simp), if_pos HF2.out])
                            go_wp2
                            go_ret
                            exact ⟨ret_num HE.out.symm, HB2.out⟩
                          · by_cases g2 : 255 < i.imm
                            · have HF2 := Lib.hid (show fitsI i = false by rw [HF.out, decide_eq_false (show ¬ i.imm ≤ 255 by omega), Bool.and_false])
                              have HE := Lib.hid (show insQ i r sl = 32 by unfold insQ; rw [if_neg (by rw [C1.out]; simp), if_neg (by rw [C2.out]; simp), if_neg (by rw [C4.out]; simp), if_pos HF2.out])
                              go_wp2
                              go_ret
                              exact ⟨ret_num HE.out.symm, HB2.out⟩
                            · have HF2 := Lib.hid (show fitsI i = true by rw [HF.out, decide_eq_true (show (0 : Int) ≤ i.imm by omega), decide_eq_true (show i.imm ≤ 255 by omega)]; rfl)
                              have HE := Lib.hid (show insQ i r sl = 0 by unfold insQ; rw [if_neg (by rw [C1.out]; simp), if_neg (by rw [C2.out]; simp), if_neg (by rw [C4.out]; simp), if_neg (by rw [HF2.out]; simp)])
                              go_wp2
                              go_ret
                              exact ⟨ret_num HE.out.symm, HB2.out⟩
                        have e26 : (i.op == 26) = false := beq_eq_false_iff_ne.2 h26
                        have HF := Lib.hid (show fitsI i = true by unfold fitsI loI hiI; rw [if_neg (by omega), if_neg (by omega), if_neg (by omega), if_neg (by omega), if_neg (by omega), if_neg (by omega), if_neg (by omega), if_neg (by omega), decide_eq_true (by omega), decide_eq_true (by omega)]; rfl)
                        clear h3 h18 h19 h20 h21 h22 h24 h26
                        have HE := Lib.hid (show insQ i r sl = 0 by unfold insQ; rw [if_neg (by rw [C1.out]; simp), if_neg (by rw [C2.out]; simp), if_neg (by rw [C4.out]; simp), if_neg (by rw [HF.out]; simp)])
                        go_wp2
                        go_ret
                        exact ⟨ret_num HE.out.symm, HB2.out⟩
          | false =>
            have hd2 : (i.d != 0) = true := by simpa using hd
            have C1 := Lib.hid (show okI i = false by rw [HF.out, hd, Bool.and_false]; rfl)
            have HE := Lib.hid (show insQ i r sl = 30 by unfold insQ; rw [if_pos C1.out])
            go_enter Try.func18, Try.ntmps18
            go_wp2
            go_ret
            exact ⟨ret_num HE.out.symm, HB1.out⟩
        · have C1 := Lib.hid (show okI i = false by rw [HF.out, decide_eq_false h4]; rfl)
          have HE := Lib.hid (show insQ i r sl = 30 by unfold insQ; rw [if_pos C1.out])
          go_enter Try.func18, Try.ntmps18
          go_wp2
          go_ret
          exact ⟨ret_num HE.out.symm, HB1.out⟩
      · have e28 : (i.op == 28) = false := beq_eq_false_iff_ne.2 h28
        by_cases h29 : i.op = 29
        · have e29 : (i.op == 29) = true := beq_iff_eq.2 h29
          have HF := Lib.hid (show okI i = ((i.d == 0) && (i.e == 1)) by unfold okI; rw [if_neg h28, if_pos h29])
          clear h28 h29
          cases hd : i.d == 0 with
          | true =>
            have hd2 : (i.d != 0) = false := by simpa using hd
            cases he : i.e == 1 with
            | true =>
              have he2 : (i.e != 1) = false := by simpa using he
              have C1 := Lib.hid (show okI i = true by rw [HF.out, hd, he]; rfl)
              go_enter Try.func18, Try.ntmps18
              go_wp2_with fail
              clear hW1
              go_loopw [7] (fun jv wr => jv = .int .i64 0 ∧ wr = W1) (fun _ _ => 0)
              case atStart => exact ⟨rfl, rfl⟩
              case round =>
                obtain ⟨rfl, hw9⟩ := hrel
                obtain rfl : W1 = wr := hw9.symm
                go_wp2_with fail
                refine (registers_any W1 i A i.args.length k hw HV.out hl).mono ?_
                rintro e w2 ⟨v2, rfl, ho, hb⟩
                have HB2 := Lib.hid (HB1.out.trans (hb.mono HB1.out.size))
                have HO2 := Lib.hid (OwnInts.ints ho)
                have m0 : w2.cell? ⟨w.heap.size, 0, none⟩ = some (.int .i64 i.op) := cell_keep hb (Nat.le_refl _) m0
                have m1 : w2.cell? ⟨w.heap.size, 1, none⟩ = some (.int .i64 i.d) := cell_keep hb (Nat.le_refl _) m1
                have m2 : w2.cell? ⟨w.heap.size, 2, none⟩ = some (.int .i64 i.e) := cell_keep hb (Nat.le_refl _) m2
                have m3 : w2.cell? ⟨w.heap.size, 3, none⟩ = some (.int .i64 i.a) := cell_keep hb (Nat.le_refl _) m3
                have m4 : w2.cell? ⟨w.heap.size, 4, none⟩ = some (.int .i64 i.b) := cell_keep hb (Nat.le_refl _) m4
                have m5 : w2.cell? ⟨w.heap.size, 5, none⟩ = some (.int .i64 i.c) := cell_keep hb (Nat.le_refl _) m5
                have m6 : w2.cell? ⟨w.heap.size, 6, none⟩ = some (.int .i32 i.imm) := cell_keep hb (Nat.le_refl _) m6
                have m7 : w2.cell? ⟨w.heap.size, 7, none⟩ = some (.slice A i.args.length k) := cell_keep hb (Nat.le_refl _) m7
                obtain ⟨LA, lc, rfl⟩ := own_form ho
                have HNR := Lib.hid (named_regs i r)
                have hcap := own_capQ ho
                unfold maxLen at hcap
                generalize namedQ i = nl at *
                clear hb ho
                go_wp2_with fail
                go_loopw [9] (fun jv wr => ∃ j : Nat, j ≤ nl.length ∧ jv = .int .i64 j ∧ (nl.take j).any (badR r) = false ∧ wr = w2) (fun jv _ => nl.length - (intOf jv).toNat)
                case atStart => exact ⟨0, Nat.zero_le _, rfl, rfl, rfl⟩
                case round =>
                  obtain ⟨j, hj, rfl, hno, hw9⟩ := hrel
                  obtain rfl : w2 = wr := hw9.symm
                  have HNO := Lib.hid hno
                  clear hno
                  by_cases hlt : j < nl.length
                  · obtain ⟨A', c', e, -, -, hcc⟩ := HO2.out
                    injection e with e1 e2 e3
                    subst e1 e3
                    obtain ⟨ad, rfl, hz⟩ := hcc j hlt
                    have HT := Lib.hid (any_step hlt HNO.out)
                    have HY := Lib.hid (fun h => any_yes (q := badR r) hlt h)
                    have hj1 : j + 1 ≤ nl.length := hlt
                    clear hcc
                    generalize nl[j] = y at *
                    have HBR := Lib.hid (show badR r y = (decide (y < 0) || decide (r ≤ y)) from rfl)
                    by_cases g1 : y < 0
                    · have HR := Lib.hid (show (regsB r (makesL i) && regsB r (takesL i)) = false by rw [← HNR.out]; unfold regsB; rw [HY.out (by rw [HBR.out, decide_eq_true g1]; rfl)]; rfl)
                      have HE := Lib.hid (show insQ i r sl = 31 by unfold insQ; rw [if_neg (by rw [C1.out]; simp), if_pos HR.out])
                      go_wp2
                      go_ret
                      exact ⟨ret_num HE.out.symm, HB2.out⟩
                    · by_cases g2 : r ≤ y
                      · have HR := Lib.hid (show (regsB r (makesL i) && regsB r (takesL i)) = false by rw [← HNR.out]; unfold regsB; rw [HY.out (by rw [HBR.out, decide_eq_true g2, Bool.or_true])]; rfl)
                        have HE := Lib.hid (show insQ i r sl = 31 by unfold insQ; rw [if_neg (by rw [C1.out]; simp), if_pos HR.out])
                        go_wp2
                        go_ret
                        exact ⟨ret_num HE.out.symm, HB2.out⟩
                      · have HR := Lib.hid (show (nl.take (j + 1)).any (badR r) = false by rw [HT.out, HBR.out, decide_eq_false g1, decide_eq_false g2]; rfl)
                        go_wp2_with fail
                        exact ⟨⟨j + 1, hj1, by go_num, HR.out, trivial⟩, by simp [intOf]; omega⟩
                  · obtain rfl : j = nl.length := by omega
                    have C2 := Lib.hid (show (regsB r (makesL i) && regsB r (takesL i)) = true by
                      rw [← HNR.out]; unfold regsB
                      have h := HNO.out
                      rw [List.take_length] at h
                      rw [h]; rfl)
                    clear HNO HNR
                    by_cases h30q : i.op = 30
                    · have e30 : (i.op == 30) = true := beq_iff_eq.2 h30q
                      have CS := Lib.hid (show (i.op == 30 || i.op == 31) = true by rw [e30]; rfl)
                      by_cases g1 : i.imm < 0
                      · have C4 := Lib.hid (show ((i.op == 30 || i.op == 31) && (decide (i.imm < 0) || decide (sl ≤ i.imm))) = true by rw [CS.out, decide_eq_true g1]; rfl)
                        clear h30q
                        have HE := Lib.hid (show insQ i r sl = 43 by unfold insQ; rw [if_neg (by rw [C1.out]; simp), if_neg (by rw [C2.out]; simp), if_pos C4.out])
                        go_wp2
                        go_ret
                        exact ⟨ret_num HE.out.symm, HB2.out⟩
                      · by_cases g2 : sl ≤ i.imm
                        · have C4 := Lib.hid (show ((i.op == 30 || i.op == 31) && (decide (i.imm < 0) || decide (sl ≤ i.imm))) = true by rw [CS.out, decide_eq_true g2, Bool.or_true]; rfl)
                          clear h30q
                          have HE := Lib.hid (show insQ i r sl = 43 by unfold insQ; rw [if_neg (by rw [C1.out]; simp), if_neg (by rw [C2.out]; simp), if_pos C4.out])
                          go_wp2
                          go_ret
                          exact ⟨ret_num HE.out.symm, HB2.out⟩
                        · have C4 := Lib.hid (show ((i.op == 30 || i.op == 31) && (decide (i.imm < 0) || decide (sl ≤ i.imm))) = false by rw [decide_eq_false g1, decide_eq_false g2]; simp)
                          have e3 : (i.op == 3) = false := beq_eq_false_iff_ne.2 (by omega)
                          have e18 : (i.op == 18) = false := beq_eq_false_iff_ne.2 (by omega)
                          have e19 : (i.op == 19) = false := beq_eq_false_iff_ne.2 (by omega)
                          have e20 : (i.op == 20) = false := beq_eq_false_iff_ne.2 (by omega)
                          have e21 : (i.op == 21) = false := beq_eq_false_iff_ne.2 (by omega)
                          have e22 : (i.op == 22) = false := beq_eq_false_iff_ne.2 (by omega)
                          have e24 : (i.op == 24) = false := beq_eq_false_iff_ne.2 (by omega)
                          have e26 : (i.op == 26) = false := beq_eq_false_iff_ne.2 (by omega)
                          have HF := Lib.hid (show fitsI i = true by unfold fitsI loI hiI; rw [if_neg (by omega), if_neg (by omega), if_neg (by omega), if_neg (by omega), if_neg (by omega), if_neg (by omega), if_neg (by omega), if_neg (by omega), decide_eq_true (by omega), decide_eq_true (by omega)]; rfl)
                          clear h30q
                          have HE := Lib.hid (show insQ i r sl = 0 by unfold insQ; rw [if_neg (by rw [C1.out]; simp), if_neg (by rw [C2.out]; simp), if_neg (by rw [C4.out]; simp), if_neg (by rw [HF.out]; simp)])
                          go_wp2
                          go_ret
                          exact ⟨ret_num HE.out.symm, HB2.out⟩
                    · have e30 : (i.op == 30) = false := beq_eq_false_iff_ne.2 h30q
                      clear h30q
                      by_cases h30q : i.op = 31
                      · have e31 : (i.op == 31) = true := beq_iff_eq.2 h30q
                        have CS := Lib.hid (show (i.op == 30 || i.op == 31) = true by rw [e31, Bool.or_true])
                        by_cases g1 : i.imm < 0
                        · have C4 := Lib.hid (show ((i.op == 30 || i.op == 31) && (decide (i.imm < 0) || decide (sl ≤ i.imm))) = true by rw [CS.out, decide_eq_true g1]; rfl)
                          clear h30q
                          have HE := Lib.hid (show insQ i r sl = 43 by unfold insQ; rw [if_neg (by rw [C1.out]; simp), if_neg (by rw [C2.out]; simp), if_pos C4.out])
                          go_wp2
                          go_ret
                          exact ⟨ret_num HE.out.symm, HB2.out⟩
                        · by_cases g2 : sl ≤ i.imm
                          · have C4 := Lib.hid (show ((i.op == 30 || i.op == 31) && (decide (i.imm < 0) || decide (sl ≤ i.imm))) = true by rw [CS.out, decide_eq_true g2, Bool.or_true]; rfl)
                            clear h30q
                            have HE := Lib.hid (show insQ i r sl = 43 by unfold insQ; rw [if_neg (by rw [C1.out]; simp), if_neg (by rw [C2.out]; simp), if_pos C4.out])
                            go_wp2
                            go_ret
                            exact ⟨ret_num HE.out.symm, HB2.out⟩
                          · have C4 := Lib.hid (show ((i.op == 30 || i.op == 31) && (decide (i.imm < 0) || decide (sl ≤ i.imm))) = false by rw [decide_eq_false g1, decide_eq_false g2]; simp)
                            have e3 : (i.op == 3) = false := beq_eq_false_iff_ne.2 (by omega)
                            have e18 : (i.op == 18) = false := beq_eq_false_iff_ne.2 (by omega)
                            have e19 : (i.op == 19) = false := beq_eq_false_iff_ne.2 (by omega)
                            have e20 : (i.op == 20) = false := beq_eq_false_iff_ne.2 (by omega)
                            have e21 : (i.op == 21) = false := beq_eq_false_iff_ne.2 (by omega)
                            have e22 : (i.op == 22) = false := beq_eq_false_iff_ne.2 (by omega)
                            have e24 : (i.op == 24) = false := beq_eq_false_iff_ne.2 (by omega)
                            have e26 : (i.op == 26) = false := beq_eq_false_iff_ne.2 (by omega)
                            have HF := Lib.hid (show fitsI i = true by unfold fitsI loI hiI; rw [if_neg (by omega), if_neg (by omega), if_neg (by omega), if_neg (by omega), if_neg (by omega), if_neg (by omega), if_neg (by omega), if_neg (by omega), decide_eq_true (by omega), decide_eq_true (by omega)]; rfl)
                            clear h30q
                            have HE := Lib.hid (show insQ i r sl = 0 by unfold insQ; rw [if_neg (by rw [C1.out]; simp), if_neg (by rw [C2.out]; simp), if_neg (by rw [C4.out]; simp), if_neg (by rw [HF.out]; simp)])
                            go_wp2
                            go_ret
                            exact ⟨ret_num HE.out.symm, HB2.out⟩
                      · have e31 : (i.op == 31) = false := beq_eq_false_iff_ne.2 h30q
                        clear h30q
                        have C4 := Lib.hid (show ((i.op == 30 || i.op == 31) && (decide (i.imm < 0) || decide (sl ≤ i.imm))) = false by rw [e30, e31]; rfl)
                        by_cases h3 : i.op = 3
                        · have e3 : (i.op == 3) = true := beq_iff_eq.2 h3
                          have HF := Lib.hid (show fitsI i = (decide (-32768 ≤ i.imm) && decide (i.imm ≤ 32767)) by unfold fitsI loI hiI; rw [if_pos (by omega), if_pos (by omega)])
                          clear h3
                          by_cases g1 : i.imm < -32768
                          · have HF2 := Lib.hid (show fitsI i = false by rw [HF.out, decide_eq_false (by omega)]; rfl)
                            have HE := Lib.hid (show insQ i r sl = 32 by unfold insQ; rw [if_neg (by rw [C1.out]; simp), if_neg (by rw [C2.out]; simp), if_neg (by rw [C4.out]; simp), if_pos HF2.out])
                            go_wp2
                            go_ret
                            exact ⟨ret_num HE.out.symm, HB2.out⟩
                          · by_cases g2 : 32767 < i.imm
                            · have HF2 := Lib.hid (show fitsI i = false by rw [HF.out, decide_eq_false (show ¬ i.imm ≤ 32767 by omega), Bool.and_false])
                              have HE := Lib.hid (show insQ i r sl = 32 by unfold insQ; rw [if_neg (by rw [C1.out]; simp), if_neg (by rw [C2.out]; simp), if_neg (by rw [C4.out]; simp), if_pos HF2.out])
                              go_wp2
                              go_ret
                              exact ⟨ret_num HE.out.symm, HB2.out⟩
                            · have HF2 := Lib.hid (show fitsI i = true by rw [HF.out, decide_eq_true (show (-32768 : Int) ≤ i.imm by omega), decide_eq_true (show i.imm ≤ 32767 by omega)]; rfl)
                              have HE := Lib.hid (show insQ i r sl = 0 by unfold insQ; rw [if_neg (by rw [C1.out]; simp), if_neg (by rw [C2.out]; simp), if_neg (by rw [C4.out]; simp), if_neg (by rw [HF2.out]; simp)])
                              go_wp2
                              go_ret
                              exact ⟨ret_num HE.out.symm, HB2.out⟩
                        have e3 : (i.op == 3) = false := beq_eq_false_iff_ne.2 h3
                        by_cases h18 : i.op = 18
                        · have e18 : (i.op == 18) = true := beq_iff_eq.2 h18
                          have HF := Lib.hid (show fitsI i = (decide (-128 ≤ i.imm) && decide (i.imm ≤ 127)) by unfold fitsI loI hiI; rw [if_neg (by omega), if_pos (by omega), if_neg (by omega), if_pos (by omega)])
                          clear h3 h18
                          by_cases g1 : i.imm < -128
                          · have HF2 := Lib.hid (show fitsI i = false by rw [HF.out, decide_eq_false (by omega)]; rfl)
                            have HE := Lib.hid (show insQ i r sl = 32 by unfold insQ; rw [if_neg (by rw [C1.out]; simp), if_neg (by rw [C2.out]; simp), if_neg (by rw [C4.out]; simp), if_pos HF2.out])
                            go_wp2
                            go_ret
                            exact ⟨ret_num HE.out.symm, HB2.out⟩
                          · by_cases g2 : 127 < i.imm
                            · have HF2 := Lib.hid (show fitsI i = false by rw [HF.out, decide_eq_false (show ¬ i.imm ≤ 127 by omega), Bool.and_false])
                              have HE := Lib.hid (show insQ i r sl = 32 by unfold insQ; rw [if_neg (by rw [C1.out]; simp), if_neg (by rw [C2.out]; simp), if_neg (by rw [C4.out]; simp), if_pos HF2.out])
                              go_wp2
                              go_ret
                              exact ⟨ret_num HE.out.symm, HB2.out⟩
                            · have HF2 := Lib.hid (show fitsI i = true by rw [HF.out, decide_eq_true (show (-128 : Int) ≤ i.imm by omega), decide_eq_true (show i.imm ≤ 127 by omega)]; rfl)
                              have HE := Lib.hid (show insQ i r sl = 0 by unfold insQ; rw [if_neg (by rw [C1.out]; simp), if_neg (by rw [C2.out]; simp), if_neg (by rw [C4.out]; simp), if_neg (by rw [HF2.out]; simp)])
                              go_wp2
                              go_ret
                              exact ⟨ret_num HE.out.symm, HB2.out⟩
                        have e18 : (i.op == 18) = false := beq_eq_false_iff_ne.2 h18
                        by_cases h19 : i.op = 19
                        · have e19 : (i.op == 19) = true := beq_iff_eq.2 h19
                          have HF := Lib.hid (show fitsI i = (decide (-128 ≤ i.imm) && decide (i.imm ≤ 127)) by unfold fitsI loI hiI; rw [if_neg (by omega), if_pos (by omega), if_neg (by omega), if_pos (by omega)])
                          clear h3 h18 h19
                          by_cases g1 : i.imm < -128
                          · have HF2 := Lib.hid (show fitsI i = false by rw [HF.out, decide_eq_false (by omega)]; rfl)
                            have HE := Lib.hid (show insQ i r sl = 32 by unfold insQ; rw [if_neg (by rw [C1.out]; simp), if_neg (by rw [C2.out]; simp), if_neg (by rw [C4.out]; simp), if_pos HF2.out])
                            go_wp2
                            go_ret
                            exact ⟨ret_num HE.out.symm, HB2.out⟩
                          · by_cases g2 : 127 < i.imm
                            · have HF2 := Lib.hid (show fitsI i = false by rw [HF.out, decide_eq_false (show ¬ i.imm ≤ 127 by omega), Bool.and_false])
                              have HE := Lib.hid (show insQ i r sl = 32 by unfold insQ; rw [if_neg (by rw [C1.out]; simp), if_neg (by rw [C2.out]; simp), if_neg (by rw [C4.out]; simp), if_pos HF2.out])
                              go_wp2
                              go_ret
                              exact ⟨ret_num HE.out.symm, HB2.out⟩
                            · have HF2 := Lib.hid (show fitsI i = true by rw [HF.out, decide_eq_true (show (-128 : Int) ≤ i.imm by omega), decide_eq_true (show i.imm ≤ 127 by omega)]; rfl)
                              have HE := Lib.hid (show insQ i r sl = 0 by unfold insQ; rw [if_neg (by rw [C1.out]; simp), if_neg (by rw [C2.out]; simp), if_neg (by rw [C4.out]; simp), if_neg (by rw [HF2.out]; simp)])
                              go_wp2
                              go_ret
                              exact ⟨ret_num HE.out.symm, HB2.out⟩
                        have e19 : (i.op == 19) = false := beq_eq_false_iff_ne.2 h19
                        by_cases h20 : i.op = 20
                        · have e20 : (i.op == 20) = true := beq_iff_eq.2 h20
                          have HF := Lib.hid (show fitsI i = (decide (0 ≤ i.imm) && decide (i.imm ≤ 31)) by unfold fitsI loI hiI; rw [if_neg (by omega), if_neg (by omega), if_pos (by omega), if_neg (by omega), if_neg (by omega), if_pos (by omega)])
                          clear h3 h18 h19 h20
                          by_cases g1 : i.imm < 0
                          · have HF2 := Lib.hid (show fitsI i = false by rw [HF.out, decide_eq_false (by omega)]; rfl)
                            have HE := Lib.hid (show insQ i r sl = 32 by unfold insQ; rw [if_neg (by rw [C1.out]; simp), if_neg (by rw [C2.out]; simp), if_neg (by rw [C4.out]; simp), if_pos HF2.out])
                            go_wp2
                            go_ret
                            exact ⟨ret_num HE.out.symm, HB2.out⟩
                          · by_cases g2 : 31 < i.imm
                            · have HF2 := Lib.hid (show fitsI i = false by rw [HF.out, decide_eq_false (show ¬ i.imm ≤ 31 by omega), Bool.and_false])
                              have HE := Lib.hid (show insQ i r sl = 32 by unfold insQ; rw [if_neg (by rw [C1.out]; simp), if_neg (by rw [C2.out]; simp), if_neg (by rw [C4.out]; simp), if_pos HF2.out])
                              go_wp2
                              go_ret
                              exact ⟨ret_num HE.out.symm, HB2.out⟩
                            · have HF2 := Lib.hid (show fitsI i = true by rw [HF.out, decide_eq_true (show (0 : Int) ≤ i.imm by omega), decide_eq_true (show i.imm ≤ 31 by omega)]; rfl)
                              have HE := Lib.hid (show insQ i r sl = 0 by unfold insQ; rw [if_neg (by rw [C1.out]; simp), if_neg (by rw [C2.out]; simp), if_neg (by rw [C4.out]; simp), if_neg (by rw [HF2.out]; simp)])
                              go_wp2
                              go_ret
                              exact ⟨ret_num HE.out.symm, HB2.out⟩
                        have e20 : (i.op == 20) = false := beq_eq_false_iff_ne.2 h20
                        by_cases h21 : i.op = 21
                        · have e21 : (i.op == 21) = true := beq_iff_eq.2 h21
                          have HF := Lib.hid (show fitsI i = (decide (0 ≤ i.imm) && decide (i.imm ≤ 31)) by unfold fitsI loI hiI; rw [if_neg (by omega), if_neg (by omega), if_pos (by omega), if_neg (by omega), if_neg (by omega), if_pos (by omega)])
                          clear h3 h18 h19 h20 h21
                          by_cases g1 : i.imm < 0
                          · have HF2 := Lib.hid (show fitsI i = false by rw [HF.out, decide_eq_false (by omega)]; rfl)
                            have HE := Lib.hid (show insQ i r sl = 32 by unfold insQ; rw [if_neg (by rw [C1.out]; simp), if_neg (by rw [C2.out]; simp), if_neg (by rw [C4.out]; simp), if_pos HF2.out])
                            go_wp2
                            go_ret
                            exact ⟨ret_num HE.out.symm, HB2.out⟩
                          · by_cases g2 : 31 < i.imm
                            · have HF2 := Lib.hid (show fitsI i = false by rw [HF.out, decide_eq_false (show ¬ i.imm ≤ 31 by omega), Bool.and_false])
                              have HE := Lib.hid (show insQ i r sl = 32 by unfold insQ; rw [if_neg (by rw [C1.out]; simp), if_neg (by rw [C2.out]; simp), if_neg (by rw [C4.out]; simp), if_pos HF2.out])
                              go_wp2
                              go_ret
                              exact ⟨ret_num HE.out.symm, HB2.out⟩
                            · have HF2 := Lib.hid (show fitsI i = true by rw [HF.out, decide_eq_true (show (0 : Int) ≤ i.imm by omega), decide_eq_true (show i.imm ≤ 31 by omega)]; rfl)
                              have HE := Lib.hid (show insQ i r sl = 0 by unfold insQ; rw [if_neg (by rw [C1.out]; simp), if_neg (by rw [C2.out]; simp), if_neg (by rw [C4.out]; simp), if_neg (by rw [HF2.out]; simp)])
                              go_wp2
                              go_ret
                              exact ⟨ret_num HE.out.symm, HB2.out⟩
                        have e21 : (i.op == 21) = false := beq_eq_false_iff_ne.2 h21
                        by_cases h22 : i.op = 22
                        · have e22 : (i.op == 22) = true := beq_iff_eq.2 h22
                          have HF := Lib.hid (show fitsI i = (decide (0 ≤ i.imm) && decide (i.imm ≤ 31)) by unfold fitsI loI hiI; rw [if_neg (by omega), if_neg (by omega), if_pos (by omega), if_neg (by omega), if_neg (by omega), if_pos (by omega)])
                          clear h3 h18 h19 h20 h21 h22
                          by_cases g1 : i.imm < 0
                          · have HF2 := Lib.hid (show fitsI i = false by rw [HF.out, decide_eq_false (by omega)]; rfl)
                            have HE := Lib.hid (show insQ i r sl = 32 by unfold insQ; rw [if_neg (by rw [C1.out]; simp), if_neg (by rw [C2.out]; simp), if_neg (by rw [C4.out]; simp), if_pos HF2.out])
                            go_wp2
                            go_ret
                            exact ⟨ret_num HE.out.symm, HB2.out⟩
                          · by_cases g2 : 31 < i.imm
                            · have HF2 := Lib.hid (show fitsI i = false by rw [HF.out, decide_eq_false (show ¬ i.imm ≤ 31 by omega), Bool.and_false])
                              have HE := Lib.hid (show insQ i r sl = 32 by unfold insQ; rw [if_neg (by rw [C1.out]; simp), if_neg (by rw [C2.out]; simp), if_neg (by rw [C4.out]; simp), if_pos HF2.out])
                              go_wp2
                              go_ret
                              exact ⟨ret_num HE.out.symm, HB2.out⟩
                            · have HF2 := Lib.hid (show fitsI i = true by rw [HF.out, decide_eq_true (show (0 : Int) ≤ i.imm by omega), decide_eq_true (show i.imm ≤ 31 by omega)]; rfl)
                              have HE := Lib.hid (show insQ i r sl = 0 by unfold insQ; rw [if_neg (by rw [C1.out]; simp), if_neg (by rw [C2.out]; simp), if_neg (by rw [C4.out]; simp), if_neg (by rw [HF2.out]; simp)])
                              go_wp2
                              go_ret
                              exact ⟨ret_num HE.out.symm, HB2.out⟩
                        have e22 : (i.op == 22) = false := beq_eq_false_iff_ne.2 h22
                        by_cases h24 : i.op = 24
                        · have e24 : (i.op == 24) = true := beq_iff_eq.2 h24
                          have HF := Lib.hid (show fitsI i = (decide (0 ≤ i.imm) && decide (i.imm ≤ 255)) by unfold fitsI loI hiI; rw [if_neg (by omega), if_neg (by omega), if_neg (by omega), if_pos (by omega), if_neg (by omega), if_neg (by omega), if_neg (by omega), if_pos (by omega)])
                          clear h3 h18 h19 h20 h21 h22 h24
                          by_cases g1 : i.imm < 0
                          · have HF2 := Lib.hid (show fitsI i = false by rw [HF.out, decide_eq_false (by omega)]; rfl)
                            have HE := Lib.hid (show insQ i r sl = 32 by unfold insQ; rw [if_neg (by rw [C1.out]; simp), if_neg (by rw [C2.out]; simp), if_neg (by rw [C4.out]; simp), if_pos HF2.out])
                            go_wp2
                            go_ret
                            exact ⟨ret_num HE.out.symm, HB2.out⟩
                          · by_cases g2 : 255 < i.imm
                            · have HF2 := Lib.hid (show fitsI i = false by rw [HF.out, decide_eq_false (show ¬ i.imm ≤ 255 by omega), Bool.and_false])
                              have HE := Lib.hid (show insQ i r sl = 32 by unfold insQ; rw [if_neg (by rw [C1.out]; simp), if_neg (by rw [C2.out]; simp), if_neg (by rw [C4.out]; simp), if_pos HF2.out])
                              go_wp2
                              go_ret
                              exact ⟨ret_num HE.out.symm, HB2.out⟩
                            · have HF2 := Lib.hid (show fitsI i = true by rw [HF.out, decide_eq_true (show (0 : Int) ≤ i.imm by omega), decide_eq_true (show i.imm ≤ 255 by omega)]; rfl)
                              have HE := Lib.hid (show insQ i r sl = 0 by unfold insQ; rw [if_neg (by rw [C1.out]; simp), if_neg (by rw [C2.out]; simp), if_neg (by rw [C4.out]; simp), if_neg (by rw [HF2.out]; simp)])
                              go_wp2
                              go_ret
                              exact ⟨ret_num HE.out.symm, HB2.out⟩
                        have e24 : (i.op == 24) = false := beq_eq_false_iff_ne.2 h24
                        by_cases h26 : i.op = 26
                        · have e26 : (i.op == 26) = true := beq_iff_eq.2 h26
                          have HF := Lib.hid (show fitsI i = (decide (0 ≤ i.imm) && decide (i.imm ≤ 255)) by unfold fitsI loI hiI; rw [if_neg (by omega), if_neg (by omega), if_neg (by omega), if_pos (by omega), if_neg (by omega), if_neg (by omega), if_neg (by omega), if_pos (by omega)])
                          clear h3 h18 h19 h20 h21 h22 h24 h26
                          by_cases g1 : i.imm < 0
                          · have HF2 := Lib.hid (show fitsI i = false by rw [HF.out, decide_eq_false (by omega)]; rfl)
                            have HE := Lib.hid (show insQ i r sl = 32 by unfold insQ; rw [if_neg (by rw [C1.out]; simp), if_neg (by rw [C2.out]; simp), if_neg (by rw [C4.out]; simp), if_pos HF2.out])
                            go_wp2
                            go_ret
                            exact ⟨ret_num HE.out.symm, HB2.out⟩
                          · by_cases g2 : 255 < i.imm
                            · have HF2 := Lib.hid (show fitsI i = false by rw [HF.out, decide_eq_false (show ¬ i.imm ≤ 255 by omega), Bool.and_false])
                              have HE := Lib.hid (show insQ i r sl = 32 by unfold insQ; rw [if_neg (by rw [C1.out]; simp), if_neg (by rw [C2.out]; simp), if_neg (by rw [C4.out]; simp), if_pos HF2.out])
                              go_wp2
                              go_ret
                              exact ⟨ret_num HE.out.symm, HB2.out⟩
                            · have HF2 := Lib.hid (show fitsI i = true by rw [HF.out, decide_eq_true (show (0 : Int) ≤ i.imm by omega), decide_eq_true (show i.imm ≤ 255 by omega)]; rfl)
                              have HE := Lib.hid (show insQ i r sl = 0 by unfold insQ; rw [if_neg (by rw [C1.out]; simp), if_neg (by rw [C2.out]; simp), if_neg (by rw [C4.out]; simp), if_neg (by rw [HF2.out]; simp)])
                              go_wp2
                              go_ret
                              exact ⟨ret_num HE.out.symm, HB2.out⟩
                        have e26 : (i.op == 26) = false := beq_eq_false_iff_ne.2 h26
                        have HF := Lib.hid (show fitsI i = true by unfold fitsI loI hiI; rw [if_neg (by omega), if_neg (by omega), if_neg (by omega), if_neg (by omega), if_neg (by omega), if_neg (by omega), if_neg (by omega), if_neg (by omega), decide_eq_true (by omega), decide_eq_true (by omega)]; rfl)
                        clear h3 h18 h19 h20 h21 h22 h24 h26
                        have HE := Lib.hid (show insQ i r sl = 0 by unfold insQ; rw [if_neg (by rw [C1.out]; simp), if_neg (by rw [C2.out]; simp), if_neg (by rw [C4.out]; simp), if_neg (by rw [HF.out]; simp)])
                        go_wp2
                        go_ret
                        exact ⟨ret_num HE.out.symm, HB2.out⟩
            | false =>
              have he2 : (i.e != 1) = true := by simpa using he
              have C1 := Lib.hid (show okI i = false by rw [HF.out, he, Bool.and_false])
              have HE := Lib.hid (show insQ i r sl = 30 by unfold insQ; rw [if_pos C1.out])
              go_enter Try.func18, Try.ntmps18
              go_wp2
              go_ret
              exact ⟨ret_num HE.out.symm, HB1.out⟩
          | false =>
            have hd2 : (i.d != 0) = true := by simpa using hd
            have C1 := Lib.hid (show okI i = false by rw [HF.out, hd]; rfl)
            have HE := Lib.hid (show insQ i r sl = 30 by unfold insQ; rw [if_pos C1.out])
            go_enter Try.func18, Try.ntmps18
            go_wp2
            go_ret
            exact ⟨ret_num HE.out.symm, HB1.out⟩
        · have e29 : (i.op == 29) = false := beq_eq_false_iff_ne.2 h29
          have C1 := Lib.hid (show okI i = true by unfold okI; rw [if_neg h28, if_neg h29, decide_eq_true (by omega), decide_eq_true (by omega)]; rfl)
          clear h28 h29
          go_enter Try.func18, Try.ntmps18
          go_wp2_with fail
          clear hW1
          go_loopw [7] (fun jv wr => jv = .int .i64 0 ∧ wr = W1) (fun _ _ => 0)
          case atStart => exact ⟨rfl, rfl⟩
          case round =>
            obtain ⟨rfl, hw9⟩ := hrel
            obtain rfl : W1 = wr := hw9.symm
            go_wp2_with fail
            refine (registers_any W1 i A i.args.length k hw HV.out hl).mono ?_
            rintro e w2 ⟨v2, rfl, ho, hb⟩
            have HB2 := Lib.hid (HB1.out.trans (hb.mono HB1.out.size))
            have HO2 := Lib.hid (OwnInts.ints ho)
            have m0 : w2.cell? ⟨w.heap.size, 0, none⟩ = some (.int .i64 i.op) := cell_keep hb (Nat.le_refl _) m0
            have m1 : w2.cell? ⟨w.heap.size, 1, none⟩ = some (.int .i64 i.d) := cell_keep hb (Nat.le_refl _) m1
            have m2 : w2.cell? ⟨w.heap.size, 2, none⟩ = some (.int .i64 i.e) := cell_keep hb (Nat.le_refl _) m2
            have m3 : w2.cell? ⟨w.heap.size, 3, none⟩ = some (.int .i64 i.a) := cell_keep hb (Nat.le_refl _) m3
            have m4 : w2.cell? ⟨w.heap.size, 4, none⟩ = some (.int .i64 i.b) := cell_keep hb (Nat.le_refl _) m4
            have m5 : w2.cell? ⟨w.heap.size, 5, none⟩ = some (.int .i64 i.c) := cell_keep hb (Nat.le_refl _) m5
            have m6 : w2.cell? ⟨w.heap.size, 6, none⟩ = some (.int .i32 i.imm) := cell_keep hb (Nat.le_refl _) m6
            have m7 : w2.cell? ⟨w.heap.size, 7, none⟩ = some (.slice A i.args.length k) := cell_keep hb (Nat.le_refl _) m7
            obtain ⟨LA, lc, rfl⟩ := own_form ho
            have HNR := Lib.hid (named_regs i r)
            have hcap := own_capQ ho
            unfold maxLen at hcap
            generalize namedQ i = nl at *
            clear hb ho
            go_wp2_with fail
            go_loopw [9] (fun jv wr => ∃ j : Nat, j ≤ nl.length ∧ jv = .int .i64 j ∧ (nl.take j).any (badR r) = false ∧ wr = w2) (fun jv _ => nl.length - (intOf jv).toNat)
            case atStart => exact ⟨0, Nat.zero_le _, rfl, rfl, rfl⟩
            case round =>
              obtain ⟨j, hj, rfl, hno, hw9⟩ := hrel
              obtain rfl : w2 = wr := hw9.symm
              have HNO := Lib.hid hno
              clear hno
              by_cases hlt : j < nl.length
              · obtain ⟨A', c', e, -, -, hcc⟩ := HO2.out
                injection e with e1 e2 e3
                subst e1 e3
                obtain ⟨ad, rfl, hz⟩ := hcc j hlt
                have HT := Lib.hid (any_step hlt HNO.out)
                have HY := Lib.hid (fun h => any_yes (q := badR r) hlt h)
                have hj1 : j + 1 ≤ nl.length := hlt
                clear hcc
                generalize nl[j] = y at *
                have HBR := Lib.hid (show badR r y = (decide (y < 0) || decide (r ≤ y)) from rfl)
                by_cases g1 : y < 0
                · have HR := Lib.hid (show (regsB r (makesL i) && regsB r (takesL i)) = false by rw [← HNR.out]; unfold regsB; rw [HY.out (by rw [HBR.out, decide_eq_true g1]; rfl)]; rfl)
                  have HE := Lib.hid (show insQ i r sl = 31 by unfold insQ; rw [if_neg (by rw [C1.out]; simp), if_pos HR.out])
                  go_wp2
                  go_ret
                  exact ⟨ret_num HE.out.symm, HB2.out⟩
                · by_cases g2 : r ≤ y
                  · have HR := Lib.hid (show (regsB r (makesL i) && regsB r (takesL i)) = false by rw [← HNR.out]; unfold regsB; rw [HY.out (by rw [HBR.out, decide_eq_true g2, Bool.or_true])]; rfl)
                    have HE := Lib.hid (show insQ i r sl = 31 by unfold insQ; rw [if_neg (by rw [C1.out]; simp), if_pos HR.out])
                    go_wp2
                    go_ret
                    exact ⟨ret_num HE.out.symm, HB2.out⟩
                  · have HR := Lib.hid (show (nl.take (j + 1)).any (badR r) = false by rw [HT.out, HBR.out, decide_eq_false g1, decide_eq_false g2]; rfl)
                    go_wp2_with fail
                    exact ⟨⟨j + 1, hj1, by go_num, HR.out, trivial⟩, by simp [intOf]; omega⟩
              · obtain rfl : j = nl.length := by omega
                have C2 := Lib.hid (show (regsB r (makesL i) && regsB r (takesL i)) = true by
                  rw [← HNR.out]; unfold regsB
                  have h := HNO.out
                  rw [List.take_length] at h
                  rw [h]; rfl)
                clear HNO HNR
                by_cases h30q : i.op = 30
                · have e30 : (i.op == 30) = true := beq_iff_eq.2 h30q
                  have CS := Lib.hid (show (i.op == 30 || i.op == 31) = true by rw [e30]; rfl)
                  by_cases g1 : i.imm < 0
                  · have C4 := Lib.hid (show ((i.op == 30 || i.op == 31) && (decide (i.imm < 0) || decide (sl ≤ i.imm))) = true by rw [CS.out, decide_eq_true g1]; rfl)
                    clear h30q
                    have HE := Lib.hid (show insQ i r sl = 43 by unfold insQ; rw [if_neg (by rw [C1.out]; simp), if_neg (by rw [C2.out]; simp), if_pos C4.out])
                    go_wp2
                    go_ret
                    exact ⟨ret_num HE.out.symm, HB2.out⟩
                  · by_cases g2 : sl ≤ i.imm
                    · have C4 := Lib.hid (show ((i.op == 30 || i.op == 31) && (decide (i.imm < 0) || decide (sl ≤ i.imm))) = true by rw [CS.out, decide_eq_true g2, Bool.or_true]; rfl)
                      clear h30q
                      have HE := Lib.hid (show insQ i r sl = 43 by unfold insQ; rw [if_neg (by rw [C1.out]; simp), if_neg (by rw [C2.out]; simp), if_pos C4.out])
                      go_wp2
                      go_ret
                      exact ⟨ret_num HE.out.symm, HB2.out⟩
                    · have C4 := Lib.hid (show ((i.op == 30 || i.op == 31) && (decide (i.imm < 0) || decide (sl ≤ i.imm))) = false by rw [decide_eq_false g1, decide_eq_false g2]; simp)
                      have e3 : (i.op == 3) = false := beq_eq_false_iff_ne.2 (by omega)
                      have e18 : (i.op == 18) = false := beq_eq_false_iff_ne.2 (by omega)
                      have e19 : (i.op == 19) = false := beq_eq_false_iff_ne.2 (by omega)
                      have e20 : (i.op == 20) = false := beq_eq_false_iff_ne.2 (by omega)
                      have e21 : (i.op == 21) = false := beq_eq_false_iff_ne.2 (by omega)
                      have e22 : (i.op == 22) = false := beq_eq_false_iff_ne.2 (by omega)
                      have e24 : (i.op == 24) = false := beq_eq_false_iff_ne.2 (by omega)
                      have e26 : (i.op == 26) = false := beq_eq_false_iff_ne.2 (by omega)
                      have HF := Lib.hid (show fitsI i = true by unfold fitsI loI hiI; rw [if_neg (by omega), if_neg (by omega), if_neg (by omega), if_neg (by omega), if_neg (by omega), if_neg (by omega), if_neg (by omega), if_neg (by omega), decide_eq_true (by omega), decide_eq_true (by omega)]; rfl)
                      clear h30q
                      have HE := Lib.hid (show insQ i r sl = 0 by unfold insQ; rw [if_neg (by rw [C1.out]; simp), if_neg (by rw [C2.out]; simp), if_neg (by rw [C4.out]; simp), if_neg (by rw [HF.out]; simp)])
                      go_wp2
                      go_ret
                      exact ⟨ret_num HE.out.symm, HB2.out⟩
                · have e30 : (i.op == 30) = false := beq_eq_false_iff_ne.2 h30q
                  clear h30q
                  by_cases h30q : i.op = 31
                  · have e31 : (i.op == 31) = true := beq_iff_eq.2 h30q
                    have CS := Lib.hid (show (i.op == 30 || i.op == 31) = true by rw [e31, Bool.or_true])
                    by_cases g1 : i.imm < 0
                    · have C4 := Lib.hid (show ((i.op == 30 || i.op == 31) && (decide (i.imm < 0) || decide (sl ≤ i.imm))) = true by rw [CS.out, decide_eq_true g1]; rfl)
                      clear h30q
                      have HE := Lib.hid (show insQ i r sl = 43 by unfold insQ; rw [if_neg (by rw [C1.out]; simp), if_neg (by rw [C2.out]; simp), if_pos C4.out])
                      go_wp2
                      go_ret
                      exact ⟨ret_num HE.out.symm, HB2.out⟩
                    · by_cases g2 : sl ≤ i.imm
                      · have C4 := Lib.hid (show ((i.op == 30 || i.op == 31) && (decide (i.imm < 0) || decide (sl ≤ i.imm))) = true by rw [CS.out, decide_eq_true g2, Bool.or_true]; rfl)
                        clear h30q
                        have HE := Lib.hid (show insQ i r sl = 43 by unfold insQ; rw [if_neg (by rw [C1.out]; simp), if_neg (by rw [C2.out]; simp), if_pos C4.out])
                        go_wp2
                        go_ret
                        exact ⟨ret_num HE.out.symm, HB2.out⟩
                      · have C4 := Lib.hid (show ((i.op == 30 || i.op == 31) && (decide (i.imm < 0) || decide (sl ≤ i.imm))) = false by rw [decide_eq_false g1, decide_eq_false g2]; simp)
                        have e3 : (i.op == 3) = false := beq_eq_false_iff_ne.2 (by omega)
                        have e18 : (i.op == 18) = false := beq_eq_false_iff_ne.2 (by omega)
                        have e19 : (i.op == 19) = false := beq_eq_false_iff_ne.2 (by omega)
                        have e20 : (i.op == 20) = false := beq_eq_false_iff_ne.2 (by omega)
                        have e21 : (i.op == 21) = false := beq_eq_false_iff_ne.2 (by omega)
                        have e22 : (i.op == 22) = false := beq_eq_false_iff_ne.2 (by omega)
                        have e24 : (i.op == 24) = false := beq_eq_false_iff_ne.2 (by omega)
                        have e26 : (i.op == 26) = false := beq_eq_false_iff_ne.2 (by omega)
                        have HF := Lib.hid (show fitsI i = true by unfold fitsI loI hiI; rw [if_neg (by omega), if_neg (by omega), if_neg (by omega), if_neg (by omega), if_neg (by omega), if_neg (by omega), if_neg (by omega), if_neg (by omega), decide_eq_true (by omega), decide_eq_true (by omega)]; rfl)
                        clear h30q
                        have HE := Lib.hid (show insQ i r sl = 0 by unfold insQ; rw [if_neg (by rw [C1.out]; simp), if_neg (by rw [C2.out]; simp), if_neg (by rw [C4.out]; simp), if_neg (by rw [HF.out]; simp)])
                        go_wp2
                        go_ret
                        exact ⟨ret_num HE.out.symm, HB2.out⟩
                  · have e31 : (i.op == 31) = false := beq_eq_false_iff_ne.2 h30q
                    clear h30q
                    have C4 := Lib.hid (show ((i.op == 30 || i.op == 31) && (decide (i.imm < 0) || decide (sl ≤ i.imm))) = false by rw [e30, e31]; rfl)
                    by_cases h3 : i.op = 3
                    · have e3 : (i.op == 3) = true := beq_iff_eq.2 h3
                      have HF := Lib.hid (show fitsI i = (decide (-32768 ≤ i.imm) && decide (i.imm ≤ 32767)) by unfold fitsI loI hiI; rw [if_pos (by omega), if_pos (by omega)])
                      clear h3
                      by_cases g1 : i.imm < -32768
                      · have HF2 := Lib.hid (show fitsI i = false by rw [HF.out, decide_eq_false (by omega)]; rfl)
                        have HE := Lib.hid (show insQ i r sl = 32 by unfold insQ; rw [if_neg (by rw [C1.out]; simp), if_neg (by rw [C2.out]; simp), if_neg (by rw [C4.out]; simp), if_pos HF2.out])
                        go_wp2
                        go_ret
                        exact ⟨ret_num HE.out.symm, HB2.out⟩
                      · by_cases g2 : 32767 < i.imm
                        · have HF2 := Lib.hid (show fitsI i = false by rw [HF.out, decide_eq_false (show ¬ i.imm ≤ 32767 by omega), Bool.and_false])
                          have HE := Lib.hid (show insQ i r sl = 32 by unfold insQ; rw [if_neg (by rw [C1.out]; simp), if_neg (by rw [C2.out]; simp), if_neg (by rw [C4.out]; simp), if_pos HF2.out])
                          go_wp2
                          go_ret
                          exact ⟨ret_num HE.out.symm, HB2.out⟩
                        · have HF2 := Lib.hid (show fitsI i = true by rw [HF.out, decide_eq_true (show (-32768 : Int) ≤ i.imm by omega), decide_eq_true (show i.imm ≤ 32767 by omega)]; rfl)
                          have HE := Lib.hid (show insQ i r sl = 0 by unfold insQ; rw [if_neg (by rw [C1.out]; simp), if_neg (by rw [C2.out]; simp), if_neg (by rw [C4.out]; simp), if_neg (by rw [HF2.out]; simp)])
                          go_wp2
                          go_ret
                          exact ⟨ret_num HE.out.symm, HB2.out⟩
                    have e3 : (i.op == 3) = false := beq_eq_false_iff_ne.2 h3
                    by_cases h18 : i.op = 18
                    · have e18 : (i.op == 18) = true := beq_iff_eq.2 h18
                      have HF := Lib.hid (show fitsI i = (decide (-128 ≤ i.imm) && decide (i.imm ≤ 127)) by unfold fitsI loI hiI; rw [if_neg (by omega), if_pos (by omega), if_neg (by omega), if_pos (by omega)])
                      clear h3 h18
                      by_cases g1 : i.imm < -128
                      · have HF2 := Lib.hid (show fitsI i = false by rw [HF.out, decide_eq_false (by omega)]; rfl)
                        have HE := Lib.hid (show insQ i r sl = 32 by unfold insQ; rw [if_neg (by rw [C1.out]; simp), if_neg (by rw [C2.out]; simp), if_neg (by rw [C4.out]; simp), if_pos HF2.out])
                        go_wp2
                        go_ret
                        exact ⟨ret_num HE.out.symm, HB2.out⟩
                      · by_cases g2 : 127 < i.imm
                        · have HF2 := Lib.hid (show fitsI i = false by rw [HF.out, decide_eq_false (show ¬ i.imm ≤ 127 by omega), Bool.and_false])
                          have HE := Lib.hid (show insQ i r sl = 32 by unfold insQ; rw [if_neg (by rw [C1.out]; simp), if_neg (by rw [C2.out]; simp), if_neg (by rw [C4.out]; simp), if_pos HF2.out])
                          go_wp2
                          go_ret
                          exact ⟨ret_num HE.out.symm, HB2.out⟩
                        · have HF2 := Lib.hid (show fitsI i = true by rw [HF.out, decide_eq_true (show (-128 : Int) ≤ i.imm by omega), decide_eq_true (show i.imm ≤ 127 by omega)]; rfl)
                          have HE := Lib.hid (show insQ i r sl = 0 by unfold insQ; rw [if_neg (by rw [C1.out]; simp), if_neg (by rw [C2.out]; simp), if_neg (by rw [C4.out]; simp), if_neg (by rw [HF2.out]; simp)])
                          go_wp2
                          go_ret
                          exact ⟨ret_num HE.out.symm, HB2.out⟩
                    have e18 : (i.op == 18) = false := beq_eq_false_iff_ne.2 h18
                    by_cases h19 : i.op = 19
                    · have e19 : (i.op == 19) = true := beq_iff_eq.2 h19
                      have HF := Lib.hid (show fitsI i = (decide (-128 ≤ i.imm) && decide (i.imm ≤ 127)) by unfold fitsI loI hiI; rw [if_neg (by omega), if_pos (by omega), if_neg (by omega), if_pos (by omega)])
                      clear h3 h18 h19
                      by_cases g1 : i.imm < -128
                      · have HF2 := Lib.hid (show fitsI i = false by rw [HF.out, decide_eq_false (by omega)]; rfl)
                        have HE := Lib.hid (show insQ i r sl = 32 by unfold insQ; rw [if_neg (by rw [C1.out]; simp), if_neg (by rw [C2.out]; simp), if_neg (by rw [C4.out]; simp), if_pos HF2.out])
                        go_wp2
                        go_ret
                        exact ⟨ret_num HE.out.symm, HB2.out⟩
                      · by_cases g2 : 127 < i.imm
                        · have HF2 := Lib.hid (show fitsI i = false by rw [HF.out, decide_eq_false (show ¬ i.imm ≤ 127 by omega), Bool.and_false])
                          have HE := Lib.hid (show insQ i r sl = 32 by unfold insQ; rw [if_neg (by rw [C1.out]; simp), if_neg (by rw [C2.out]; simp), if_neg (by rw [C4.out]; simp), if_pos HF2.out])
                          go_wp2
                          go_ret
                          exact ⟨ret_num HE.out.symm, HB2.out⟩
                        · have HF2 := Lib.hid (show fitsI i = true by rw [HF.out, decide_eq_true (show (-128 : Int) ≤ i.imm by omega), decide_eq_true (show i.imm ≤ 127 by omega)]; rfl)
                          have HE := Lib.hid (show insQ i r sl = 0 by unfold insQ; rw [if_neg (by rw [C1.out]; simp), if_neg (by rw [C2.out]; simp), if_neg (by rw [C4.out]; simp), if_neg (by rw [HF2.out]; simp)])
                          go_wp2
                          go_ret
                          exact ⟨ret_num HE.out.symm, HB2.out⟩
                    have e19 : (i.op == 19) = false := beq_eq_false_iff_ne.2 h19
                    by_cases h20 : i.op = 20
                    · have e20 : (i.op == 20) = true := beq_iff_eq.2 h20
                      have HF := Lib.hid (show fitsI i = (decide (0 ≤ i.imm) && decide (i.imm ≤ 31)) by unfold fitsI loI hiI; rw [if_neg (by omega), if_neg (by omega), if_pos (by omega), if_neg (by omega), if_neg (by omega), if_pos (by omega)])
                      clear h3 h18 h19 h20
                      by_cases g1 : i.imm < 0
                      · have HF2 := Lib.hid (show fitsI i = false by rw [HF.out, decide_eq_false (by omega)]; rfl)
                        have HE := Lib.hid (show insQ i r sl = 32 by unfold insQ; rw [if_neg (by rw [C1.out]; simp), if_neg (by rw [C2.out]; simp), if_neg (by rw [C4.out]; simp), if_pos HF2.out])
                        go_wp2
                        go_ret
                        exact ⟨ret_num HE.out.symm, HB2.out⟩
                      · by_cases g2 : 31 < i.imm
                        · have HF2 := Lib.hid (show fitsI i = false by rw [HF.out, decide_eq_false (show ¬ i.imm ≤ 31 by omega), Bool.and_false])
                          have HE := Lib.hid (show insQ i r sl = 32 by unfold insQ; rw [if_neg (by rw [C1.out]; simp), if_neg (by rw [C2.out]; simp), if_neg (by rw [C4.out]; simp), if_pos HF2.out])
                          go_wp2
                          go_ret
                          exact ⟨ret_num HE.out.symm, HB2.out⟩
                        · have HF2 := Lib.hid (show fitsI i = true by rw [HF.out, decide_eq_true (show (0 : Int) ≤ i.imm by omega), decide_eq_true (show i.imm ≤ 31 by omega)]; rfl)
                          have HE := Lib.hid (show insQ i r sl = 0 by unfold insQ; rw [if_neg (by rw [C1.out]; simp), if_neg (by rw [C2.out]; simp), if_neg (by rw [C4.out]; simp), if_neg (by rw [HF2.out]; simp)])
                          go_wp2
                          go_ret
                          exact ⟨ret_num HE.out.symm, HB2.out⟩
                    have e20 : (i.op == 20) = false := beq_eq_false_iff_ne.2 h20
                    by_cases h21 : i.op = 21
                    · have e21 : (i.op == 21) = true := beq_iff_eq.2 h21
                      have HF := Lib.hid (show fitsI i = (decide (0 ≤ i.imm) && decide (i.imm ≤ 31)) by unfold fitsI loI hiI; rw [if_neg (by omega), if_neg (by omega), if_pos (by omega), if_neg (by omega), if_neg (by omega), if_pos (by omega)])
                      clear h3 h18 h19 h20 h21
                      by_cases g1 : i.imm < 0
                      · have HF2 := Lib.hid (show fitsI i = false by rw [HF.out, decide_eq_false (by omega)]; rfl)
                        have HE := Lib.hid (show insQ i r sl = 32 by unfold insQ; rw [if_neg (by rw [C1.out]; simp), if_neg (by rw [C2.out]; simp), if_neg (by rw [C4.out]; simp), if_pos HF2.out])
                        go_wp2
                        go_ret
                        exact ⟨ret_num HE.out.symm, HB2.out⟩
                      · by_cases g2 : 31 < i.imm
                        · have HF2 := Lib.hid (show fitsI i = false by rw [HF.out, decide_eq_false (show ¬ i.imm ≤ 31 by omega), Bool.and_false])
                          have HE := Lib.hid (show insQ i r sl = 32 by unfold insQ; rw [if_neg (by rw [C1.out]; simp), if_neg (by rw [C2.out]; simp), if_neg (by rw [C4.out]; simp), if_pos HF2.out])
                          go_wp2
                          go_ret
                          exact ⟨ret_num HE.out.symm, HB2.out⟩
                        · have HF2 := Lib.hid (show fitsI i = true by rw [HF.out, decide_eq_true (show (0 : Int) ≤ i.imm by omega), decide_eq_true (show i.imm ≤ 31 by omega)]; rfl)
                          have HE := Lib.hid (show insQ i r sl = 0 by unfold insQ; rw [if_neg (by rw [C1.out]; simp), if_neg (by rw [C2.out]; simp), if_neg (by rw [C4.out]; simp), if_neg (by rw [HF2.out]; simp)])
                          go_wp2
                          go_ret
                          exact ⟨ret_num HE.out.symm, HB2.out⟩
                    have e21 : (i.op == 21) = false := beq_eq_false_iff_ne.2 h21
                    by_cases h22 : i.op = 22
                    · have e22 : (i.op == 22) = true := beq_iff_eq.2 h22
                      have HF := Lib.hid (show fitsI i = (decide (0 ≤ i.imm) && decide (i.imm ≤ 31)) by unfold fitsI loI hiI; rw [if_neg (by omega), if_neg (by omega), if_pos (by omega), if_neg (by omega), if_neg (by omega), if_pos (by omega)])
                      clear h3 h18 h19 h20 h21 h22
                      by_cases g1 : i.imm < 0
                      · have HF2 := Lib.hid (show fitsI i = false by rw [HF.out, decide_eq_false (by omega)]; rfl)
                        have HE := Lib.hid (show insQ i r sl = 32 by unfold insQ; rw [if_neg (by rw [C1.out]; simp), if_neg (by rw [C2.out]; simp), if_neg (by rw [C4.out]; simp), if_pos HF2.out])
                        go_wp2
                        go_ret
                        exact ⟨ret_num HE.out.symm, HB2.out⟩
                      · by_cases g2 : 31 < i.imm
                        · have HF2 := Lib.hid (show fitsI i = false by rw [HF.out, decide_eq_false (show ¬ i.imm ≤ 31 by omega), Bool.and_false])
                          have HE := Lib.hid (show insQ i r sl = 32 by unfold insQ; rw [if_neg (by rw [C1.out]; simp), if_neg (by rw [C2.out]; simp), if_neg (by rw [C4.out]; simp), if_pos HF2.out])
                          go_wp2
                          go_ret
                          exact ⟨ret_num HE.out.symm, HB2.out⟩
                        · have HF2 := Lib.hid (show fitsI i = true by rw [HF.out, decide_eq_true (show (0 : Int) ≤ i.imm by omega), decide_eq_true (show i.imm ≤ 31 by omega)]; rfl)
                          have HE := Lib.hid (show insQ i r sl = 0 by unfold insQ; rw [if_neg (by rw [C1.out]; simp), if_neg (by rw [C2.out]; simp), if_neg (by rw [C4.out]; simp), if_neg (by rw [HF2.out]; simp)])
                          go_wp2
                          go_ret
                          exact ⟨ret_num HE.out.symm, HB2.out⟩
                    have e22 : (i.op == 22) = false := beq_eq_false_iff_ne.2 h22
                    by_cases h24 : i.op = 24
                    · have e24 : (i.op == 24) = true := beq_iff_eq.2 h24
                      have HF := Lib.hid (show fitsI i = (decide (0 ≤ i.imm) && decide (i.imm ≤ 255)) by unfold fitsI loI hiI; rw [if_neg (by omega), if_neg (by omega), if_neg (by omega), if_pos (by omega), if_neg (by omega), if_neg (by omega), if_neg (by omega), if_pos (by omega)])
                      clear h3 h18 h19 h20 h21 h22 h24
                      by_cases g1 : i.imm < 0
                      · have HF2 := Lib.hid (show fitsI i = false by rw [HF.out, decide_eq_false (by omega)]; rfl)
                        have HE := Lib.hid (show insQ i r sl = 32 by unfold insQ; rw [if_neg (by rw [C1.out]; simp), if_neg (by rw [C2.out]; simp), if_neg (by rw [C4.out]; simp), if_pos HF2.out])
                        go_wp2
                        go_ret
                        exact ⟨ret_num HE.out.symm, HB2.out⟩
                      · by_cases g2 : 255 < i.imm
                        · have HF2 := Lib.hid (show fitsI i = false by rw [HF.out, decide_eq_false (show ¬ i.imm ≤ 255 by omega), Bool.and_false])
                          have HE := Lib.hid (show insQ i r sl = 32 by unfold insQ; rw [if_neg (by rw [C1.out]; simp), if_neg (by rw [C2.out]; simp), if_neg (by rw [C4.out]; simp), if_pos HF2.out])
                          go_wp2
                          go_ret
                          exact ⟨ret_num HE.out.symm, HB2.out⟩
                        · have HF2 := Lib.hid (show fitsI i = true by rw [HF.out, decide_eq_true (show (0 : Int) ≤ i.imm by omega), decide_eq_true (show i.imm ≤ 255 by omega)]; rfl)
                          have HE := Lib.hid (show insQ i r sl = 0 by unfold insQ; rw [if_neg (by rw [C1.out]; simp), if_neg (by rw [C2.out]; simp), if_neg (by rw [C4.out]; simp), if_neg (by rw [HF2.out]; simp)])
                          go_wp2
                          go_ret
                          exact ⟨ret_num HE.out.symm, HB2.out⟩
                    have e24 : (i.op == 24) = false := beq_eq_false_iff_ne.2 h24
                    by_cases h26 : i.op = 26
                    · have e26 : (i.op == 26) = true := beq_iff_eq.2 h26
                      have HF := Lib.hid (show fitsI i = (decide (0 ≤ i.imm) && decide (i.imm ≤ 255)) by unfold fitsI loI hiI; rw [if_neg (by omega), if_neg (by omega), if_neg (by omega), if_pos (by omega), if_neg (by omega), if_neg (by omega), if_neg (by omega), if_pos (by omega)])
                      clear h3 h18 h19 h20 h21 h22 h24 h26
                      by_cases g1 : i.imm < 0
                      · have HF2 := Lib.hid (show fitsI i = false by rw [HF.out, decide_eq_false (by omega)]; rfl)
                        have HE := Lib.hid (show insQ i r sl = 32 by unfold insQ; rw [if_neg (by rw [C1.out]; simp), if_neg (by rw [C2.out]; simp), if_neg (by rw [C4.out]; simp), if_pos HF2.out])
                        go_wp2
                        go_ret
                        exact ⟨ret_num HE.out.symm, HB2.out⟩
                      · by_cases g2 : 255 < i.imm
                        · have HF2 := Lib.hid (show fitsI i = false by rw [HF.out, decide_eq_false (show ¬ i.imm ≤ 255 by omega), Bool.and_false])
                          have HE := Lib.hid (show insQ i r sl = 32 by unfold insQ; rw [if_neg (by rw [C1.out]; simp), if_neg (by rw [C2.out]; simp), if_neg (by rw [C4.out]; simp), if_pos HF2.out])
                          go_wp2
                          go_ret
                          exact ⟨ret_num HE.out.symm, HB2.out⟩
                        · have HF2 := Lib.hid (show fitsI i = true by rw [HF.out, decide_eq_true (show (0 : Int) ≤ i.imm by omega), decide_eq_true (show i.imm ≤ 255 by omega)]; rfl)
                          have HE := Lib.hid (show insQ i r sl = 0 by unfold insQ; rw [if_neg (by rw [C1.out]; simp), if_neg (by rw [C2.out]; simp), if_neg (by rw [C4.out]; simp), if_neg (by rw [HF2.out]; simp)])
                          go_wp2
                          go_ret
                          exact ⟨ret_num HE.out.symm, HB2.out⟩
                    have e26 : (i.op == 26) = false := beq_eq_false_iff_ne.2 h26
                    have HF := Lib.hid (show fitsI i = true by unfold fitsI loI hiI; rw [if_neg (by omega), if_neg (by omega), if_neg (by omega), if_neg (by omega), if_neg (by omega), if_neg (by omega), if_neg (by omega), if_neg (by omega), decide_eq_true (by omega), decide_eq_true (by omega)]; rfl)
                    clear h3 h18 h19 h20 h21 h22 h24 h26
                    have HE := Lib.hid (show insQ i r sl = 0 by unfold insQ; rw [if_neg (by rw [C1.out]; simp), if_neg (by rw [C2.out]; simp), if_neg (by rw [C4.out]; simp), if_neg (by rw [HF.out]; simp)])
                    go_wp2
                    go_ret
                    exact ⟨ret_num HE.out.symm, HB2.out⟩
end Go.Proofs.Ytdidacjmcafcpaa.Ph
