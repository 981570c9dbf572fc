/- Stage 12: the reference's End. -/
import Derived.Test.YtdidacjmcafcpaaQF
import Derived.Test.YtdidacjmcafcpaaQB
namespace Go.Proofs.Ytdidacjmcafcpaa.Ph
open Go.ChangeShapes Go.WideShapes Go.ChangeAt Go.RowKit Go.Proofs.Ytdidacjmcafcpaa.Mem Go.Proofs.Ytdidacjmcafcpaa.Kc Go.Proofs.Ytdidacjmcafcpaa.Pl Go.Proofs.Ytdidacjmcafcpaa.Mw Go.Proofs.Ytdidacjmcafcpaa.Mc Go.Proofs.Ytdidacjmcafcpaa.Br
set_option linter.unusedVariables false
set_option linter.unusedSimpArgs false
attribute [local go_sem] Oper.semAt_some
theorem flip_f {b : Bool} (h : true = !b) : b = false := by cases b <;> simp_all
theorem flip_t {b : Bool} (h : false = !b) : b = true := by cases b <;> simp_all
def badE (op r y : Int) : Bool := badR r y || (op == 7 && decide (0 < y))
theorem any_or {l : List Int} {p q : Int → Bool} : (l.any fun y => p y || q y) = (l.any p || l.any q) := by
  induction l with
  | nil => rfl
  | cons x l ih => rw [List.any_cons, List.any_cons, List.any_cons, ih]; cases p x <;> cases q x <;> simp
theorem needs_bad (e : PEnd) (r : Int) : (needsL e).any (badE e.op r) = !(regsB r (needsL e) && !(e.op == 7 && decide (0 < e.a))) := by
  have h0 : (needsL e).any (badE e.op r) = ((needsL e).any (badR r) || (needsL e).any fun y => e.op == 7 && decide (0 < y)) := any_or
  rw [h0]
  unfold regsB
  by_cases h7 : e.op = 7
  · have hn : needsL e = if 0 ≤ e.a then [e.a] else [] := by unfold needsL; rw [if_neg (by omega), if_neg (by omega), if_neg (by omega), if_neg (by omega), if_neg (by omega), if_pos h7]
    rw [hn]
    by_cases ha : 0 ≤ e.a
    · rw [if_pos ha]; simp [h7]
    · rw [if_neg ha, decide_eq_false (show ¬ 0 < e.a by omega)]; simp
  · have e7 : (e.op == 7) = false := beq_eq_false_iff_ne.2 h7
    rw [e7]; simp
set_option maxRecDepth 100000 in
set_option maxHeartbeats 8000000 in
theorem endR_any (w : World) (e : PEnd) (A : Option Addr) (k : Nat) (r bl : Int) (hv : Ints w (.slice A e.to.length k) e.to) : Calls Try.prog 20 #[.agg #[.int .i64 e.op, .int .i64 e.a, .int .i64 e.b, .slice A e.to.length k, .int .i32 e.imm], .int .i64 r, .int .i64 bl] w fun en w' => en = .returned (.int .i64 (endQ e r bl)) ∧ Below w.heap.size w w' := by
  obtain ⟨A8, c8, e8, hc81, hc82, -⟩ := id hv
  injection e8 with e81 e82 e83
  subst e83
  unfold maxLen at hc82
  clear e81 e82
  obtain ⟨W1, hW1⟩ : ∃ W1, w.alloc (.cells #[.int .i64 e.op, .int .i64 e.a, .int .i64 e.b, .slice A e.to.length k, .int .i32 e.imm] 26) = W1 := ⟨_, rfl⟩
  have hb1 : Below w.heap.size w W1 := by rw [← hW1]; exact (Below.refl _ _).alloc (Nat.le_refl _) _
  have hs1 : Str W1 w.heap.size 26 [.int .i64 e.op, .int .i64 e.a, .int .i64 e.b, .slice A e.to.length k, .int .i32 e.imm] := by rw [← hW1]; exact World.alloc_heap_new w _
  have HB1 := Lib.hid hb1
  have m0 : W1.cell? ⟨w.heap.size, 0, none⟩ = some (.int .i64 e.op) := hs1.cell 0
  have m1 : W1.cell? ⟨w.heap.size, 1, none⟩ = some (.int .i64 e.a) := hs1.cell 1
  have m2 : W1.cell? ⟨w.heap.size, 2, none⟩ = some (.int .i64 e.b) := hs1.cell 2
  have m3 : W1.cell? ⟨w.heap.size, 3, none⟩ = some (.slice A e.to.length k) := hs1.cell 3
  have m4 : W1.cell? ⟨w.heap.size, 4, none⟩ = some (.int .i32 e.imm) := hs1.cell 4
  clear hb1 hs1
  have HV := Lib.hid (ints_low hv HB1.out)
  clear hv
  by_cases h1 : e.op = 1
  · have e1 : (e.op == 1) = true := beq_iff_eq.2 h1
    have HF := Lib.hid (show mayE e.op e.to.length = ((e.to.length : Int) == 1) by unfold mayE; rw [if_pos (by omega)])
    have e7 : (e.op == 7) = false := beq_eq_false_iff_ne.2 (by omega)
    clear h1
    cases hm : ((e.to.length : Int) == 1) with
    | true =>
      have C1 := Lib.hid (HF.out.trans hm)
      go_enter Try.func20, Try.ntmps20
      go_wp2_with fail
      clear hW1
      refine (rneeds_any W1 e A e.to.length k).mono ?_
      rintro e' w2 ⟨v2, rfl, ho, hb⟩
      have HB2 := Lib.hid (HB1.out.trans (hb.mono HB1.out.size))
      have HO2 := Lib.hid (OwnInts.ints ho)
      have HV2 := Lib.hid (ints_low HV.out hb)
      have m0 : w2.cell? ⟨w.heap.size, 0, none⟩ = some (.int .i64 e.op) := cell_keep hb (Nat.le_refl _) m0
      have m1 : w2.cell? ⟨w.heap.size, 1, none⟩ = some (.int .i64 e.a) := cell_keep hb (Nat.le_refl _) m1
      have m2 : w2.cell? ⟨w.heap.size, 2, none⟩ = some (.int .i64 e.b) := cell_keep hb (Nat.le_refl _) m2
      have m3 : w2.cell? ⟨w.heap.size, 3, none⟩ = some (.slice A e.to.length k) := cell_keep hb (Nat.le_refl _) m3
      have m4 : w2.cell? ⟨w.heap.size, 4, none⟩ = some (.int .i32 e.imm) := cell_keep hb (Nat.le_refl _) m4
      obtain ⟨LA, lc, rfl⟩ := own_form ho
      have HNR := Lib.hid (needs_bad e r)
      generalize hnl : needsL e = nl at *
      have HNL := Lib.hid hnl
      clear hnl
      have hcap := HO2.out
      obtain ⟨A9, c9, e9, hc1, hc2, -⟩ := hcap
      unfold maxLen at hc2
      injection e9 with e91 e92 e93
      subst e93
      clear hb ho e91 e92
      go_wp2_with fail
      go_loopw [10] (fun jv wr => ∃ j : Nat, j ≤ nl.length ∧ jv = .int .i64 j ∧ (nl.take j).any (badE e.op r) = false ∧ wr = w2) (fun jv _ => nl.length - (intOf jv).toNat)
      case atStart => exact ⟨0, Nat.zero_le _, rfl, rfl, rfl⟩
      case round =>
        obtain ⟨j, hj, rfl, hno, hw9⟩ := hrel
        obtain rfl : w2 = wr := hw9.symm
        have HNO := Lib.hid hno
        clear hno
        by_cases hlt : j < nl.length
        · obtain ⟨A', c', ee, -, -, hcc⟩ := HO2.out
          injection ee with e1 e2 e3
          subst e1 e3
          obtain ⟨ad, rfl, hz⟩ := hcc j hlt
          have HT := Lib.hid (any_step hlt HNO.out)
          have HY := Lib.hid (fun h => any_yes (q := badE e.op r) hlt h)
          have hj1 : j + 1 ≤ nl.length := hlt
          clear hcc e2
          generalize nl[j] = y at *
          have HBR := Lib.hid (show badE e.op r y = ((decide (y < 0) || decide (r ≤ y)) || (e.op == 7 && decide (0 < y))) from rfl)
          by_cases g1 : y < 0
          · skip
            have C2 := Lib.hid (show (regsB r (needsL e) && !(e.op == 7 && decide (0 < e.a))) = false by
              have h := HNR.out
              rw [HY.out (by rw [HBR.out, decide_eq_true g1]; rfl)] at h
              rw [HNL.out]
              exact flip_f h)
            have HE := Lib.hid (show endQ e r bl = 31 by unfold endQ; rw [if_neg (by rw [C1.out]; simp), if_pos C2.out])
            go_wp2
            go_ret
            exact ⟨ret_num HE.out.symm, HB2.out⟩
          · by_cases g2 : r ≤ y
            · skip
              have C2 := Lib.hid (show (regsB r (needsL e) && !(e.op == 7 && decide (0 < e.a))) = false by
                have h := HNR.out
                rw [HY.out (by rw [HBR.out, decide_eq_true g2, Bool.or_true]; rfl)] at h
                rw [HNL.out]
                exact flip_f h)
              have HE := Lib.hid (show endQ e r bl = 31 by unfold endQ; rw [if_neg (by rw [C1.out]; simp), if_pos C2.out])
              go_wp2
              go_ret
              exact ⟨ret_num HE.out.symm, HB2.out⟩
            · skip
              have HR := Lib.hid (show (nl.take (j + 1)).any (badE e.op r) = false by rw [HT.out, HBR.out, decide_eq_false g1, decide_eq_false g2, e7, Bool.false_and]; rfl)
              go_wp2_with fail
              exact ⟨⟨j + 1, hj1, by go_num, HR.out, trivial⟩, by simp [intOf]; omega⟩
        · obtain rfl : j = nl.length := by omega
          have C2 := Lib.hid (show (regsB r (needsL e) && !(e.op == 7 && decide (0 < e.a))) = true by
            have h := HNR.out
            have h2 := HNO.out
            rw [List.take_length] at h2
            rw [h2] at h
            rw [HNL.out]
            exact flip_t h)
          clear HNO HNR
          go_wp2_with fail
          go_loopw [11] (fun jv wr => ∃ j : Nat, j ≤ e.to.length ∧ jv = .int .i64 j ∧ (e.to.take j).any (badTo bl) = false ∧ wr = w2) (fun jv _ => e.to.length - (intOf jv).toNat)
          case atStart => exact ⟨0, Nat.zero_le _, rfl, rfl, rfl⟩
          case round =>
            obtain ⟨j, hj, rfl, hno, hw9⟩ := hrel
            obtain rfl : w2 = wr := hw9.symm
            have HNO := Lib.hid hno
            clear hno
            by_cases hlt : j < e.to.length
            · obtain ⟨A', c', ee, -, -, hcc⟩ := HV2.out
              injection ee with e1 e2 e3
              subst e1 e3
              obtain ⟨ad, rfl, hz⟩ := hcc j hlt
              have HT := Lib.hid (any_step hlt HNO.out)
              have HY := Lib.hid (fun h => any_yes (q := badTo bl) hlt h)
              have hj1 : j + 1 ≤ e.to.length := hlt
              clear hcc e2
              generalize e.to[j] = y at *
              have HBR := Lib.hid (show badTo bl y = (decide (y < 1) || decide (bl ≤ y)) from rfl)
              by_cases g1 : y < 1
              · have HR := Lib.hid (HY.out (by rw [HBR.out, decide_eq_true g1]; rfl))
                have HE := Lib.hid (show endQ e r bl = 14 by unfold endQ; rw [if_neg (by rw [C1.out]; simp), if_neg (by rw [C2.out]; simp), if_pos HR.out])
                go_wp2
                go_ret
                exact ⟨ret_num HE.out.symm, HB2.out⟩
              · by_cases g2 : bl ≤ y
                · have HR := Lib.hid (HY.out (by rw [HBR.out, decide_eq_true g2, Bool.or_true]))
                  have HE := Lib.hid (show endQ e r bl = 14 by unfold endQ; rw [if_neg (by rw [C1.out]; simp), if_neg (by rw [C2.out]; simp), if_pos HR.out])
                  go_wp2
                  go_ret
                  exact ⟨ret_num HE.out.symm, HB2.out⟩
                · have HR := Lib.hid (show (e.to.take (j + 1)).any (badTo bl) = false by rw [HT.out, HBR.out, decide_eq_false g1, decide_eq_false g2]; rfl)
                  go_wp2_with fail
                  exact ⟨⟨j + 1, hj1, by go_num, HR.out, trivial⟩, by simp [intOf]; omega⟩
            · obtain rfl : j = e.to.length := by omega
              have HR := Lib.hid (show e.to.any (badTo bl) = false by have h := HNO.out; rwa [List.take_length] at h)
              clear HNO
              have HE := Lib.hid (show endQ e r bl = 0 by unfold endQ; rw [if_neg (by rw [C1.out]; simp), if_neg (by rw [C2.out]; simp), if_neg (by rw [HR.out]; simp)])
              go_wp2
              go_ret
              exact ⟨ret_num HE.out.symm, HB2.out⟩
    | false =>
      have C1 := Lib.hid (HF.out.trans hm)
      have HE := Lib.hid (show endQ e r bl = 30 by unfold endQ; rw [if_pos C1.out])
      go_enter Try.func20, Try.ntmps20
      go_wp2
      go_ret
      exact ⟨ret_num HE.out.symm, HB1.out⟩
  have e1 : (e.op == 1) = false := beq_eq_false_iff_ne.2 h1
  by_cases h2 : e.op = 2
  · have e2 : (e.op == 2) = true := beq_iff_eq.2 h2
    have HF := Lib.hid (show mayE e.op e.to.length = ((e.to.length : Int) == 2) by unfold mayE; rw [if_neg (by omega), if_pos (by omega)])
    have e7 : (e.op == 7) = false := beq_eq_false_iff_ne.2 (by omega)
    clear h1 h2
    cases hm : ((e.to.length : Int) == 2) with
    | true =>
      have C1 := Lib.hid (HF.out.trans hm)
      go_enter Try.func20, Try.ntmps20
      go_wp2_with fail
      clear hW1
      refine (rneeds_any W1 e A e.to.length k).mono ?_
      rintro e' w2 ⟨v2, rfl, ho, hb⟩
      have HB2 := Lib.hid (HB1.out.trans (hb.mono HB1.out.size))
      have HO2 := Lib.hid (OwnInts.ints ho)
      have HV2 := Lib.hid (ints_low HV.out hb)
      have m0 : w2.cell? ⟨w.heap.size, 0, none⟩ = some (.int .i64 e.op) := cell_keep hb (Nat.le_refl _) m0
      have m1 : w2.cell? ⟨w.heap.size, 1, none⟩ = some (.int .i64 e.a) := cell_keep hb (Nat.le_refl _) m1
      have m2 : w2.cell? ⟨w.heap.size, 2, none⟩ = some (.int .i64 e.b) := cell_keep hb (Nat.le_refl _) m2
      have m3 : w2.cell? ⟨w.heap.size, 3, none⟩ = some (.slice A e.to.length k) := cell_keep hb (Nat.le_refl _) m3
      have m4 : w2.cell? ⟨w.heap.size, 4, none⟩ = some (.int .i32 e.imm) := cell_keep hb (Nat.le_refl _) m4
      obtain ⟨LA, lc, rfl⟩ := own_form ho
      have HNR := Lib.hid (needs_bad e r)
      generalize hnl : needsL e = nl at *
      have HNL := Lib.hid hnl
      clear hnl
      have hcap := HO2.out
      obtain ⟨A9, c9, e9, hc1, hc2, -⟩ := hcap
      unfold maxLen at hc2
      injection e9 with e91 e92 e93
      subst e93
      clear hb ho e91 e92
      go_wp2_with fail
      go_loopw [10] (fun jv wr => ∃ j : Nat, j ≤ nl.length ∧ jv = .int .i64 j ∧ (nl.take j).any (badE e.op r) = false ∧ wr = w2) (fun jv _ => nl.length - (intOf jv).toNat)
      case atStart => exact ⟨0, Nat.zero_le _, rfl, rfl, rfl⟩
      case round =>
        obtain ⟨j, hj, rfl, hno, hw9⟩ := hrel
        obtain rfl : w2 = wr := hw9.symm
        have HNO := Lib.hid hno
        clear hno
        by_cases hlt : j < nl.length
        · obtain ⟨A', c', ee, -, -, hcc⟩ := HO2.out
          injection ee with e1 e2 e3
          subst e1 e3
          obtain ⟨ad, rfl, hz⟩ := hcc j hlt
          have HT := Lib.hid (any_step hlt HNO.out)
          have HY := Lib.hid (fun h => any_yes (q := badE e.op r) hlt h)
          have hj1 : j + 1 ≤ nl.length := hlt
          clear hcc e2
          generalize nl[j] = y at *
          have HBR := Lib.hid (show badE e.op r y = ((decide (y < 0) || decide (r ≤ y)) || (e.op == 7 && decide (0 < y))) from rfl)
          by_cases g1 : y < 0
          · skip
            have C2 := Lib.hid (show (regsB r (needsL e) && !(e.op == 7 && decide (0 < e.a))) = false by
              have h := HNR.out
              rw [HY.out (by rw [HBR.out, decide_eq_true g1]; rfl)] at h
              rw [HNL.out]
              exact flip_f h)
            have HE := Lib.hid (show endQ e r bl = 31 by unfold endQ; rw [if_neg (by rw [C1.out]; simp), if_pos C2.out])
            go_wp2
            go_ret
            exact ⟨ret_num HE.out.symm, HB2.out⟩
          · by_cases g2 : r ≤ y
            · skip
              have C2 := Lib.hid (show (regsB r (needsL e) && !(e.op == 7 && decide (0 < e.a))) = false by
                have h := HNR.out
                rw [HY.out (by rw [HBR.out, decide_eq_true g2, Bool.or_true]; rfl)] at h
                rw [HNL.out]
                exact flip_f h)
              have HE := Lib.hid (show endQ e r bl = 31 by unfold endQ; rw [if_neg (by rw [C1.out]; simp), if_pos C2.out])
              go_wp2
              go_ret
              exact ⟨ret_num HE.out.symm, HB2.out⟩
            · skip
              have HR := Lib.hid (show (nl.take (j + 1)).any (badE e.op r) = false by rw [HT.out, HBR.out, decide_eq_false g1, decide_eq_false g2, e7, Bool.false_and]; rfl)
              go_wp2_with fail
              exact ⟨⟨j + 1, hj1, by go_num, HR.out, trivial⟩, by simp [intOf]; omega⟩
        · obtain rfl : j = nl.length := by omega
          have C2 := Lib.hid (show (regsB r (needsL e) && !(e.op == 7 && decide (0 < e.a))) = true by
            have h := HNR.out
            have h2 := HNO.out
            rw [List.take_length] at h2
            rw [h2] at h
            rw [HNL.out]
            exact flip_t h)
          clear HNO HNR
          go_wp2_with fail
          go_loopw [11] (fun jv wr => ∃ j : Nat, j ≤ e.to.length ∧ jv = .int .i64 j ∧ (e.to.take j).any (badTo bl) = false ∧ wr = w2) (fun jv _ => e.to.length - (intOf jv).toNat)
          case atStart => exact ⟨0, Nat.zero_le _, rfl, rfl, rfl⟩
          case round =>
            obtain ⟨j, hj, rfl, hno, hw9⟩ := hrel
            obtain rfl : w2 = wr := hw9.symm
            have HNO := Lib.hid hno
            clear hno
            by_cases hlt : j < e.to.length
            · obtain ⟨A', c', ee, -, -, hcc⟩ := HV2.out
              injection ee with e1 e2 e3
              subst e1 e3
              obtain ⟨ad, rfl, hz⟩ := hcc j hlt
              have HT := Lib.hid (any_step hlt HNO.out)
              have HY := Lib.hid (fun h => any_yes (q := badTo bl) hlt h)
              have hj1 : j + 1 ≤ e.to.length := hlt
              clear hcc e2
              generalize e.to[j] = y at *
              have HBR := Lib.hid (show badTo bl y = (decide (y < 1) || decide (bl ≤ y)) from rfl)
              by_cases g1 : y < 1
              · have HR := Lib.hid (HY.out (by rw [HBR.out, decide_eq_true g1]; rfl))
                have HE := Lib.hid (show endQ e r bl = 14 by unfold endQ; rw [if_neg (by rw [C1.out]; simp), if_neg (by rw [C2.out]; simp), if_pos HR.out])
                go_wp2
                go_ret
                exact ⟨ret_num HE.out.symm, HB2.out⟩
              · by_cases g2 : bl ≤ y
                · have HR := Lib.hid (HY.out (by rw [HBR.out, decide_eq_true g2, Bool.or_true]))
                  have HE := Lib.hid (show endQ e r bl = 14 by unfold endQ; rw [if_neg (by rw [C1.out]; simp), if_neg (by rw [C2.out]; simp), if_pos HR.out])
                  go_wp2
                  go_ret
                  exact ⟨ret_num HE.out.symm, HB2.out⟩
                · have HR := Lib.hid (show (e.to.take (j + 1)).any (badTo bl) = false by rw [HT.out, HBR.out, decide_eq_false g1, decide_eq_false g2]; rfl)
                  go_wp2_with fail
                  exact ⟨⟨j + 1, hj1, by go_num, HR.out, trivial⟩, by simp [intOf]; omega⟩
            · obtain rfl : j = e.to.length := by omega
              have HR := Lib.hid (show e.to.any (badTo bl) = false by have h := HNO.out; rwa [List.take_length] at h)
              clear HNO
              have HE := Lib.hid (show endQ e r bl = 0 by unfold endQ; rw [if_neg (by rw [C1.out]; simp), if_neg (by rw [C2.out]; simp), if_neg (by rw [HR.out]; simp)])
              go_wp2
              go_ret
              exact ⟨ret_num HE.out.symm, HB2.out⟩
    | false =>
      have C1 := Lib.hid (HF.out.trans hm)
      have HE := Lib.hid (show endQ e r bl = 30 by unfold endQ; rw [if_pos C1.out])
      go_enter Try.func20, Try.ntmps20
      go_wp2
      go_ret
      exact ⟨ret_num HE.out.symm, HB1.out⟩
  have e2 : (e.op == 2) = false := beq_eq_false_iff_ne.2 h2
  by_cases h3 : e.op = 3
  · have e3 : (e.op == 3) = true := beq_iff_eq.2 h3
    have HF := Lib.hid (show mayE e.op e.to.length = ((e.to.length : Int) == 2) by unfold mayE; rw [if_neg (by omega), if_pos (by omega)])
    have e7 : (e.op == 7) = false := beq_eq_false_iff_ne.2 (by omega)
    clear h1 h2 h3
    cases hm : ((e.to.length : Int) == 2) with
    | true =>
      have C1 := Lib.hid (HF.out.trans hm)
      go_enter Try.func20, Try.ntmps20
      go_wp2_with fail
      clear hW1
      refine (rneeds_any W1 e A e.to.length k).mono ?_
      rintro e' w2 ⟨v2, rfl, ho, hb⟩
      have HB2 := Lib.hid (HB1.out.trans (hb.mono HB1.out.size))
      have HO2 := Lib.hid (OwnInts.ints ho)
      have HV2 := Lib.hid (ints_low HV.out hb)
      have m0 : w2.cell? ⟨w.heap.size, 0, none⟩ = some (.int .i64 e.op) := cell_keep hb (Nat.le_refl _) m0
      have m1 : w2.cell? ⟨w.heap.size, 1, none⟩ = some (.int .i64 e.a) := cell_keep hb (Nat.le_refl _) m1
      have m2 : w2.cell? ⟨w.heap.size, 2, none⟩ = some (.int .i64 e.b) := cell_keep hb (Nat.le_refl _) m2
      have m3 : w2.cell? ⟨w.heap.size, 3, none⟩ = some (.slice A e.to.length k) := cell_keep hb (Nat.le_refl _) m3
      have m4 : w2.cell? ⟨w.heap.size, 4, none⟩ = some (.int .i32 e.imm) := cell_keep hb (Nat.le_refl _) m4
      obtain ⟨LA, lc, rfl⟩ := own_form ho
      have HNR := Lib.hid (needs_bad e r)
      generalize hnl : needsL e = nl at *
      have HNL := Lib.hid hnl
      clear hnl
      have hcap := HO2.out
      obtain ⟨A9, c9, e9, hc1, hc2, -⟩ := hcap
      unfold maxLen at hc2
      injection e9 with e91 e92 e93
      subst e93
      clear hb ho e91 e92
      go_wp2_with fail
      go_loopw [10] (fun jv wr => ∃ j : Nat, j ≤ nl.length ∧ jv = .int .i64 j ∧ (nl.take j).any (badE e.op r) = false ∧ wr = w2) (fun jv _ => nl.length - (intOf jv).toNat)
      case atStart => exact ⟨0, Nat.zero_le _, rfl, rfl, rfl⟩
      case round =>
        obtain ⟨j, hj, rfl, hno, hw9⟩ := hrel
        obtain rfl : w2 = wr := hw9.symm
        have HNO := Lib.hid hno
        clear hno
        by_cases hlt : j < nl.length
        · obtain ⟨A', c', ee, -, -, hcc⟩ := HO2.out
          injection ee with e1 e2 e3
          subst e1 e3
          obtain ⟨ad, rfl, hz⟩ := hcc j hlt
          have HT := Lib.hid (any_step hlt HNO.out)
          have HY := Lib.hid (fun h => any_yes (q := badE e.op r) hlt h)
          have hj1 : j + 1 ≤ nl.length := hlt
          clear hcc e2
          generalize nl[j] = y at *
          have HBR := Lib.hid (show badE e.op r y = ((decide (y < 0) || decide (r ≤ y)) || (e.op == 7 && decide (0 < y))) from rfl)
          by_cases g1 : y < 0
          · skip
            have C2 := Lib.hid (show (regsB r (needsL e) && !(e.op == 7 && decide (0 < e.a))) = false by
              have h := HNR.out
              rw [HY.out (by rw [HBR.out, decide_eq_true g1]; rfl)] at h
              rw [HNL.out]
              exact flip_f h)
            have HE := Lib.hid (show endQ e r bl = 31 by unfold endQ; rw [if_neg (by rw [C1.out]; simp), if_pos C2.out])
            go_wp2
            go_ret
            exact ⟨ret_num HE.out.symm, HB2.out⟩
          · by_cases g2 : r ≤ y
            · skip
              have C2 := Lib.hid (show (regsB r (needsL e) && !(e.op == 7 && decide (0 < e.a))) = false by
                have h := HNR.out
                rw [HY.out (by rw [HBR.out, decide_eq_true g2, Bool.or_true]; rfl)] at h
                rw [HNL.out]
                exact flip_f h)
              have HE := Lib.hid (show endQ e r bl = 31 by unfold endQ; rw [if_neg (by rw [C1.out]; simp), if_pos C2.out])
              go_wp2
              go_ret
              exact ⟨ret_num HE.out.symm, HB2.out⟩
            · skip
              have HR := Lib.hid (show (nl.take (j + 1)).any (badE e.op r) = false by rw [HT.out, HBR.out, decide_eq_false g1, decide_eq_false g2, e7, Bool.false_and]; rfl)
              go_wp2_with fail
              exact ⟨⟨j + 1, hj1, by go_num, HR.out, trivial⟩, by simp [intOf]; omega⟩
        · obtain rfl : j = nl.length := by omega
          have C2 := Lib.hid (show (regsB r (needsL e) && !(e.op == 7 && decide (0 < e.a))) = true by
            have h := HNR.out
            have h2 := HNO.out
            rw [List.take_length] at h2
            rw [h2] at h
            rw [HNL.out]
            exact flip_t h)
          clear HNO HNR
          go_wp2_with fail
          go_loopw [11] (fun jv wr => ∃ j : Nat, j ≤ e.to.length ∧ jv = .int .i64 j ∧ (e.to.take j).any (badTo bl) = false ∧ wr = w2) (fun jv _ => e.to.length - (intOf jv).toNat)
          case atStart => exact ⟨0, Nat.zero_le _, rfl, rfl, rfl⟩
          case round =>
            obtain ⟨j, hj, rfl, hno, hw9⟩ := hrel
            obtain rfl : w2 = wr := hw9.symm
            have HNO := Lib.hid hno
            clear hno
            by_cases hlt : j < e.to.length
            · obtain ⟨A', c', ee, -, -, hcc⟩ := HV2.out
              injection ee with e1 e2 e3
              subst e1 e3
              obtain ⟨ad, rfl, hz⟩ := hcc j hlt
              have HT := Lib.hid (any_step hlt HNO.out)
              have HY := Lib.hid (fun h => any_yes (q := badTo bl) hlt h)
              have hj1 : j + 1 ≤ e.to.length := hlt
              clear hcc e2
              generalize e.to[j] = y at *
              have HBR := Lib.hid (show badTo bl y = (decide (y < 1) || decide (bl ≤ y)) from rfl)
              by_cases g1 : y < 1
              · have HR := Lib.hid (HY.out (by rw [HBR.out, decide_eq_true g1]; rfl))
                have HE := Lib.hid (show endQ e r bl = 14 by unfold endQ; rw [if_neg (by rw [C1.out]; simp), if_neg (by rw [C2.out]; simp), if_pos HR.out])
                go_wp2
                go_ret
                exact ⟨ret_num HE.out.symm, HB2.out⟩
              · by_cases g2 : bl ≤ y
                · have HR := Lib.hid (HY.out (by rw [HBR.out, decide_eq_true g2, Bool.or_true]))
                  have HE := Lib.hid (show endQ e r bl = 14 by unfold endQ; rw [if_neg (by rw [C1.out]; simp), if_neg (by rw [C2.out]; simp), if_pos HR.out])
                  go_wp2
                  go_ret
                  exact ⟨ret_num HE.out.symm, HB2.out⟩
                · have HR := Lib.hid (show (e.to.take (j + 1)).any (badTo bl) = false by rw [HT.out, HBR.out, decide_eq_false g1, decide_eq_false g2]; rfl)
                  go_wp2_with fail
                  exact ⟨⟨j + 1, hj1, by go_num, HR.out, trivial⟩, by simp [intOf]; omega⟩
            · obtain rfl : j = e.to.length := by omega
              have HR := Lib.hid (show e.to.any (badTo bl) = false by have h := HNO.out; rwa [List.take_length] at h)
              clear HNO
              have HE := Lib.hid (show endQ e r bl = 0 by unfold endQ; rw [if_neg (by rw [C1.out]; simp), if_neg (by rw [C2.out]; simp), if_neg (by rw [HR.out]; simp)])
              go_wp2
              go_ret
              exact ⟨ret_num HE.out.symm, HB2.out⟩
    | false =>
      have C1 := Lib.hid (HF.out.trans hm)
      have HE := Lib.hid (show endQ e r bl = 30 by unfold endQ; rw [if_pos C1.out])
      go_enter Try.func20, Try.ntmps20
      go_wp2
      go_ret
      exact ⟨ret_num HE.out.symm, HB1.out⟩
  have e3 : (e.op == 3) = false := beq_eq_false_iff_ne.2 h3
  by_cases h4 : e.op = 4
  · have e4 : (e.op == 4) = true := beq_iff_eq.2 h4
    have HF := Lib.hid (show mayE e.op e.to.length = ((e.to.length : Int) == 2) by unfold mayE; rw [if_neg (by omega), if_pos (by omega)])
    have e7 : (e.op == 7) = false := beq_eq_false_iff_ne.2 (by omega)
    clear h1 h2 h3 h4
    cases hm : ((e.to.length : Int) == 2) with
    | true =>
      have C1 := Lib.hid (HF.out.trans hm)
      go_enter Try.func20, Try.ntmps20
      go_wp2_with fail
      clear hW1
      refine (rneeds_any W1 e A e.to.length k).mono ?_
      rintro e' w2 ⟨v2, rfl, ho, hb⟩
      have HB2 := Lib.hid (HB1.out.trans (hb.mono HB1.out.size))
      have HO2 := Lib.hid (OwnInts.ints ho)
      have HV2 := Lib.hid (ints_low HV.out hb)
      have m0 : w2.cell? ⟨w.heap.size, 0, none⟩ = some (.int .i64 e.op) := cell_keep hb (Nat.le_refl _) m0
      have m1 : w2.cell? ⟨w.heap.size, 1, none⟩ = some (.int .i64 e.a) := cell_keep hb (Nat.le_refl _) m1
      have m2 : w2.cell? ⟨w.heap.size, 2, none⟩ = some (.int .i64 e.b) := cell_keep hb (Nat.le_refl _) m2
      have m3 : w2.cell? ⟨w.heap.size, 3, none⟩ = some (.slice A e.to.length k) := cell_keep hb (Nat.le_refl _) m3
      have m4 : w2.cell? ⟨w.heap.size, 4, none⟩ = some (.int .i32 e.imm) := cell_keep hb (Nat.le_refl _) m4
      obtain ⟨LA, lc, rfl⟩ := own_form ho
      have HNR := Lib.hid (needs_bad e r)
      generalize hnl : needsL e = nl at *
      have HNL := Lib.hid hnl
      clear hnl
      have hcap := HO2.out
      obtain ⟨A9, c9, e9, hc1, hc2, -⟩ := hcap
      unfold maxLen at hc2
      injection e9 with e91 e92 e93
      subst e93
      clear hb ho e91 e92
      go_wp2_with fail
      go_loopw [10] (fun jv wr => ∃ j : Nat, j ≤ nl.length ∧ jv = .int .i64 j ∧ (nl.take j).any (badE e.op r) = false ∧ wr = w2) (fun jv _ => nl.length - (intOf jv).toNat)
      case atStart => exact ⟨0, Nat.zero_le _, rfl, rfl, rfl⟩
      case round =>
        obtain ⟨j, hj, rfl, hno, hw9⟩ := hrel
        obtain rfl : w2 = wr := hw9.symm
        have HNO := Lib.hid hno
        clear hno
        by_cases hlt : j < nl.length
        · obtain ⟨A', c', ee, -, -, hcc⟩ := HO2.out
          injection ee with e1 e2 e3
          subst e1 e3
          obtain ⟨ad, rfl, hz⟩ := hcc j hlt
          have HT := Lib.hid (any_step hlt HNO.out)
          have HY := Lib.hid (fun h => any_yes (q := badE e.op r) hlt h)
          have hj1 : j + 1 ≤ nl.length := hlt
          clear hcc e2
          generalize nl[j] = y at *
          have HBR := Lib.hid (show badE e.op r y = ((decide (y < 0) || decide (r ≤ y)) || (e.op == 7 && decide (0 < y))) from rfl)
          by_cases g1 : y < 0
          · skip
            have C2 := Lib.hid (show (regsB r (needsL e) && !(e.op == 7 && decide (0 < e.a))) = false by
              have h := HNR.out
              rw [HY.out (by rw [HBR.out, decide_eq_true g1]; rfl)] at h
              rw [HNL.out]
              exact flip_f h)
            have HE := Lib.hid (show endQ e r bl = 31 by unfold endQ; rw [if_neg (by rw [C1.out]; simp), if_pos C2.out])
            go_wp2
            go_ret
            exact ⟨ret_num HE.out.symm, HB2.out⟩
          · by_cases g2 : r ≤ y
            · skip
              have C2 := Lib.hid (show (regsB r (needsL e) && !(e.op == 7 && decide (0 < e.a))) = false by
                have h := HNR.out
                rw [HY.out (by rw [HBR.out, decide_eq_true g2, Bool.or_true]; rfl)] at h
                rw [HNL.out]
                exact flip_f h)
              have HE := Lib.hid (show endQ e r bl = 31 by unfold endQ; rw [if_neg (by rw [C1.out]; simp), if_pos C2.out])
              go_wp2
              go_ret
              exact ⟨ret_num HE.out.symm, HB2.out⟩
            · skip
              have HR := Lib.hid (show (nl.take (j + 1)).any (badE e.op r) = false by rw [HT.out, HBR.out, decide_eq_false g1, decide_eq_false g2, e7, Bool.false_and]; rfl)
              go_wp2_with fail
              exact ⟨⟨j + 1, hj1, by go_num, HR.out, trivial⟩, by simp [intOf]; omega⟩
        · obtain rfl : j = nl.length := by omega
          have C2 := Lib.hid (show (regsB r (needsL e) && !(e.op == 7 && decide (0 < e.a))) = true by
            have h := HNR.out
            have h2 := HNO.out
            rw [List.take_length] at h2
            rw [h2] at h
            rw [HNL.out]
            exact flip_t h)
          clear HNO HNR
          go_wp2_with fail
          go_loopw [11] (fun jv wr => ∃ j : Nat, j ≤ e.to.length ∧ jv = .int .i64 j ∧ (e.to.take j).any (badTo bl) = false ∧ wr = w2) (fun jv _ => e.to.length - (intOf jv).toNat)
          case atStart => exact ⟨0, Nat.zero_le _, rfl, rfl, rfl⟩
          case round =>
            obtain ⟨j, hj, rfl, hno, hw9⟩ := hrel
            obtain rfl : w2 = wr := hw9.symm
            have HNO := Lib.hid hno
            clear hno
            by_cases hlt : j < e.to.length
            · obtain ⟨A', c', ee, -, -, hcc⟩ := HV2.out
              injection ee with e1 e2 e3
              subst e1 e3
              obtain ⟨ad, rfl, hz⟩ := hcc j hlt
              have HT := Lib.hid (any_step hlt HNO.out)
              have HY := Lib.hid (fun h => any_yes (q := badTo bl) hlt h)
              have hj1 : j + 1 ≤ e.to.length := hlt
              clear hcc e2
              generalize e.to[j] = y at *
              have HBR := Lib.hid (show badTo bl y = (decide (y < 1) || decide (bl ≤ y)) from rfl)
              by_cases g1 : y < 1
              · have HR := Lib.hid (HY.out (by rw [HBR.out, decide_eq_true g1]; rfl))
                have HE := Lib.hid (show endQ e r bl = 14 by unfold endQ; rw [if_neg (by rw [C1.out]; simp), if_neg (by rw [C2.out]; simp), if_pos HR.out])
                go_wp2
                go_ret
                exact ⟨ret_num HE.out.symm, HB2.out⟩
              · by_cases g2 : bl ≤ y
                · have HR := Lib.hid (HY.out (by rw [HBR.out, decide_eq_true g2, Bool.or_true]))
                  have HE := Lib.hid (show endQ e r bl = 14 by unfold endQ; rw [if_neg (by rw [C1.out]; simp), if_neg (by rw [C2.out]; simp), if_pos HR.out])
                  go_wp2
                  go_ret
                  exact ⟨ret_num HE.out.symm, HB2.out⟩
                · have HR := Lib.hid (show (e.to.take (j + 1)).any (badTo bl) = false by rw [HT.out, HBR.out, decide_eq_false g1, decide_eq_false g2]; rfl)
                  go_wp2_with fail
                  exact ⟨⟨j + 1, hj1, by go_num, HR.out, trivial⟩, by simp [intOf]; omega⟩
            · obtain rfl : j = e.to.length := by omega
              have HR := Lib.hid (show e.to.any (badTo bl) = false by have h := HNO.out; rwa [List.take_length] at h)
              clear HNO
              have HE := Lib.hid (show endQ e r bl = 0 by unfold endQ; rw [if_neg (by rw [C1.out]; simp), if_neg (by rw [C2.out]; simp), if_neg (by rw [HR.out]; simp)])
              go_wp2
              go_ret
              exact ⟨ret_num HE.out.symm, HB2.out⟩
    | false =>
      have C1 := Lib.hid (HF.out.trans hm)
      have HE := Lib.hid (show endQ e r bl = 30 by unfold endQ; rw [if_pos C1.out])
      go_enter Try.func20, Try.ntmps20
      go_wp2
      go_ret
      exact ⟨ret_num HE.out.symm, HB1.out⟩
  have e4 : (e.op == 4) = false := beq_eq_false_iff_ne.2 h4
  by_cases h5 : e.op = 5
  · have e5 : (e.op == 5) = true := beq_iff_eq.2 h5
    have HF := Lib.hid (show mayE e.op e.to.length = ((e.to.length : Int) == 2) by unfold mayE; rw [if_neg (by omega), if_pos (by omega)])
    have e7 : (e.op == 7) = false := beq_eq_false_iff_ne.2 (by omega)
    clear h1 h2 h3 h4 h5
    cases hm : ((e.to.length : Int) == 2) with
    | true =>
      have C1 := Lib.hid (HF.out.trans hm)
      go_enter Try.func20, Try.ntmps20
      go_wp2_with fail
      clear hW1
      refine (rneeds_any W1 e A e.to.length k).mono ?_
      rintro e' w2 ⟨v2, rfl, ho, hb⟩
      have HB2 := Lib.hid (HB1.out.trans (hb.mono HB1.out.size))
      have HO2 := Lib.hid (OwnInts.ints ho)
      have HV2 := Lib.hid (ints_low HV.out hb)
      have m0 : w2.cell? ⟨w.heap.size, 0, none⟩ = some (.int .i64 e.op) := cell_keep hb (Nat.le_refl _) m0
      have m1 : w2.cell? ⟨w.heap.size, 1, none⟩ = some (.int .i64 e.a) := cell_keep hb (Nat.le_refl _) m1
      have m2 : w2.cell? ⟨w.heap.size, 2, none⟩ = some (.int .i64 e.b) := cell_keep hb (Nat.le_refl _) m2
      have m3 : w2.cell? ⟨w.heap.size, 3, none⟩ = some (.slice A e.to.length k) := cell_keep hb (Nat.le_refl _) m3
      have m4 : w2.cell? ⟨w.heap.size, 4, none⟩ = some (.int .i32 e.imm) := cell_keep hb (Nat.le_refl _) m4
      obtain ⟨LA, lc, rfl⟩ := own_form ho
      have HNR := Lib.hid (needs_bad e r)
      generalize hnl : needsL e = nl at *
      have HNL := Lib.hid hnl
      clear hnl
      have hcap := HO2.out
      obtain ⟨A9, c9, e9, hc1, hc2, -⟩ := hcap
      unfold maxLen at hc2
      injection e9 with e91 e92 e93
      subst e93
      clear hb ho e91 e92
      go_wp2_with fail
      go_loopw [10] (fun jv wr => ∃ j : Nat, j ≤ nl.length ∧ jv = .int .i64 j ∧ (nl.take j).any (badE e.op r) = false ∧ wr = w2) (fun jv _ => nl.length - (intOf jv).toNat)
      case atStart => exact ⟨0, Nat.zero_le _, rfl, rfl, rfl⟩
      case round =>
        obtain ⟨j, hj, rfl, hno, hw9⟩ := hrel
        obtain rfl : w2 = wr := hw9.symm
        have HNO := Lib.hid hno
        clear hno
        by_cases hlt : j < nl.length
        · obtain ⟨A', c', ee, -, -, hcc⟩ := HO2.out
          injection ee with e1 e2 e3
          subst e1 e3
          obtain ⟨ad, rfl, hz⟩ := hcc j hlt
          have HT := Lib.hid (any_step hlt HNO.out)
          have HY := Lib.hid (fun h => any_yes (q := badE e.op r) hlt h)
          have hj1 : j + 1 ≤ nl.length := hlt
          clear hcc e2
          generalize nl[j] = y at *
          have HBR := Lib.hid (show badE e.op r y = ((decide (y < 0) || decide (r ≤ y)) || (e.op == 7 && decide (0 < y))) from rfl)
          by_cases g1 : y < 0
          · skip
            have C2 := Lib.hid (show (regsB r (needsL e) && !(e.op == 7 && decide (0 < e.a))) = false by
              have h := HNR.out
              rw [HY.out (by rw [HBR.out, decide_eq_true g1]; rfl)] at h
              rw [HNL.out]
              exact flip_f h)
            have HE := Lib.hid (show endQ e r bl = 31 by unfold endQ; rw [if_neg (by rw [C1.out]; simp), if_pos C2.out])
            go_wp2
            go_ret
            exact ⟨ret_num HE.out.symm, HB2.out⟩
          · by_cases g2 : r ≤ y
            · skip
              have C2 := Lib.hid (show (regsB r (needsL e) && !(e.op == 7 && decide (0 < e.a))) = false by
                have h := HNR.out
                rw [HY.out (by rw [HBR.out, decide_eq_true g2, Bool.or_true]; rfl)] at h
                rw [HNL.out]
                exact flip_f h)
              have HE := Lib.hid (show endQ e r bl = 31 by unfold endQ; rw [if_neg (by rw [C1.out]; simp), if_pos C2.out])
              go_wp2
              go_ret
              exact ⟨ret_num HE.out.symm, HB2.out⟩
            · skip
              have HR := Lib.hid (show (nl.take (j + 1)).any (badE e.op r) = false by rw [HT.out, HBR.out, decide_eq_false g1, decide_eq_false g2, e7, Bool.false_and]; rfl)
              go_wp2_with fail
              exact ⟨⟨j + 1, hj1, by go_num, HR.out, trivial⟩, by simp [intOf]; omega⟩
        · obtain rfl : j = nl.length := by omega
          have C2 := Lib.hid (show (regsB r (needsL e) && !(e.op == 7 && decide (0 < e.a))) = true by
            have h := HNR.out
            have h2 := HNO.out
            rw [List.take_length] at h2
            rw [h2] at h
            rw [HNL.out]
            exact flip_t h)
          clear HNO HNR
          go_wp2_with fail
          go_loopw [11] (fun jv wr => ∃ j : Nat, j ≤ e.to.length ∧ jv = .int .i64 j ∧ (e.to.take j).any (badTo bl) = false ∧ wr = w2) (fun jv _ => e.to.length - (intOf jv).toNat)
          case atStart => exact ⟨0, Nat.zero_le _, rfl, rfl, rfl⟩
          case round =>
            obtain ⟨j, hj, rfl, hno, hw9⟩ := hrel
            obtain rfl : w2 = wr := hw9.symm
            have HNO := Lib.hid hno
            clear hno
            by_cases hlt : j < e.to.length
            · obtain ⟨A', c', ee, -, -, hcc⟩ := HV2.out
              injection ee with e1 e2 e3
              subst e1 e3
              obtain ⟨ad, rfl, hz⟩ := hcc j hlt
              have HT := Lib.hid (any_step hlt HNO.out)
              have HY := Lib.hid (fun h => any_yes (q := badTo bl) hlt h)
              have hj1 : j + 1 ≤ e.to.length := hlt
              clear hcc e2
              generalize e.to[j] = y at *
              have HBR := Lib.hid (show badTo bl y = (decide (y < 1) || decide (bl ≤ y)) from rfl)
              by_cases g1 : y < 1
              · have HR := Lib.hid (HY.out (by rw [HBR.out, decide_eq_true g1]; rfl))
                have HE := Lib.hid (show endQ e r bl = 14 by unfold endQ; rw [if_neg (by rw [C1.out]; simp), if_neg (by rw [C2.out]; simp), if_pos HR.out])
                go_wp2
                go_ret
                exact ⟨ret_num HE.out.symm, HB2.out⟩
              · by_cases g2 : bl ≤ y
                · have HR := Lib.hid (HY.out (by rw [HBR.out, decide_eq_true g2, Bool.or_true]))
                  have HE := Lib.hid (show endQ e r bl = 14 by unfold endQ; rw [if_neg (by rw [C1.out]; simp), if_neg (by rw [C2.out]; simp), if_pos HR.out])
                  go_wp2
                  go_ret
                  exact ⟨ret_num HE.out.symm, HB2.out⟩
                · have HR := Lib.hid (show (e.to.take (j + 1)).any (badTo bl) = false by rw [HT.out, HBR.out, decide_eq_false g1, decide_eq_false g2]; rfl)
                  go_wp2_with fail
                  exact ⟨⟨j + 1, hj1, by go_num, HR.out, trivial⟩, by simp [intOf]; omega⟩
            · obtain rfl : j = e.to.length := by omega
              have HR := Lib.hid (show e.to.any (badTo bl) = false by have h := HNO.out; rwa [List.take_length] at h)
              clear HNO
              have HE := Lib.hid (show endQ e r bl = 0 by unfold endQ; rw [if_neg (by rw [C1.out]; simp), if_neg (by rw [C2.out]; simp), if_neg (by rw [HR.out]; simp)])
              go_wp2
              go_ret
              exact ⟨ret_num HE.out.symm, HB2.out⟩
    | false =>
      have C1 := Lib.hid (HF.out.trans hm)
      have HE := Lib.hid (show endQ e r bl = 30 by unfold endQ; rw [if_pos C1.out])
      go_enter Try.func20, Try.ntmps20
      go_wp2
      go_ret
      exact ⟨ret_num HE.out.symm, HB1.out⟩
  have e5 : (e.op == 5) = false := beq_eq_false_iff_ne.2 h5
  by_cases h6 : e.op = 6
  · have e6 : (e.op == 6) = true := beq_iff_eq.2 h6
    have HF := Lib.hid (show mayE e.op e.to.length = (decide ((2 : Int) ≤ e.to.length) && decide ((e.to.length : Int) ≤ 65)) by unfold mayE; rw [if_neg (by omega), if_neg (by omega), if_pos (by omega)])
    have e7 : (e.op == 7) = false := beq_eq_false_iff_ne.2 (by omega)
    clear h1 h2 h3 h4 h5 h6
    by_cases g2 : (2 : Int) ≤ e.to.length
    · by_cases g3 : (e.to.length : Int) ≤ 65
      · have C1 := Lib.hid (show mayE e.op e.to.length = true by rw [HF.out, decide_eq_true g2, decide_eq_true g3]; rfl)
        go_enter Try.func20, Try.ntmps20
        go_wp2_with fail
        clear hW1
        refine (rneeds_any W1 e A e.to.length k).mono ?_
        rintro e' w2 ⟨v2, rfl, ho, hb⟩
        have HB2 := Lib.hid (HB1.out.trans (hb.mono HB1.out.size))
        have HO2 := Lib.hid (OwnInts.ints ho)
        have HV2 := Lib.hid (ints_low HV.out hb)
        have m0 : w2.cell? ⟨w.heap.size, 0, none⟩ = some (.int .i64 e.op) := cell_keep hb (Nat.le_refl _) m0
        have m1 : w2.cell? ⟨w.heap.size, 1, none⟩ = some (.int .i64 e.a) := cell_keep hb (Nat.le_refl _) m1
        have m2 : w2.cell? ⟨w.heap.size, 2, none⟩ = some (.int .i64 e.b) := cell_keep hb (Nat.le_refl _) m2
        have m3 : w2.cell? ⟨w.heap.size, 3, none⟩ = some (.slice A e.to.length k) := cell_keep hb (Nat.le_refl _) m3
        have m4 : w2.cell? ⟨w.heap.size, 4, none⟩ = some (.int .i32 e.imm) := cell_keep hb (Nat.le_refl _) m4
        obtain ⟨LA, lc, rfl⟩ := own_form ho
        have HNR := Lib.hid (needs_bad e r)
        generalize hnl : needsL e = nl at *
        have HNL := Lib.hid hnl
        clear hnl
        have hcap := HO2.out
        obtain ⟨A9, c9, e9, hc1, hc2, -⟩ := hcap
        unfold maxLen at hc2
        injection e9 with e91 e92 e93
        subst e93
        clear hb ho e91 e92
        go_wp2_with fail
        go_loopw [10] (fun jv wr => ∃ j : Nat, j ≤ nl.length ∧ jv = .int .i64 j ∧ (nl.take j).any (badE e.op r) = false ∧ wr = w2) (fun jv _ => nl.length - (intOf jv).toNat)
        case atStart => exact ⟨0, Nat.zero_le _, rfl, rfl, rfl⟩
        case round =>
          obtain ⟨j, hj, rfl, hno, hw9⟩ := hrel
          obtain rfl : w2 = wr := hw9.symm
          have HNO := Lib.hid hno
          clear hno
          by_cases hlt : j < nl.length
          · obtain ⟨A', c', ee, -, -, hcc⟩ := HO2.out
            injection ee with e1 e2 e3
            subst e1 e3
            obtain ⟨ad, rfl, hz⟩ := hcc j hlt
            have HT := Lib.hid (any_step hlt HNO.out)
            have HY := Lib.hid (fun h => any_yes (q := badE e.op r) hlt h)
            have hj1 : j + 1 ≤ nl.length := hlt
            clear hcc e2
            generalize nl[j] = y at *
            have HBR := Lib.hid (show badE e.op r y = ((decide (y < 0) || decide (r ≤ y)) || (e.op == 7 && decide (0 < y))) from rfl)
            by_cases g1 : y < 0
            · skip
              have C2 := Lib.hid (show (regsB r (needsL e) && !(e.op == 7 && decide (0 < e.a))) = false by
                have h := HNR.out
                rw [HY.out (by rw [HBR.out, decide_eq_true g1]; rfl)] at h
                rw [HNL.out]
                exact flip_f h)
              have HE := Lib.hid (show endQ e r bl = 31 by unfold endQ; rw [if_neg (by rw [C1.out]; simp), if_pos C2.out])
              go_wp2
              go_ret
              exact ⟨ret_num HE.out.symm, HB2.out⟩
            · by_cases g2 : r ≤ y
              · skip
                have C2 := Lib.hid (show (regsB r (needsL e) && !(e.op == 7 && decide (0 < e.a))) = false by
                  have h := HNR.out
                  rw [HY.out (by rw [HBR.out, decide_eq_true g2, Bool.or_true]; rfl)] at h
                  rw [HNL.out]
                  exact flip_f h)
                have HE := Lib.hid (show endQ e r bl = 31 by unfold endQ; rw [if_neg (by rw [C1.out]; simp), if_pos C2.out])
                go_wp2
                go_ret
                exact ⟨ret_num HE.out.symm, HB2.out⟩
              · skip
                have HR := Lib.hid (show (nl.take (j + 1)).any (badE e.op r) = false by rw [HT.out, HBR.out, decide_eq_false g1, decide_eq_false g2, e7, Bool.false_and]; rfl)
                go_wp2_with fail
                exact ⟨⟨j + 1, hj1, by go_num, HR.out, trivial⟩, by simp [intOf]; omega⟩
          · obtain rfl : j = nl.length := by omega
            have C2 := Lib.hid (show (regsB r (needsL e) && !(e.op == 7 && decide (0 < e.a))) = true by
              have h := HNR.out
              have h2 := HNO.out
              rw [List.take_length] at h2
              rw [h2] at h
              rw [HNL.out]
              exact flip_t h)
            clear HNO HNR
            go_wp2_with fail
            go_loopw [11] (fun jv wr => ∃ j : Nat, j ≤ e.to.length ∧ jv = .int .i64 j ∧ (e.to.take j).any (badTo bl) = false ∧ wr = w2) (fun jv _ => e.to.length - (intOf jv).toNat)
            case atStart => exact ⟨0, Nat.zero_le _, rfl, rfl, rfl⟩
            case round =>
              obtain ⟨j, hj, rfl, hno, hw9⟩ := hrel
              obtain rfl : w2 = wr := hw9.symm
              have HNO := Lib.hid hno
              clear hno
              by_cases hlt : j < e.to.length
              · obtain ⟨A', c', ee, -, -, hcc⟩ := HV2.out
                injection ee with e1 e2 e3
                subst e1 e3
                obtain ⟨ad, rfl, hz⟩ := hcc j hlt
                have HT := Lib.hid (any_step hlt HNO.out)
                have HY := Lib.hid (fun h => any_yes (q := badTo bl) hlt h)
                have hj1 : j + 1 ≤ e.to.length := hlt
                clear hcc e2
                generalize e.to[j] = y at *
                have HBR := Lib.hid (show badTo bl y = (decide (y < 1) || decide (bl ≤ y)) from rfl)
                by_cases g1 : y < 1
                · have HR := Lib.hid (HY.out (by rw [HBR.out, decide_eq_true g1]; rfl))
                  have HE := Lib.hid (show endQ e r bl = 14 by unfold endQ; rw [if_neg (by rw [C1.out]; simp), if_neg (by rw [C2.out]; simp), if_pos HR.out])
                  go_wp2
                  go_ret
                  exact ⟨ret_num HE.out.symm, HB2.out⟩
                · by_cases g2 : bl ≤ y
                  · have HR := Lib.hid (HY.out (by rw [HBR.out, decide_eq_true g2, Bool.or_true]))
                    have HE := Lib.hid (show endQ e r bl = 14 by unfold endQ; rw [if_neg (by rw [C1.out]; simp), if_neg (by rw [C2.out]; simp), if_pos HR.out])
                    go_wp2
                    go_ret
                    exact ⟨ret_num HE.out.symm, HB2.out⟩
                  · have HR := Lib.hid (show (e.to.take (j + 1)).any (badTo bl) = false by rw [HT.out, HBR.out, decide_eq_false g1, decide_eq_false g2]; rfl)
                    go_wp2_with fail
                    exact ⟨⟨j + 1, hj1, by go_num, HR.out, trivial⟩, by simp [intOf]; omega⟩
              · obtain rfl : j = e.to.length := by omega
                have HR := Lib.hid (show e.to.any (badTo bl) = false by have h := HNO.out; rwa [List.take_length] at h)
                clear HNO
                have HE := Lib.hid (show endQ e r bl = 0 by unfold endQ; rw [if_neg (by rw [C1.out]; simp), if_neg (by rw [C2.out]; simp), if_neg (by rw [HR.out]; simp)])
                go_wp2
                go_ret
                exact ⟨ret_num HE.out.symm, HB2.out⟩
      · have C1 := Lib.hid (show mayE e.op e.to.length = false by rw [HF.out, decide_eq_false g3, Bool.and_false])
        have HE := Lib.hid (show endQ e r bl = 30 by unfold endQ; rw [if_pos C1.out])
        go_enter Try.func20, Try.ntmps20
        go_wp2
        go_ret
        exact ⟨ret_num HE.out.symm, HB1.out⟩
    · have C1 := Lib.hid (show mayE e.op e.to.length = false by rw [HF.out, decide_eq_false g2]; rfl)
      have HE := Lib.hid (show endQ e r bl = 30 by unfold endQ; rw [if_pos C1.out])
      go_enter Try.func20, Try.ntmps20
      go_wp2
      go_ret
      exact ⟨ret_num HE.out.symm, HB1.out⟩
  have e6 : (e.op == 6) = false := beq_eq_false_iff_ne.2 h6
  by_cases h7 : e.op = 7
  · have e7 : (e.op == 7) = true := beq_iff_eq.2 h7
    have HF := Lib.hid (show mayE e.op e.to.length = ((e.to.length : Int) == 0) by unfold mayE; rw [if_neg (by omega), if_neg (by omega), if_neg (by omega), if_pos (by omega)])
    clear h1 h2 h3 h4 h5 h6 h7
    cases hm : ((e.to.length : Int) == 0) with
    | true =>
      have C1 := Lib.hid (HF.out.trans hm)
      go_enter Try.func20, Try.ntmps20
      go_wp2_with fail
      clear hW1
      refine (rneeds_any W1 e A e.to.length k).mono ?_
      rintro e' w2 ⟨v2, rfl, ho, hb⟩
      have HB2 := Lib.hid (HB1.out.trans (hb.mono HB1.out.size))
      have HO2 := Lib.hid (OwnInts.ints ho)
      have HV2 := Lib.hid (ints_low HV.out hb)
      have m0 : w2.cell? ⟨w.heap.size, 0, none⟩ = some (.int .i64 e.op) := cell_keep hb (Nat.le_refl _) m0
      have m1 : w2.cell? ⟨w.heap.size, 1, none⟩ = some (.int .i64 e.a) := cell_keep hb (Nat.le_refl _) m1
      have m2 : w2.cell? ⟨w.heap.size, 2, none⟩ = some (.int .i64 e.b) := cell_keep hb (Nat.le_refl _) m2
      have m3 : w2.cell? ⟨w.heap.size, 3, none⟩ = some (.slice A e.to.length k) := cell_keep hb (Nat.le_refl _) m3
      have m4 : w2.cell? ⟨w.heap.size, 4, none⟩ = some (.int .i32 e.imm) := cell_keep hb (Nat.le_refl _) m4
      obtain ⟨LA, lc, rfl⟩ := own_form ho
      have HNR := Lib.hid (needs_bad e r)
      generalize hnl : needsL e = nl at *
      have HNL := Lib.hid hnl
      clear hnl
      have hcap := HO2.out
      obtain ⟨A9, c9, e9, hc1, hc2, -⟩ := hcap
      unfold maxLen at hc2
      injection e9 with e91 e92 e93
      subst e93
      clear hb ho e91 e92
      go_wp2_with fail
      go_loopw [10] (fun jv wr => ∃ j : Nat, j ≤ nl.length ∧ jv = .int .i64 j ∧ (nl.take j).any (badE e.op r) = false ∧ wr = w2) (fun jv _ => nl.length - (intOf jv).toNat)
      case atStart => exact ⟨0, Nat.zero_le _, rfl, rfl, rfl⟩
      case round =>
        obtain ⟨j, hj, rfl, hno, hw9⟩ := hrel
        obtain rfl : w2 = wr := hw9.symm
        have HNO := Lib.hid hno
        clear hno
        by_cases hlt : j < nl.length
        · obtain ⟨A', c', ee, -, -, hcc⟩ := HO2.out
          injection ee with e1 e2 e3
          subst e1 e3
          obtain ⟨ad, rfl, hz⟩ := hcc j hlt
          have HT := Lib.hid (any_step hlt HNO.out)
          have HY := Lib.hid (fun h => any_yes (q := badE e.op r) hlt h)
          have hj1 : j + 1 ≤ nl.length := hlt
          clear hcc e2
          generalize nl[j] = y at *
          have HBR := Lib.hid (show badE e.op r y = ((decide (y < 0) || decide (r ≤ y)) || (e.op == 7 && decide (0 < y))) from rfl)
          by_cases g1 : y < 0
          · skip
            have C2 := Lib.hid (show (regsB r (needsL e) && !(e.op == 7 && decide (0 < e.a))) = false by
              have h := HNR.out
              rw [HY.out (by rw [HBR.out, decide_eq_true g1]; rfl)] at h
              rw [HNL.out]
              exact flip_f h)
            have HE := Lib.hid (show endQ e r bl = 31 by unfold endQ; rw [if_neg (by rw [C1.out]; simp), if_pos C2.out])
            go_wp2
            go_ret
            exact ⟨ret_num HE.out.symm, HB2.out⟩
          · by_cases g2 : r ≤ y
            · skip
              have C2 := Lib.hid (show (regsB r (needsL e) && !(e.op == 7 && decide (0 < e.a))) = false by
                have h := HNR.out
                rw [HY.out (by rw [HBR.out, decide_eq_true g2, Bool.or_true]; rfl)] at h
                rw [HNL.out]
                exact flip_f h)
              have HE := Lib.hid (show endQ e r bl = 31 by unfold endQ; rw [if_neg (by rw [C1.out]; simp), if_pos C2.out])
              go_wp2
              go_ret
              exact ⟨ret_num HE.out.symm, HB2.out⟩
            · by_cases g3 : 0 < y
              · skip
                have C2 := Lib.hid (show (regsB r (needsL e) && !(e.op == 7 && decide (0 < e.a))) = false by
                  have h := HNR.out
                  rw [HY.out (by rw [HBR.out, decide_eq_true g3, e7]; simp)] at h
                  rw [HNL.out]
                  exact flip_f h)
                have HE := Lib.hid (show endQ e r bl = 31 by unfold endQ; rw [if_neg (by rw [C1.out]; simp), if_pos C2.out])
                go_wp2
                go_ret
                exact ⟨ret_num HE.out.symm, HB2.out⟩
              · skip
                have HR := Lib.hid (show (nl.take (j + 1)).any (badE e.op r) = false by rw [HT.out, HBR.out, decide_eq_false g1, decide_eq_false g2, decide_eq_false g3, Bool.and_false]; rfl)
                go_wp2_with fail
                exact ⟨⟨j + 1, hj1, by go_num, HR.out, trivial⟩, by simp [intOf]; omega⟩
        · obtain rfl : j = nl.length := by omega
          have C2 := Lib.hid (show (regsB r (needsL e) && !(e.op == 7 && decide (0 < e.a))) = true by
            have h := HNR.out
            have h2 := HNO.out
            rw [List.take_length] at h2
            rw [h2] at h
            rw [HNL.out]
            exact flip_t h)
          clear HNO HNR
          go_wp2_with fail
          go_loopw [11] (fun jv wr => ∃ j : Nat, j ≤ e.to.length ∧ jv = .int .i64 j ∧ (e.to.take j).any (badTo bl) = false ∧ wr = w2) (fun jv _ => e.to.length - (intOf jv).toNat)
          case atStart => exact ⟨0, Nat.zero_le _, rfl, rfl, rfl⟩
          case round =>
            obtain ⟨j, hj, rfl, hno, hw9⟩ := hrel
            obtain rfl : w2 = wr := hw9.symm
            have HNO := Lib.hid hno
            clear hno
            by_cases hlt : j < e.to.length
            · obtain ⟨A', c', ee, -, -, hcc⟩ := HV2.out
              injection ee with e1 e2 e3
              subst e1 e3
              obtain ⟨ad, rfl, hz⟩ := hcc j hlt
              have HT := Lib.hid (any_step hlt HNO.out)
              have HY := Lib.hid (fun h => any_yes (q := badTo bl) hlt h)
              have hj1 : j + 1 ≤ e.to.length := hlt
              clear hcc e2
              generalize e.to[j] = y at *
              have HBR := Lib.hid (show badTo bl y = (decide (y < 1) || decide (bl ≤ y)) from rfl)
              by_cases g1 : y < 1
              · have HR := Lib.hid (HY.out (by rw [HBR.out, decide_eq_true g1]; rfl))
                have HE := Lib.hid (show endQ e r bl = 14 by unfold endQ; rw [if_neg (by rw [C1.out]; simp), if_neg (by rw [C2.out]; simp), if_pos HR.out])
                go_wp2
                go_ret
                exact ⟨ret_num HE.out.symm, HB2.out⟩
              · by_cases g2 : bl ≤ y
                · have HR := Lib.hid (HY.out (by rw [HBR.out, decide_eq_true g2, Bool.or_true]))
                  have HE := Lib.hid (show endQ e r bl = 14 by unfold endQ; rw [if_neg (by rw [C1.out]; simp), if_neg (by rw [C2.out]; simp), if_pos HR.out])
                  go_wp2
                  go_ret
                  exact ⟨ret_num HE.out.symm, HB2.out⟩
                · have HR := Lib.hid (show (e.to.take (j + 1)).any (badTo bl) = false by rw [HT.out, HBR.out, decide_eq_false g1, decide_eq_false g2]; rfl)
                  go_wp2_with fail
                  exact ⟨⟨j + 1, hj1, by go_num, HR.out, trivial⟩, by simp [intOf]; omega⟩
            · obtain rfl : j = e.to.length := by omega
              have HR := Lib.hid (show e.to.any (badTo bl) = false by have h := HNO.out; rwa [List.take_length] at h)
              clear HNO
              have HE := Lib.hid (show endQ e r bl = 0 by unfold endQ; rw [if_neg (by rw [C1.out]; simp), if_neg (by rw [C2.out]; simp), if_neg (by rw [HR.out]; simp)])
              go_wp2
              go_ret
              exact ⟨ret_num HE.out.symm, HB2.out⟩
    | false =>
      have C1 := Lib.hid (HF.out.trans hm)
      have HE := Lib.hid (show endQ e r bl = 30 by unfold endQ; rw [if_pos C1.out])
      go_enter Try.func20, Try.ntmps20
      go_wp2
      go_ret
      exact ⟨ret_num HE.out.symm, HB1.out⟩
  have e7 : (e.op == 7) = false := beq_eq_false_iff_ne.2 h7
  by_cases h8 : e.op = 8
  · have e8 : (e.op == 8) = true := beq_iff_eq.2 h8
    have HF := Lib.hid (show mayE e.op e.to.length = ((e.to.length : Int) == 0) by unfold mayE; rw [if_neg (by omega), if_neg (by omega), if_neg (by omega), if_pos (by omega)])
    clear h1 h2 h3 h4 h5 h6 h7 h8
    cases hm : ((e.to.length : Int) == 0) with
    | true =>
      have C1 := Lib.hid (HF.out.trans hm)
      go_enter Try.func20, Try.ntmps20
      go_wp2_with fail
      clear hW1
      refine (rneeds_any W1 e A e.to.length k).mono ?_
      rintro e' w2 ⟨v2, rfl, ho, hb⟩
      have HB2 := Lib.hid (HB1.out.trans (hb.mono HB1.out.size))
      have HO2 := Lib.hid (OwnInts.ints ho)
      have HV2 := Lib.hid (ints_low HV.out hb)
      have m0 : w2.cell? ⟨w.heap.size, 0, none⟩ = some (.int .i64 e.op) := cell_keep hb (Nat.le_refl _) m0
      have m1 : w2.cell? ⟨w.heap.size, 1, none⟩ = some (.int .i64 e.a) := cell_keep hb (Nat.le_refl _) m1
      have m2 : w2.cell? ⟨w.heap.size, 2, none⟩ = some (.int .i64 e.b) := cell_keep hb (Nat.le_refl _) m2
      have m3 : w2.cell? ⟨w.heap.size, 3, none⟩ = some (.slice A e.to.length k) := cell_keep hb (Nat.le_refl _) m3
      have m4 : w2.cell? ⟨w.heap.size, 4, none⟩ = some (.int .i32 e.imm) := cell_keep hb (Nat.le_refl _) m4
      obtain ⟨LA, lc, rfl⟩ := own_form ho
      have HNR := Lib.hid (needs_bad e r)
      generalize hnl : needsL e = nl at *
      have HNL := Lib.hid hnl
      clear hnl
      have hcap := HO2.out
      obtain ⟨A9, c9, e9, hc1, hc2, -⟩ := hcap
      unfold maxLen at hc2
      injection e9 with e91 e92 e93
      subst e93
      clear hb ho e91 e92
      go_wp2_with fail
      go_loopw [10] (fun jv wr => ∃ j : Nat, j ≤ nl.length ∧ jv = .int .i64 j ∧ (nl.take j).any (badE e.op r) = false ∧ wr = w2) (fun jv _ => nl.length - (intOf jv).toNat)
      case atStart => exact ⟨0, Nat.zero_le _, rfl, rfl, rfl⟩
      case round =>
        obtain ⟨j, hj, rfl, hno, hw9⟩ := hrel
        obtain rfl : w2 = wr := hw9.symm
        have HNO := Lib.hid hno
        clear hno
        by_cases hlt : j < nl.length
        · obtain ⟨A', c', ee, -, -, hcc⟩ := HO2.out
          injection ee with e1 e2 e3
          subst e1 e3
          obtain ⟨ad, rfl, hz⟩ := hcc j hlt
          have HT := Lib.hid (any_step hlt HNO.out)
          have HY := Lib.hid (fun h => any_yes (q := badE e.op r) hlt h)
          have hj1 : j + 1 ≤ nl.length := hlt
          clear hcc e2
          generalize nl[j] = y at *
          have HBR := Lib.hid (show badE e.op r y = ((decide (y < 0) || decide (r ≤ y)) || (e.op == 7 && decide (0 < y))) from rfl)
          by_cases g1 : y < 0
          · skip
            have C2 := Lib.hid (show (regsB r (needsL e) && !(e.op == 7 && decide (0 < e.a))) = false by
              have h := HNR.out
              rw [HY.out (by rw [HBR.out, decide_eq_true g1]; rfl)] at h
              rw [HNL.out]
              exact flip_f h)
            have HE := Lib.hid (show endQ e r bl = 31 by unfold endQ; rw [if_neg (by rw [C1.out]; simp), if_pos C2.out])
            go_wp2
            go_ret
            exact ⟨ret_num HE.out.symm, HB2.out⟩
          · by_cases g2 : r ≤ y
            · skip
              have C2 := Lib.hid (show (regsB r (needsL e) && !(e.op == 7 && decide (0 < e.a))) = false by
                have h := HNR.out
                rw [HY.out (by rw [HBR.out, decide_eq_true g2, Bool.or_true]; rfl)] at h
                rw [HNL.out]
                exact flip_f h)
              have HE := Lib.hid (show endQ e r bl = 31 by unfold endQ; rw [if_neg (by rw [C1.out]; simp), if_pos C2.out])
              go_wp2
              go_ret
              exact ⟨ret_num HE.out.symm, HB2.out⟩
            · skip
              have HR := Lib.hid (show (nl.take (j + 1)).any (badE e.op r) = false by rw [HT.out, HBR.out, decide_eq_false g1, decide_eq_false g2, e7, Bool.false_and]; rfl)
              go_wp2_with fail
              exact ⟨⟨j + 1, hj1, by go_num, HR.out, trivial⟩, by simp [intOf]; omega⟩
        · obtain rfl : j = nl.length := by omega
          have C2 := Lib.hid (show (regsB r (needsL e) && !(e.op == 7 && decide (0 < e.a))) = true by
            have h := HNR.out
            have h2 := HNO.out
            rw [List.take_length] at h2
            rw [h2] at h
            rw [HNL.out]
            exact flip_t h)
          clear HNO HNR
          go_wp2_with fail
          go_loopw [11] (fun jv wr => ∃ j : Nat, j ≤ e.to.length ∧ jv = .int .i64 j ∧ (e.to.take j).any (badTo bl) = false ∧ wr = w2) (fun jv _ => e.to.length - (intOf jv).toNat)
          case atStart => exact ⟨0, Nat.zero_le _, rfl, rfl, rfl⟩
          case round =>
            obtain ⟨j, hj, rfl, hno, hw9⟩ := hrel
            obtain rfl : w2 = wr := hw9.symm
            have HNO := Lib.hid hno
            clear hno
            by_cases hlt : j < e.to.length
            · obtain ⟨A', c', ee, -, -, hcc⟩ := HV2.out
              injection ee with e1 e2 e3
              subst e1 e3
              obtain ⟨ad, rfl, hz⟩ := hcc j hlt
              have HT := Lib.hid (any_step hlt HNO.out)
              have HY := Lib.hid (fun h => any_yes (q := badTo bl) hlt h)
              have hj1 : j + 1 ≤ e.to.length := hlt
              clear hcc e2
              generalize e.to[j] = y at *
              have HBR := Lib.hid (show badTo bl y = (decide (y < 1) || decide (bl ≤ y)) from rfl)
              by_cases g1 : y < 1
              · have HR := Lib.hid (HY.out (by rw [HBR.out, decide_eq_true g1]; rfl))
                have HE := Lib.hid (show endQ e r bl = 14 by unfold endQ; rw [if_neg (by rw [C1.out]; simp), if_neg (by rw [C2.out]; simp), if_pos HR.out])
                go_wp2
                go_ret
                exact ⟨ret_num HE.out.symm, HB2.out⟩
              · by_cases g2 : bl ≤ y
                · have HR := Lib.hid (HY.out (by rw [HBR.out, decide_eq_true g2, Bool.or_true]))
                  have HE := Lib.hid (show endQ e r bl = 14 by unfold endQ; rw [if_neg (by rw [C1.out]; simp), if_neg (by rw [C2.out]; simp), if_pos HR.out])
                  go_wp2
                  go_ret
                  exact ⟨ret_num HE.out.symm, HB2.out⟩
                · have HR := Lib.hid (show (e.to.take (j + 1)).any (badTo bl) = false by rw [HT.out, HBR.out, decide_eq_false g1, decide_eq_false g2]; rfl)
                  go_wp2_with fail
                  exact ⟨⟨j + 1, hj1, by go_num, HR.out, trivial⟩, by simp [intOf]; omega⟩
            · obtain rfl : j = e.to.length := by omega
              have HR := Lib.hid (show e.to.any (badTo bl) = false by have h := HNO.out; rwa [List.take_length] at h)
              clear HNO
              have HE := Lib.hid (show endQ e r bl = 0 by unfold endQ; rw [if_neg (by rw [C1.out]; simp), if_neg (by rw [C2.out]; simp), if_neg (by rw [HR.out]; simp)])
              go_wp2
              go_ret
              exact ⟨ret_num HE.out.symm, HB2.out⟩
    | false =>
      have C1 := Lib.hid (HF.out.trans hm)
      have HE := Lib.hid (show endQ e r bl = 30 by unfold endQ; rw [if_pos C1.out])
      go_enter Try.func20, Try.ntmps20
      go_wp2
      go_ret
      exact ⟨ret_num HE.out.symm, HB1.out⟩
  have e8 : (e.op == 8) = false := beq_eq_false_iff_ne.2 h8
  have C1 := Lib.hid (show mayE e.op e.to.length = false by unfold mayE; rw [if_neg (by omega), if_neg (by omega), if_neg (by omega), if_neg (by omega)])
  clear h1 h2 h3 h4 h5 h6 h7 h8
  have HE := Lib.hid (show endQ e r bl = 30 by unfold endQ; rw [if_pos C1.out])
  go_enter Try.func20, Try.ntmps20
  go_wp2
  go_ret
  exact ⟨ret_num HE.out.symm, HB1.out⟩
end Go.Proofs.Ytdidacjmcafcpaa.Ph
