/- Stage 12: phys: what is wrong first with an instruction. -/
import Derived.Test.YtdidacjmcafcpaaQD
namespace Go.Proofs.Ytdidacjmcafcpaa.Ph
open Go.ChangeShapes Go.WideShapes Go.ChangeAt Go.RowKit Go.Proofs.Ytdidacjmcafcpaa.Mem Go.Proofs.Ytdidacjmcafcpaa.Kc Go.Proofs.Ytdidacjmcafcpaa.Pl Go.Proofs.Ytdidacjmcafcpaa.Mw Go.Proofs.Ytdidacjmcafcpaa.Mc Go.Proofs.Ytdidacjmcafcpaa.Br
set_option linter.unusedVariables false
set_option linter.unusedSimpArgs false
attribute [local go_sem] Oper.semAt_some
/-- What is wrong first with an instruction, with so many registers and slots. -/
def insQ (i : PMach) (r s : Int) : Int := if okI i = false then 30 else if (regsB r (makesL i) && regsB r (takesL i)) = false then 31 else if ((i.op == 30 || i.op == 31) && (decide (i.imm < 0) || decide (s ≤ i.imm))) = true then 43 else if fitsI i = false then 32 else 0
theorem ret_num {k : IntKind} {a b : Int} (h : a = b) : Ending.returned (.int k a) = .returned (.int k b) := by rw [h]
set_option maxRecDepth 100000 in
set_option maxHeartbeats 4000000 in
theorem insP_any (w : World) (i : PMach) (A : Option Addr) (k : Nat) (r sl : Int) (hv : Ints w (.slice A i.args.length k) i.args) (hl : i.args.length ≤ 1000000) (hw : InW i.imm) : Calls Try.prog 17 #[.agg #[.int .i64 i.op, .int .i64 i.d, .int .i64 i.e, .int .i64 i.a, .int .i64 i.b, .int .i64 i.c, .int .i32 i.imm, .slice A i.args.length k], .int .i64 r, .int .i64 sl] w fun en w' => en = .returned (.int .i64 (insQ i r sl)) ∧ Below w.heap.size w w' := by
  have hw1 := hw.1
  have hw2 := hw.2
  obtain ⟨W1, hW1⟩ : ∃ W1, w.alloc (.cells #[.int .i64 i.op, .int .i64 i.d, .int .i64 i.e, .int .i64 i.a, .int .i64 i.b, .int .i64 i.c, .int .i32 i.imm, .slice A i.args.length k] 24) = W1 := ⟨_, rfl⟩
  have hb1 : Below w.heap.size w W1 := by rw [← hW1]; exact (Below.refl _ _).alloc (Nat.le_refl _) _
  have hs1 : Str W1 w.heap.size 24 [.int .i64 i.op, .int .i64 i.d, .int .i64 i.e, .int .i64 i.a, .int .i64 i.b, .int .i64 i.c, .int .i32 i.imm, .slice A i.args.length k] := by rw [← hW1]; exact World.alloc_heap_new w _
  have HB1 := Lib.hid hb1
  have HS1 := Lib.hid hs1
  have m0 : W1.cell? ⟨w.heap.size, 0, none⟩ = some (.int .i64 i.op) := hs1.cell 0
  have m1 : W1.cell? ⟨w.heap.size, 1, none⟩ = some (.int .i64 i.d) := hs1.cell 1
  have m2 : W1.cell? ⟨w.heap.size, 2, none⟩ = some (.int .i64 i.e) := hs1.cell 2
  have m3 : W1.cell? ⟨w.heap.size, 3, none⟩ = some (.int .i64 i.a) := hs1.cell 3
  have m4 : W1.cell? ⟨w.heap.size, 4, none⟩ = some (.int .i64 i.b) := hs1.cell 4
  have m5 : W1.cell? ⟨w.heap.size, 5, none⟩ = some (.int .i64 i.c) := hs1.cell 5
  have m6 : W1.cell? ⟨w.heap.size, 6, none⟩ = some (.int .i32 i.imm) := hs1.cell 6
  have m7 : W1.cell? ⟨w.heap.size, 7, none⟩ = some (.slice A i.args.length k) := hs1.cell 7
  clear hb1 hs1
  have HV := Lib.hid (ints_low hv HB1.out)
  clear hv
  go_enter Try.func17, Try.ntmps17
  go_wp2_with fail
  clear hW1
  refine (isinstr_any W1 i A k HV.out).mono ?_
  rintro e w2 ⟨rfl, hb⟩
  have HB2 := Lib.hid (HB1.out.trans (hb.mono HB1.out.size))
  have HV2 := Lib.hid (ints_low HV.out hb)
  have m0 : w2.cell? ⟨w.heap.size, 0, none⟩ = some (.int .i64 i.op) := cell_keep hb (Nat.le_refl _) m0
  have m1 : w2.cell? ⟨w.heap.size, 1, none⟩ = some (.int .i64 i.d) := cell_keep hb (Nat.le_refl _) m1
  have m2 : w2.cell? ⟨w.heap.size, 2, none⟩ = some (.int .i64 i.e) := cell_keep hb (Nat.le_refl _) m2
  have m3 : w2.cell? ⟨w.heap.size, 3, none⟩ = some (.int .i64 i.a) := cell_keep hb (Nat.le_refl _) m3
  have m4 : w2.cell? ⟨w.heap.size, 4, none⟩ = some (.int .i64 i.b) := cell_keep hb (Nat.le_refl _) m4
  have m5 : w2.cell? ⟨w.heap.size, 5, none⟩ = some (.int .i64 i.c) := cell_keep hb (Nat.le_refl _) m5
  have m6 : w2.cell? ⟨w.heap.size, 6, none⟩ = some (.int .i32 i.imm) := cell_keep hb (Nat.le_refl _) m6
  have m7 : w2.cell? ⟨w.heap.size, 7, none⟩ = some (.slice A i.args.length k) := cell_keep hb (Nat.le_refl _) m7
  clear hb
  cases c1 : okI i with
  | false =>
    have HE := Lib.hid (show insQ i r sl = 30 by unfold insQ; rw [if_pos c1])
    clear c1
    go_wp2
    go_ret
    exact ⟨ret_num HE.out.symm, HB2.out⟩
  | true =>
    have C1 := Lib.hid c1
    clear c1
    go_wp2_with fail
    refine (makes_any w2 i A i.args.length k).mono ?_
    rintro e w3 ⟨v3, rfl, ho, hb⟩
    have HB3 := Lib.hid (HB2.out.trans (hb.mono HB2.out.size))
    have HV3 := Lib.hid (ints_low HV2.out hb)
    have HO3 := Lib.hid (OwnInts.ints ho)
    have m0 : w3.cell? ⟨w.heap.size, 0, none⟩ = some (.int .i64 i.op) := cell_keep hb (Nat.le_refl _) m0
    have m1 : w3.cell? ⟨w.heap.size, 1, none⟩ = some (.int .i64 i.d) := cell_keep hb (Nat.le_refl _) m1
    have m2 : w3.cell? ⟨w.heap.size, 2, none⟩ = some (.int .i64 i.e) := cell_keep hb (Nat.le_refl _) m2
    have m3 : w3.cell? ⟨w.heap.size, 3, none⟩ = some (.int .i64 i.a) := cell_keep hb (Nat.le_refl _) m3
    have m4 : w3.cell? ⟨w.heap.size, 4, none⟩ = some (.int .i64 i.b) := cell_keep hb (Nat.le_refl _) m4
    have m5 : w3.cell? ⟨w.heap.size, 5, none⟩ = some (.int .i64 i.c) := cell_keep hb (Nat.le_refl _) m5
    have m6 : w3.cell? ⟨w.heap.size, 6, none⟩ = some (.int .i32 i.imm) := cell_keep hb (Nat.le_refl _) m6
    have m7 : w3.cell? ⟨w.heap.size, 7, none⟩ = some (.slice A i.args.length k) := cell_keep hb (Nat.le_refl _) m7
    clear hb ho
    go_wp2_with fail
    refine (areregs_any w3 v3 (makesL i) r HO3.out).mono ?_
    rintro e w4 ⟨rfl, hb⟩
    have HB4 := Lib.hid (HB3.out.trans (hb.mono HB3.out.size))
    have HV4 := Lib.hid (ints_low HV3.out hb)
    have m0 : w4.cell? ⟨w.heap.size, 0, none⟩ = some (.int .i64 i.op) := cell_keep hb (Nat.le_refl _) m0
    have m1 : w4.cell? ⟨w.heap.size, 1, none⟩ = some (.int .i64 i.d) := cell_keep hb (Nat.le_refl _) m1
    have m2 : w4.cell? ⟨w.heap.size, 2, none⟩ = some (.int .i64 i.e) := cell_keep hb (Nat.le_refl _) m2
    have m3 : w4.cell? ⟨w.heap.size, 3, none⟩ = some (.int .i64 i.a) := cell_keep hb (Nat.le_refl _) m3
    have m4 : w4.cell? ⟨w.heap.size, 4, none⟩ = some (.int .i64 i.b) := cell_keep hb (Nat.le_refl _) m4
    have m5 : w4.cell? ⟨w.heap.size, 5, none⟩ = some (.int .i64 i.c) := cell_keep hb (Nat.le_refl _) m5
    have m6 : w4.cell? ⟨w.heap.size, 6, none⟩ = some (.int .i32 i.imm) := cell_keep hb (Nat.le_refl _) m6
    have m7 : w4.cell? ⟨w.heap.size, 7, none⟩ = some (.slice A i.args.length k) := cell_keep hb (Nat.le_refl _) m7
    clear hb
    cases c2 : regsB r (makesL i) with
    | false =>
      have HE := Lib.hid (show insQ i r sl = 31 by unfold insQ; rw [if_neg (by rw [C1.out]; simp), if_pos (by rw [c2]; rfl)])
      clear c2
      go_wp2
      go_ret
      exact ⟨ret_num HE.out.symm, HB4.out⟩
    | true =>
      have C2 := Lib.hid c2
      clear c2
      go_wp2_with fail
      refine (takes_any w4 i A i.args.length k HV4.out hl).mono ?_
      rintro e w5 ⟨v5, rfl, ho, hb⟩
      have HB5 := Lib.hid (HB4.out.trans (hb.mono HB4.out.size))
      have HV5 := Lib.hid (ints_low HV4.out hb)
      have HO5 := Lib.hid (OwnInts.ints ho)
      have m0 : w5.cell? ⟨w.heap.size, 0, none⟩ = some (.int .i64 i.op) := cell_keep hb (Nat.le_refl _) m0
      have m1 : w5.cell? ⟨w.heap.size, 1, none⟩ = some (.int .i64 i.d) := cell_keep hb (Nat.le_refl _) m1
      have m2 : w5.cell? ⟨w.heap.size, 2, none⟩ = some (.int .i64 i.e) := cell_keep hb (Nat.le_refl _) m2
      have m3 : w5.cell? ⟨w.heap.size, 3, none⟩ = some (.int .i64 i.a) := cell_keep hb (Nat.le_refl _) m3
      have m4 : w5.cell? ⟨w.heap.size, 4, none⟩ = some (.int .i64 i.b) := cell_keep hb (Nat.le_refl _) m4
      have m5 : w5.cell? ⟨w.heap.size, 5, none⟩ = some (.int .i64 i.c) := cell_keep hb (Nat.le_refl _) m5
      have m6 : w5.cell? ⟨w.heap.size, 6, none⟩ = some (.int .i32 i.imm) := cell_keep hb (Nat.le_refl _) m6
      have m7 : w5.cell? ⟨w.heap.size, 7, none⟩ = some (.slice A i.args.length k) := cell_keep hb (Nat.le_refl _) m7
      clear hb ho
      go_wp2_with fail
      refine (areregs_any w5 v5 (takesL i) r HO5.out).mono ?_
      rintro e w6 ⟨rfl, hb⟩
      have HB6 := Lib.hid (HB5.out.trans (hb.mono HB5.out.size))
      have m0 : w6.cell? ⟨w.heap.size, 0, none⟩ = some (.int .i64 i.op) := cell_keep hb (Nat.le_refl _) m0
      have m1 : w6.cell? ⟨w.heap.size, 1, none⟩ = some (.int .i64 i.d) := cell_keep hb (Nat.le_refl _) m1
      have m2 : w6.cell? ⟨w.heap.size, 2, none⟩ = some (.int .i64 i.e) := cell_keep hb (Nat.le_refl _) m2
      have m3 : w6.cell? ⟨w.heap.size, 3, none⟩ = some (.int .i64 i.a) := cell_keep hb (Nat.le_refl _) m3
      have m4 : w6.cell? ⟨w.heap.size, 4, none⟩ = some (.int .i64 i.b) := cell_keep hb (Nat.le_refl _) m4
      have m5 : w6.cell? ⟨w.heap.size, 5, none⟩ = some (.int .i64 i.c) := cell_keep hb (Nat.le_refl _) m5
      have m6 : w6.cell? ⟨w.heap.size, 6, none⟩ = some (.int .i32 i.imm) := cell_keep hb (Nat.le_refl _) m6
      have m7 : w6.cell? ⟨w.heap.size, 7, none⟩ = some (.slice A i.args.length k) := cell_keep hb (Nat.le_refl _) m7
      clear hb
      cases c3 : regsB r (takesL i) with
      | false =>
        have HE := Lib.hid (show insQ i r sl = 31 by unfold insQ; rw [if_neg (by rw [C1.out]; simp), if_pos (by rw [c3, Bool.and_false])])
        clear c3
        go_wp2
        go_ret
        exact ⟨ret_num HE.out.symm, HB6.out⟩
      | true =>
        have C3 := Lib.hid c3
        clear c3
        go_wp2_with fail
        refine (ofslot_any w6 i.op).mono ?_
        rintro e w7 ⟨rfl, hw7⟩
        obtain rfl : w6 = w7 := hw7.symm
        cases c4 : (i.op == 30 || i.op == 31) with
        | false =>
          have C4 := Lib.hid c4
          clear c4
          go_wp2_with fail
          refine (fits_any w6 i A i.args.length k).mono ?_
          rintro e z ⟨rfl, hbz⟩
          have HBz := Lib.hid (HB6.out.trans (hbz.mono HB6.out.size))
          clear hbz
          cases cf : fitsI i with
          | false =>
            have HE := Lib.hid (show insQ i r sl = 32 by unfold insQ; rw [if_neg (by rw [C1.out]; simp), if_neg (by rw [C2.out, C3.out]; simp), if_neg (by rw [C4.out]; simp), if_pos cf])
            clear cf
            go_wp2
            go_ret
            exact ⟨ret_num HE.out.symm, HBz.out⟩
          | true =>
            have HE := Lib.hid (show insQ i r sl = 0 by unfold insQ; rw [if_neg (by rw [C1.out]; simp), if_neg (by rw [C2.out, C3.out]; simp), if_neg (by rw [C4.out]; simp), if_neg (by rw [cf]; simp)])
            clear cf
            go_wp2
            go_ret
            exact ⟨ret_num HE.out.symm, HBz.out⟩
        | true =>
          have C4 := Lib.hid c4
          clear c4
          by_cases h5 : i.imm < 0
          · have HE := Lib.hid (show insQ i r sl = 43 by unfold insQ; rw [if_neg (by rw [C1.out]; simp), if_neg (by rw [C2.out, C3.out]; simp), if_pos (by rw [C4.out, decide_eq_true h5]; rfl)])
            go_wp2
            go_ret
            exact ⟨ret_num HE.out.symm, HB6.out⟩
          · by_cases h6 : sl ≤ i.imm
            · have HE := Lib.hid (show insQ i r sl = 43 by unfold insQ; rw [if_neg (by rw [C1.out]; simp), if_neg (by rw [C2.out, C3.out]; simp), if_pos (by rw [C4.out, decide_eq_true h6, Bool.or_true]; rfl)])
              go_wp2
              go_ret
              exact ⟨ret_num HE.out.symm, HB6.out⟩
            · have C5 := Lib.hid (decide_eq_false h5)
              have C6 := Lib.hid (decide_eq_false h6)
              go_wp2_with fail
              refine (fits_any w6 i A i.args.length k).mono ?_
              rintro e z ⟨rfl, hbz⟩
              have HBz := Lib.hid (HB6.out.trans (hbz.mono HB6.out.size))
              clear hbz
              cases cf : fitsI i with
              | false =>
                have HE := Lib.hid (show insQ i r sl = 32 by unfold insQ; rw [if_neg (by rw [C1.out]; simp), if_neg (by rw [C2.out, C3.out]; simp), if_neg (by rw [C4.out, C5.out, C6.out]; simp), if_pos cf])
                clear cf
                go_wp2
                go_ret
                exact ⟨ret_num HE.out.symm, HBz.out⟩
              | true =>
                have HE := Lib.hid (show insQ i r sl = 0 by unfold insQ; rw [if_neg (by rw [C1.out]; simp), if_neg (by rw [C2.out, C3.out]; simp), if_neg (by rw [C4.out, C5.out, C6.out]; simp), if_neg (by rw [cf]; simp)])
                clear cf
                go_wp2
                go_ret
                exact ⟨ret_num HE.out.symm, HBz.out⟩
end Go.Proofs.Ytdidacjmcafcpaa.Ph
