/- Stage 3: small contracts of check: what may be, what is denied, limits, products, the map of spots. -/
import Derived.Test.YtdfehpcbcgbidaaRows
import Derived.Test.YtdfehpcbcgbidaaKPure
import Derived.WalkKit
import Derived.ProofKit
import Derived.Below
import Derived.Lib.Hide
import Derived.Deep.QuietTactic
import Derived.BigQuiet
import Derived.WalkSmall
import Derived.Test.YtdfehpcbcgbidaaFn
import Derived.Test.YtdfehpcbcgbidaaStruct
import Derived.Deep.Cut
import Derived.Test.YtdfehpcbcgbidaaMem
import Derived.RangeFuncRecord
import Derived.Maps.Own
import Derived.Maps.OwnSet
import Derived.Maps.Views
/- Stage 3: which operations and terms there may be: check's mayBe, mayEnd and folds. -/
namespace Go.Proofs.Ytdfehpcbcgbidaa.Kc
open Go.ChangeShapes Go.WideShapes Go.ChangeAt Go.RowKit
set_option linter.unusedVariables false
/-- An answer of a bool; nothing that was there has turned. -/
def Says (b : Bool) (w : World) (e : Ending) (w' : World) : Prop := e = .returned (.bool b) ∧ Below w.heap.size w w'
theorem below_drewK {B : Nat} {w w' : World} (h : Below B w w') (n : Nat) : Below B w (w'.drewN n) := ⟨h.os, h.tape, h.output, h.size, h.block⟩
set_option maxRecDepth 100000 in
theorem maybe_any (w : World) (op dst two : Int) (A : Option Addr) (n c : Nat) (imm : Int) :
    Calls Try.prog 49 #[.agg #[.int .i64 op, .int .i64 dst, .int .i64 two, .slice A n c, .int .i32 imm]] w (Says (mayB op n) w) := by
  have HB := Lib.hid ((Below.refl w.heap.size w).alloc (Nat.le_refl _) (.cells #[.int .i64 op, .int .i64 dst, .int .i64 two, .slice A n c, .int .i32 imm] 36))
  by_cases h1 : op = 1
  · have e1 : (op == 1) = true := beq_iff_eq.2 h1
    have HM := Lib.hid (show mayB op n = ((n : Int) == 0) from if_pos h1)
    clear h1
    go_enter Try.func49, Try.ntmps49
    go_wp2
    go_ret
    exact ⟨by rw [HM.out]; rfl, HB.out⟩
  · have e1 : (op == 1) = false := beq_eq_false_iff_ne.2 h1
    by_cases h2 : op = 15
    · have e2 : (op == 15) = true := beq_iff_eq.2 h2
      have HM := Lib.hid (show mayB op n = ((n : Int) == 1) from (if_neg h1).trans (if_pos h2))
      clear h1 h2
      go_enter Try.func49, Try.ntmps49
      go_wp2
      go_ret
      exact ⟨by rw [HM.out]; rfl, HB.out⟩
    · have e2 : (op == 15) = false := beq_eq_false_iff_ne.2 h2
      by_cases h3 : op = 17
      · have e3 : (op == 17) = true := beq_iff_eq.2 h3
        have HM := Lib.hid (show mayB op n = decide ((n : Int) ≤ 4) from (if_neg h1).trans ((if_neg h2).trans (if_pos h3)))
        clear h1 h2 h3
        go_enter Try.func49, Try.ntmps49
        go_wp2
        go_ret
        exact ⟨by rw [HM.out]; rfl, HB.out⟩
      · have e3 : (op == 17) = false := beq_eq_false_iff_ne.2 h3
        by_cases h4 : 1 < op
        · by_cases h5 : op ≤ 18
          · have HM := Lib.hid (show mayB op n = ((n : Int) == 2) from (if_neg h1).trans ((if_neg h2).trans ((if_neg h3).trans (if_pos ⟨h4, h5⟩))))
            clear h1 h2 h3
            go_enter Try.func49, Try.ntmps49
            go_wp2
            go_ret
            exact ⟨by rw [HM.out]; rfl, HB.out⟩
          · have HM := Lib.hid (show mayB op n = false from (if_neg h1).trans ((if_neg h2).trans ((if_neg h3).trans (if_neg (fun k => h5 k.2)))))
            clear h1 h2 h3
            go_enter Try.func49, Try.ntmps49
            go_wp2
            go_ret
            exact ⟨by rw [HM.out]; rfl, HB.out⟩
        · have HM := Lib.hid (show mayB op n = false from (if_neg h1).trans ((if_neg h2).trans ((if_neg h3).trans (if_neg (fun k => h4 k.1)))))
          clear h1 h2 h3
          go_enter Try.func49, Try.ntmps49
          go_wp2
          go_ret
          exact ⟨by rw [HM.out]; rfl, HB.out⟩
set_option maxRecDepth 100000 in
set_option maxHeartbeats 4000000 in
theorem mayEnd_any (w : World) (kind : Int) (A : Option Addr) (n c : Nat) (T : Option Addr) (to ct : Nat) (imm : Int) :
    Calls Try.prog 51 #[.agg #[.int .i64 kind, .slice A n c, .slice T to ct, .int .i32 imm]] w (Says (endB kind n to) w) := by
  have HB := Lib.hid ((Below.refl w.heap.size w).alloc (Nat.le_refl _) (.cells #[.int .i64 kind, .slice A n c, .slice T to ct, .int .i32 imm] 30))
  by_cases h1 : kind = 1
  · have e1 : (kind == 1) = true := beq_iff_eq.2 h1
    have HM := Lib.hid (show endB kind n to = (((n : Int) == 0) && ((to : Int) == 1)) by unfold endB; rw [if_pos h1])
    clear h1
    cases c0 : ((n : Int) == 0) <;> cases c1 : ((to : Int) == 1)
    all_goals
      rw [c0, c1] at HM
      go_enter Try.func51, Try.ntmps51
      go_wp2_with fail
      go_quiet (fail)
      go_wp2
      go_ret
      exact ⟨by rw [HM.out]; first | rfl | simp_all, below_drewK HB.out _⟩
  · have e1 : (kind == 1) = false := beq_eq_false_iff_ne.2 h1
    by_cases h2 : kind = 2
    · have e2 : (kind == 2) = true := beq_iff_eq.2 h2
      have HM := Lib.hid (show endB kind n to = (((n : Int) == 1) && ((to : Int) == 2)) by unfold endB; rw [if_neg h1, if_pos h2])
      clear h1 h2
      cases c0 : ((n : Int) == 1) <;> cases c1 : ((to : Int) == 2)
      all_goals
        rw [c0, c1] at HM
        go_enter Try.func51, Try.ntmps51
        go_wp2_with fail
        go_quiet (fail)
        go_wp2
        go_ret
        exact ⟨by rw [HM.out]; first | rfl | simp_all, below_drewK HB.out _⟩
    · have e2 : (kind == 2) = false := beq_eq_false_iff_ne.2 h2
      by_cases h3 : kind = 3
      · have e3 : (kind == 3) = true := beq_iff_eq.2 h3
        have HM := Lib.hid (show endB kind n to = (((n : Int) == 1) && (decide ((2 : Int) ≤ to) && decide ((to : Int) ≤ 65))) by unfold endB; rw [if_neg h1, if_neg h2, if_pos h3])
        clear h1 h2 h3
        cases c0 : ((n : Int) == 1) <;> cases c1 : decide ((2 : Int) ≤ to) <;> cases c2 : decide ((to : Int) ≤ 65)
        all_goals
          rw [c0, c1, c2] at HM
          go_enter Try.func51, Try.ntmps51
          go_wp2_with fail
          go_quiet (fail)
          go_wp2
          go_ret
          exact ⟨by rw [HM.out]; first | rfl | simp_all, below_drewK HB.out _⟩
      · have e3 : (kind == 3) = false := beq_eq_false_iff_ne.2 h3
        by_cases h4 : kind = 4
        · have e4 : (kind == 4) = true := beq_iff_eq.2 h4
          have HM := Lib.hid (show endB kind n to = (decide ((n : Int) ≤ 1) && ((to : Int) == 0)) by unfold endB; rw [if_neg h1, if_neg h2, if_neg h3, if_pos h4])
          clear h1 h2 h3 h4
          cases c0 : decide ((n : Int) ≤ 1) <;> cases c1 : ((to : Int) == 0)
          all_goals
            rw [c0, c1] at HM
            go_enter Try.func51, Try.ntmps51
            go_wp2_with fail
            go_quiet (fail)
            go_wp2
            go_ret
            exact ⟨by rw [HM.out]; first | rfl | simp_all, below_drewK HB.out _⟩
        · have e4 : (kind == 4) = false := beq_eq_false_iff_ne.2 h4
          by_cases h5 : kind = 5
          · have e5 : (kind == 5) = true := beq_iff_eq.2 h5
            have HM := Lib.hid (show endB kind n to = (((n : Int) == 0) && ((to : Int) == 0)) by unfold endB; rw [if_neg h1, if_neg h2, if_neg h3, if_neg h4, if_pos h5])
            clear h1 h2 h3 h4 h5
            cases c0 : ((n : Int) == 0) <;> cases c1 : ((to : Int) == 0)
            all_goals
              rw [c0, c1] at HM
              go_enter Try.func51, Try.ntmps51
              go_wp2_with fail
              go_quiet (fail)
              go_wp2
              go_ret
              exact ⟨by rw [HM.out]; first | rfl | simp_all, below_drewK HB.out _⟩
          · have e5 : (kind == 5) = false := beq_eq_false_iff_ne.2 h5
            have HM := Lib.hid (show endB kind n to = false by unfold endB; rw [if_neg h1, if_neg h2, if_neg h3, if_neg h4, if_neg h5])
            clear h1 h2 h3 h4 h5
            go_enter Try.func51, Try.ntmps51
            go_wp2_with fail
            go_quiet (fail)
            go_wp2
            go_ret
            exact ⟨by rw [HM.out]; first | rfl | simp_all, below_drewK HB.out _⟩
end Go.Proofs.Ytdfehpcbcgbidaa.Kc
/- Stage 3: what check's deny does. -/
namespace Go.Proofs.Ytdfehpcbcgbidaa.Kc
open Go.ChangeShapes Go.WideShapes Go.ChangeAt Go.RowKit
set_option linter.unusedVariables false
set_option maxRecDepth 100000 in
theorem deny_not (w : World) (e b p : Int) : Calls Try.prog 47 #[.bool false, .int .i64 e, .agg #[.int .i64 b, .int .i64 p]] w fun en w' => en = .returned (.tuple #[]) ∧ Below w.heap.size w w' := by
  have HB := Lib.hid ((Below.refl w.heap.size w).alloc (Nat.le_refl _) (.cells #[.int .i64 b, .int .i64 p] 56))
  go_enter Try.func47, Try.ntmps47
  go_wp2
  go_end0
  exact ⟨rfl, HB.out⟩
/-- What deny gives up by. -/
def denied (e b p : Int) : Value := .iface 58 (.agg #[.int .i64 e, .int .i64 b, .int .i64 p])
set_option maxRecDepth 100000 in
theorem deny_so (w : World) (e b p : Int) : Calls Try.prog 47 #[.bool true, .int .i64 e, .agg #[.int .i64 b, .int .i64 p]] w fun en w' => en = .panicked [{ v := denied e b p, recovered := false }] ∧ Below w.heap.size w w' := by
  have HB := Lib.hid ((Below.refl w.heap.size w).alloc (Nat.le_refl _) (.cells #[.int .i64 b, .int .i64 p] 56))
  go_enter Try.func47, Try.ntmps47
  go_wp2_with fail
  first
    | exact ⟨rfl, HB.out⟩
    | (simp [bodyPost]; exact ⟨rfl, HB.out⟩)
theorem deny_n (w : World) (e b p : Int) {bad : Bool} (h : bad = false) : Calls Try.prog 47 #[.bool bad, .int .i64 e, .agg #[.int .i64 b, .int .i64 p]] w fun en w' => en = .returned (.tuple #[]) ∧ Below w.heap.size w w' := by
  subst h; exact deny_not w e b p
theorem deny_y (w : World) (e b p : Int) {bad : Bool} (h : bad = true) : Calls Try.prog 47 #[.bool bad, .int .i64 e, .agg #[.int .i64 b, .int .i64 p]] w fun en w' => en = .panicked [{ v := denied e b p, recovered := false }] ∧ Below w.heap.size w w' := by
  subst h; exact deny_so w e b p
/-- It gives up: so. -/
def Gives (f : Fault) (w : World) (en : Ending) (w' : World) : Prop := en = .panicked [{ v := denied f.1 f.2.1 f.2.2, recovered := false }] ∧ Below w.heap.size w w'
theorem Gives.trans {f : Fault} {w w1 w2 : World} {en : Ending} (hb : Below w.heap.size w w1) (h : Gives f w1 en w2) : Gives f w en w2 := ⟨h.1, hb.trans (h.2.mono hb.size)⟩
end Go.Proofs.Ytdfehpcbcgbidaa.Kc
/- Stage 3: how many there are of all: check's limits. -/
namespace Go.Proofs.Ytdfehpcbcgbidaa.Kc
open Go.ChangeShapes Go.WideShapes Go.ChangeAt Go.RowKit Go.Proofs.Ytdfehpcbcgbidaa.Mem
set_option linter.unusedVariables false
def Counts (n : Nat) (w : World) (en : Ending) (w' : World) : Prop := en = .returned (.int .i64 (n : Int)) ∧ Below w.heap.size w w'
theorem ret_nat {a b : Nat} (h : a = b) : Ending.returned (.int .i64 (a : Int)) = .returned (.int .i64 (b : Int)) := by rw [h]
set_option maxRecDepth 100000 in
set_option maxHeartbeats 2000000 in
theorem limits_args (w : World) (params : Int) (A : Option Addr) (n c : Nat) (h : params < 0 ∨ 4 < params) :
    Calls Try.prog 20 #[.agg #[.int .i64 params, .slice A n c]] w (Gives (1, 0, 0) w) := by
  have HB := Lib.hid ((Below.refl w.heap.size w).alloc (Nat.le_refl _) (.cells #[.int .i64 params, .slice A n c] 24))
  have hz := HB.out.size
  rcases Int.lt_or_le params 0 with h1 | h1
  · clear h
    go_enter Try.func20, Try.ntmps20
    go_wp2_with fail
    refine (deny_so _ 1 0 0).mono ?_
    rintro e w' ⟨rfl, hb⟩
    have HB2 := Lib.hid (HB.out.trans (hb.mono hz))
    clear hb
    simp [bodyPost]
    exact ⟨rfl, HB2.out⟩
  · have h2 : 4 < params := by omega
    clear h
    go_enter Try.func20, Try.ntmps20
    go_wp2_with fail
    refine (deny_so _ 1 0 0).mono ?_
    rintro e w' ⟨rfl, hb⟩
    have HB2 := Lib.hid (HB.out.trans (hb.mono hz))
    clear hb
    simp [bodyPost]
    exact ⟨rfl, HB2.out⟩
set_option maxRecDepth 100000 in
set_option maxHeartbeats 2000000 in
theorem limits_none (w : World) (params : Int) (A : Option Addr) (c : Nat) (h1 : ¬ params < 0) (h2 : ¬ 4 < params) :
    Calls Try.prog 20 #[.agg #[.int .i64 params, .slice A 0 c]] w (Gives (14, 0, 0) w) := by
  go_enter Try.func20, Try.ntmps20
  go_upto_region 1 with (fail)
  obtain ⟨W, hW⟩ : ∃ W, w.alloc (.cells #[.int .i64 params, .slice A 0 c] 24) = W := ⟨_, rfl⟩
  rw [hW]
  have HB := Lib.hid (show Below w.heap.size w W by rw [← hW]; exact (Below.refl _ _).alloc (Nat.le_refl _) _)
  have hsW : Str W w.heap.size 24 [.int .i64 params, .slice A 0 c] := by rw [← hW]; exact World.alloc_heap_new w _
  have HSW := Lib.hid hsW
  have k0 : W.cell? ⟨w.heap.size, 0, none⟩ = some (.int .i64 params) := hsW.cell 0
  clear hW hsW
  go_wp2_with fail
  refine (deny_not _ 1 0 0).mono ?_
  rintro e w1 ⟨rfl, hb⟩
  have HB1 := Lib.hid (HB.out.trans (hb.mono HB.out.size))
  have k1 : w1.cell? ⟨w.heap.size, 1, none⟩ = some (.slice A 0 c) := (HSW.out.below hb).cell 1
  clear hb HB k0
  go_wp2_with fail
  refine (deny_so _ 14 0 0).mono ?_
  rintro e w' ⟨rfl, hb⟩
  have HB2 := Lib.hid (HB1.out.trans (hb.mono HB1.out.size))
  clear hb
  simp [bodyPost]
  exact ⟨rfl, HB2.out⟩
/-- What lies in a block. -/
theorem block_cells {w : World} {b o : Nat} {x : PBlock} (h : BlockAt w b o x) : ∃ p0 c0 p1 c1 p3 c3 p4 c4, w.cell? ⟨b, o, none⟩ = some (.slice p0 x.phis.length c0) ∧ w.cell? ⟨b, o + 1, none⟩ = some (.slice p1 x.ins.length c1) ∧
    w.cell? ⟨b, o + 2, none⟩ = some (.int .i64 x.term.kind) ∧ w.cell? ⟨b, o + 3, none⟩ = some (.slice p3 x.term.args.length c3) ∧ w.cell? ⟨b, o + 4, none⟩ = some (.slice p4 x.term.to.length c4) ∧ w.cell? ⟨b, o + 5, none⟩ = some (.int .i32 x.term.imm) := by
  obtain ⟨⟨v0, h0, p0, c0, _, _, rfl, _⟩, ⟨v1, h1, p1, c1, _, _, rfl, _⟩, h2, ⟨v3, h3, p3, c3, rfl, _⟩, ⟨v4, h4, p4, c4, rfl, _⟩, h5⟩ := h
  exact ⟨p0, c0, p1, c1, p3, c3, p4, c4, h0, h1, h2, h3, h4, h5⟩
set_option maxRecDepth 100000 in
set_option maxHeartbeats 4000000 in
theorem limits_blocks (w : World) (params : Int) (A : Option Addr) (c : Nat) (bs : List PBlock) (hA : BlocksAt w (.slice A bs.length c) bs) (h1 : ¬ params < 0) (h2 : ¬ 4 < params) (h3 : 512 < bs.length) :
    Calls Try.prog 20 #[.agg #[.int .i64 params, .slice A bs.length c]] w (Gives (2, 0, 0) w) := by
  go_enter Try.func20, Try.ntmps20
  go_upto_region 1 with (fail)
  obtain ⟨W, hW⟩ : ∃ W, w.alloc (.cells #[.int .i64 params, .slice A bs.length c] 24) = W := ⟨_, rfl⟩
  rw [hW]
  have hbW : Below w.heap.size w W := by rw [← hW]; exact (Below.refl _ _).alloc (Nat.le_refl _) _
  have HB := Lib.hid hbW
  have hsW : Str W w.heap.size 24 [.int .i64 params, .slice A bs.length c] := by rw [← hW]; exact World.alloc_heap_new w _
  have HSW := Lib.hid hsW
  have k0 : W.cell? ⟨w.heap.size, 0, none⟩ = some (.int .i64 params) := hsW.cell 0
  have HX := Lib.hid (hA.keep hbW)
  clear hW hsW hbW hA
  have e0 : ((bs.length : Int) == 0) = false := beq_eq_false_iff_ne.2 (by omega)
  go_wp2_with fail
  refine (deny_n _ 1 0 0 rfl).mono ?_
  rintro e w1 ⟨rfl, hb⟩
  have HB1 := Lib.hid (HB.out.trans (hb.mono HB.out.size))
  have HS1 := Lib.hid (HSW.out.below hb)
  have k1 : w1.cell? ⟨w.heap.size, 1, none⟩ = some (.slice A bs.length c) := HS1.out.cell 1
  have HX1 := Lib.hid (HX.out.keep hb)
  clear hb HB HSW k0 HX
  go_wp2_with fail
  refine (deny_n _ 14 0 0 (by first | (simp; done) | (simp; omega))).mono ?_
  rintro e w2 ⟨rfl, hb⟩
  have HB2 := Lib.hid (HB1.out.trans (hb.mono HB1.out.size))
  have HS2 := Lib.hid (HS1.out.below hb)
  have k1 : w2.cell? ⟨w.heap.size, 1, none⟩ = some (.slice A bs.length c) := HS2.out.cell 1
  have HX2 := Lib.hid (HX1.out.keep hb)
  clear hb HB1 HS1 HX1
  go_wp2_with fail
  refine (deny_y _ 2 0 0 (by first | (simp; done) | (simp; omega))).mono ?_
  rintro e w' ⟨rfl, hb⟩
  have HB3 := Lib.hid (HB2.out.trans (hb.mono HB2.out.size))
  clear hb
  simp [bodyPost]
  exact ⟨rfl, HB3.out⟩
/-- No row is longer than memory. -/
theorem row_bound {α : Type} {w : World} {size : Nat} {R : World → Nat → Nat → α → Prop} {A : Option Addr} {n c : Nat} {l : List α} (h : RowAt w size R (.slice A n c) l) : n = l.length ∧ l.length ≤ maxLen := by
  obtain ⟨A', c', b, o, e, h1, h2, _⟩ := h
  injection e with _ e
  exact ⟨e, Nat.le_trans h1 h2⟩
def LimPost (bs : List PBlock) (w : World) (en : Ending) (w' : World) : Prop := if 4096 < uptoP bs bs.length then Gives (2, 0, 0) w en w' else Counts (uptoP bs bs.length) w en w'
set_option maxRecDepth 100000 in
set_option maxHeartbeats 4000000 in
theorem limits_all (w : World) (params : Int) (A : Option Addr) (c : Nat) (bs : List PBlock) (hA : BlocksAt w (.slice A bs.length c) bs) (h1 : ¬ params < 0) (h2 : ¬ 4 < params) (h3 : 0 < bs.length) (h4 : bs.length ≤ 512)
    (hs : ∀ k (h : k < bs.length), bs[k].phis.length ≤ maxLen ∧ bs[k].ins.length ≤ maxLen) (hu : ∀ k, k ≤ bs.length → uptoP bs k ≤ 1000000000000000000) :
    Calls Try.prog 20 #[.agg #[.int .i64 params, .slice A bs.length c]] w (LimPost bs w) := by
  have HS := Lib.hid hs
  have HU := Lib.hid hu
  clear hs hu
  go_enter Try.func20, Try.ntmps20
  go_upto_region 1 with (fail)
  obtain ⟨W, hW⟩ : ∃ W, w.alloc (.cells #[.int .i64 params, .slice A bs.length c] 24) = W := ⟨_, rfl⟩
  rw [hW]
  have hbW : Below w.heap.size w W := by rw [← hW]; exact (Below.refl _ _).alloc (Nat.le_refl _) _
  have HB := Lib.hid hbW
  have hsW : Str W w.heap.size 24 [.int .i64 params, .slice A bs.length c] := by rw [← hW]; exact World.alloc_heap_new w _
  have HSW := Lib.hid hsW
  have k0 : W.cell? ⟨w.heap.size, 0, none⟩ = some (.int .i64 params) := hsW.cell 0
  have HX := Lib.hid (hA.keep hbW)
  clear hW hsW hbW hA
  have e0 : ((bs.length : Int) == 0) = false := beq_eq_false_iff_ne.2 (by omega)
  go_wp2_with fail
  refine (deny_n _ 1 0 0 rfl).mono ?_
  rintro e w1 ⟨rfl, hb⟩
  have HB1 := Lib.hid (HB.out.trans (hb.mono HB.out.size))
  have HS1 := Lib.hid (HSW.out.below hb)
  have k1 : w1.cell? ⟨w.heap.size, 1, none⟩ = some (.slice A bs.length c) := HS1.out.cell 1
  have HX1 := Lib.hid (HX.out.keep hb)
  clear hb HB HSW k0 HX
  go_wp2_with fail
  refine (deny_n _ 14 0 0 (by first | (simp; done) | (simp; omega))).mono ?_
  rintro e w2 ⟨rfl, hb⟩
  have HB2 := Lib.hid (HB1.out.trans (hb.mono HB1.out.size))
  have HS2 := Lib.hid (HS1.out.below hb)
  have k1 : w2.cell? ⟨w.heap.size, 1, none⟩ = some (.slice A bs.length c) := HS2.out.cell 1
  have HX2 := Lib.hid (HX1.out.keep hb)
  clear hb HB1 HS1 HX1
  go_wp2_with fail
  refine (deny_n _ 2 0 0 (by first | (simp; done) | (simp; omega))).mono ?_
  rintro e w3 ⟨rfl, hb⟩
  have HB3 := Lib.hid (HB2.out.trans (hb.mono HB2.out.size))
  have HS3 := Lib.hid (HS2.out.below hb)
  have k1 : w3.cell? ⟨w.heap.size, 1, none⟩ = some (.slice A bs.length c) := HS3.out.cell 1
  have HX3 := Lib.hid (HX2.out.keep hb)
  clear hb HB2 HS2 HX2
  go_wp2_with fail
  go_loopw [3, 31] (fun t i wr => ∃ k : Nat, k ≤ bs.length ∧ i = .int .i64 k ∧ t = .int .i64 (uptoP bs k : Nat) ∧ Below w3.heap.size w3 wr) (fun _ i _ => bs.length - (intOf i).toNat)
  case atStart => exact ⟨0, by omega, rfl, by rw [uptoP_zero]; rfl, Below.refl _ _⟩
  case round =>
    obtain ⟨k, hk, rfl, rfl, hb⟩ := hrel
    obtain ⟨wo, rfl⟩ : ∃ wo : World, wo = wr := ⟨_, rfl⟩
    have HB := Lib.hid hb
    clear hb
    by_cases hlt : k < bs.length
    · obtain ⟨A', c', b, o, e, q1, q2, q3, q4⟩ := HX3.out.keep HB.out
      injection e with e1 _ e3
      subst e1 e3
      have e1 := q3 (by omega)
      subst e1
      obtain ⟨p0, c0, p1, c1, p3, c3, p4, c4, r0, r1, r2, r3, r4, r5⟩ := block_cells (q4 k hlt)
      have hsk := HS.out k hlt
      have hus := HU.out (k + 1) (by omega)
      rw [uptoP_succ hlt] at hus
      have HUS := Lib.hid (uptoP_succ hlt)
      have HBA := Lib.hid (HB.out.alloc HB.out.size (.cells #[.slice p0 bs[k].phis.length c0, .slice p1 bs[k].ins.length c1, .int .i64 bs[k].term.kind, .slice p3 bs[k].term.args.length c3, .slice p4 bs[k].term.to.length c4, .int .i32 bs[k].term.imm] 34))
      clear q4 q3
      unfold maxLen at hsk
      unfold sizeP at hus HUS
      generalize bs[k].phis.length = x at *
      generalize bs[k].ins.length = y at *
      generalize bs[k].term.args.length = z3 at *
      generalize bs[k].term.to.length = z4 at *
      generalize bs[k].term.kind = z2 at *
      generalize bs[k].term.imm = z5 at *
      generalize uptoP bs k = u at *
      go_wp2
      go_roundw
      case rel => exact ⟨k + 1, by omega, by go_num, by rw [HUS.out]; go_num, HBA.out⟩
      case measure => simp [intOf]; omega
    · obtain rfl : k = bs.length := by omega
      by_cases hm : 4096 < uptoP bs bs.length
      · have HP := Lib.hid (show ∀ en w', Gives (2, 0, 0) w en w' → LimPost bs w en w' from fun en w' h => by unfold LimPost; rw [if_pos hm]; exact h)
        generalize uptoP bs bs.length = u at *
        go_wp2_with fail
        refine (deny_y _ 2 0 0 (by first | (simp; done) | (simp; omega))).mono ?_
        rintro e w' ⟨rfl, hb⟩
        have HB5 := Lib.hid ((HB3.out.trans (HB.out.mono HB3.out.size)).trans (hb.mono (Nat.le_trans HB3.out.size HB.out.size)))
        clear hb
        simp [bodyPost]
        exact HP.out _ _ ⟨rfl, HB5.out⟩
      · have HP := Lib.hid (show ∀ en w', Counts (uptoP bs bs.length) w en w' → LimPost bs w en w' from fun en w' h => by unfold LimPost; rw [if_neg hm]; exact h)
        have hub := HU.out _ (Nat.le_refl _)
        generalize uptoP bs bs.length = u at *
        go_wp2_with fail
        refine (deny_n _ 2 0 0 (by first | (simp; done) | (simp; omega))).mono ?_
        rintro e w' ⟨rfl, hb⟩
        have HB5 := Lib.hid ((HB3.out.trans (HB.out.mono HB3.out.size)).trans (hb.mono (Nat.le_trans HB3.out.size HB.out.size)))
        clear hb
        go_wp2
        go_ret
        exact HP.out _ _ ⟨rfl, HB5.out⟩
end Go.Proofs.Ytdfehpcbcgbidaa.Kc
/- Stage 3: what values an instruction makes: check's products. -/
namespace Go.Proofs.Ytdfehpcbcgbidaa.Kc
open Go.ChangeShapes Go.WideShapes Go.ChangeAt Go.RowKit Go.Proofs.Ytdfehpcbcgbidaa.Mem
set_option linter.unusedVariables false
def MadeNums (l : List Int) (w : World) (e : Ending) (w' : World) : Prop := ∃ v, e = .returned v ∧ Ints w' v l ∧ (∀ g o e' n c, v = .slice (some ⟨g, o, e'⟩) n c → w.heap.size ≤ g) ∧ Below w.heap.size w w'
set_option maxRecDepth 100000 in
theorem products_any (w : World) (op dst two : Int) (A : Option Addr) (n c : Nat) (imm : Int) :
    Calls Try.prog 50 #[.agg #[.int .i64 op, .int .i64 dst, .int .i64 two, .slice A n c, .int .i32 imm]] w (MadeNums (prodL op dst two) w) := by
  obtain ⟨W1, hW1⟩ : ∃ W1, w.alloc (.cells #[.int .i64 op, .int .i64 dst, .int .i64 two, .slice A n c, .int .i32 imm] 36) = W1 := ⟨_, rfl⟩
  have hz1 : W1.heap.size = w.heap.size + 1 := by rw [← hW1]; simp
  have hb1 : Below w.heap.size w W1 := by rw [← hW1]; exact (Below.refl _ _).alloc (Nat.le_refl _) _
  have HB := Lib.hid (hb1.alloc hb1.size (.cells #[.int .i64 dst, .int .i64 two] 78))
  have hh := World.alloc_heap_new W1 (.cells #[.int .i64 dst, .int .i64 two] 78)
  have HC := Lib.hid (show ∀ m, m ≤ 2 → Ints (W1.alloc (.cells #[.int .i64 dst, .int .i64 two] 78)) (.slice (some ⟨w.heap.size + 1, 0, none⟩) ([dst, two].take m).length 2) ([dst, two].take m) from fun m hm => by
    refine ⟨_, _, rfl, by rw [List.length_take]; simp; omega, by decide, fun k hk => ⟨_, rfl, ?_⟩⟩
    have hk2 : k < 2 := by rw [List.length_take] at hk; simp at hk; omega
    rw [hz1] at hh
    match k, hk2 with
    | 0, _ => simp [World.cell?, Addr.add, hh, List.getElem_take]
    | 1, _ => simp [World.cell?, Addr.add, hh, List.getElem_take])
  rw [← hW1] at HB HC
  clear hh hb1 hz1 hW1
  by_cases h1 : op = 16
  · have e1 : (op == 16) = true := beq_iff_eq.2 h1
    have HM := Lib.hid (show prodL op dst two = [] from if_pos h1)
    clear h1
    go_enter Try.func50, Try.ntmps50
    go_wp2
    go_ret
    exact ⟨_, rfl, by rw [HM.out]; exact ints_none _, fun g o e' n c h => (by cases h), HB.out⟩
  · have e1 : (op == 16) = false := beq_eq_false_iff_ne.2 h1
    by_cases h2 : op = 18
    · have e2 : (op == 18) = true := beq_iff_eq.2 h2
      have HM := Lib.hid (show prodL op dst two = [dst, two] from (if_neg h1).trans (if_pos h2))
      clear h1 h2
      go_enter Try.func50, Try.ntmps50
      go_wp2
      go_ret
      exact ⟨_, rfl, by rw [HM.out]; exact HC.out 2 (by omega), fun g o e' n c h => (by injection h with h; injection h with h; injection h with h; omega), HB.out⟩
    · have e2 : (op == 18) = false := beq_eq_false_iff_ne.2 h2
      have HM := Lib.hid (show prodL op dst two = [dst] from (if_neg h1).trans (if_neg h2))
      clear h1 h2
      go_enter Try.func50, Try.ntmps50
      go_wp2
      go_ret
      exact ⟨_, rfl, by rw [HM.out]; exact HC.out 1 (by omega), fun g o e' n c h => (by injection h with h; injection h with h; injection h with h; omega), HB.out⟩
end Go.Proofs.Ytdfehpcbcgbidaa.Kc
/- Stage 3: the map of where values are made. -/
namespace Go.Proofs.Ytdfehpcbcgbidaa.Kc
open Go.ChangeShapes Go.WideShapes Go.ChangeAt Go.RowKit Go.Maps Go.WideElems Go.ChangeMaps
set_option linter.unusedVariables false
/-- How a spot reads: its two numbers. -/
def spotD (s : Int × Int) : DataW Unit := .slice [.lit (.int .i64 s.1), .lit (.int .i64 s.2)] []
def rdSpot (v : Value) : Option (DataW Unit × List MemPlace) :=
  match v with
  | .agg cs =>
    match cs.toList with
    | [.int .i64 b, .int .i64 p] => some (spotD (b, p), [])
    | _ => none
  | _ => none
theorem rdSpot_mk (b p : Int) : rdSpot (.agg #[.int .i64 b, .int .i64 p]) = some (spotD (b, p), []) := rfl
theorem rdSpot_inv {v : Value} {s : Int × Int} {ps : List MemPlace} (h : rdSpot v = some (spotD s, ps)) : v = .agg #[.int .i64 s.1, .int .i64 s.2] := by
  unfold rdSpot at h
  split at h
  · rename_i cs
    split at h
    · rename_i b p hs
      injection h with h
      injection h with h _
      unfold spotD at h
      injection h with h _
      injection h with h1 h2
      injection h1 with h1
      injection h1 with _ h1
      injection h2 with h2 _
      injection h2 with h2
      injection h2 with _ h2
      have e : cs = #[.int .i64 b, .int .i64 p] := by rw [← Array.toArray_toList (xs := cs), hs]
      have h1 : b = s.1 := h1
      have h2 : p = s.2 := h2
      rw [e, h1, h2]
    · cases h
  · cases h
def keyV (n : Int) : Lit := .int .i64 n
theorem keyedV : Keyed Try.prog 3 := int_keyed Try.underlying3
theorem zeroSpot (w : World) : (zeroValue 56).run Try.prog w = .ok (.agg #[.int .i64 0, .int .i64 0]) w := by kernel_rfl
theorem keyVIs {n : Int} (h : -9223372036854775808 ≤ n ∧ n ≤ 9223372036854775807) : keyOf Try.prog 3 (.int .i64 n) = some (keyV n) := keyOf_int_mk Try.underlying3 (WalkArith.wf_i64 h)
/-- The map in block b tells of f where each value is made. -/
def SpotAt (w : World) (b c : Nat) (f : Spots) : Prop :=
  ∃ D : DataW Unit, w.ownsMap Try.prog 3 rdSpot b c D ∧ IsMap D ∧ (∀ x, Maps.has D (keyV x) = (f x).isSome) ∧ ∀ x, D.atKey (keyV x) (spotD (0, 0)) = spotD ((f x).getD (0, 0))
/-- 'by, ok := made[v]'. -/
theorem SpotAt.look {w : World} {b c : Nat} {f : Spots} (h : SpotAt w b c f) {x : Int} (hx : -9223372036854775808 ≤ x ∧ x ≤ 9223372036854775807) :
    (Instr.lookup 59 (.map (some b)) (.int .i64 x) true).run Try.prog w = .ok (.tuple #[.agg #[.int .i64 ((f x).getD (0, 0)).1, .int .i64 ((f x).getD (0, 0)).2], .bool (f x).isSome]) w := by
  obtain ⟨D, h1, h2, h3, h4⟩ := h
  obtain ⟨v, ps, hrun, hR⟩ := h1.look_ok keyedV Try.underlying59 (zeroSpot w) (rdSpot_mk 0 0) (keyVIs hx)
  rw [h4] at hR
  rw [hrun, rdSpot_inv hR, h3]
theorem SpotAt.made (w : World) : SpotAt (w.alloc (.map #[] 0)) w.heap.size 0 (fun _ => none) := ⟨.map [], World.ownsMap_made _ _ _ _, isMap_empty, fun x => rfl, fun x => rfl⟩
theorem SpotAt.kept {w w' : World} {b c : Nat} {f : Spots} {row : Option Nat} (h : SpotAt w b c f) (hg : w.grownBy w' row) (hne : some b ≠ row) : SpotAt w' b c f := by
  obtain ⟨D, h1, h2⟩ := h
  exact ⟨D, h1.kept hg hne, h2⟩
theorem grown_below {w w' : World} (hb : Below w.heap.size w w') : w.grownBy w' none := ⟨hb.os, hb.tape, hb.output, hb.size, fun k hk _ => hb.block k hk⟩
theorem SpotAt.below {w w' : World} {b c : Nat} {f : Spots} (h : SpotAt w b c f) (hb : Below w.heap.size w w') : SpotAt w' b c f := h.kept (grown_below hb) (by simp)
theorem SpotAt.lt {w : World} {b c : Nat} {f : Spots} (h : SpotAt w b c f) : b < w.heap.size := by obtain ⟨D, h1, _⟩ := h; exact h1.lt
/-- 'made[v] = at', at the operation. -/
theorem wpList_note {w : World} {ops : Array Oper} {rest : List Oper} {o : Oper} {a : Act} {Q : Exit → Act → World → Prop} (hg : o.guard = none) (m x v : Operand)
    (hop : o.op = Op.mapUpdate 59 m x v) (b c : Nat) (f : Spots) (hm : a.eval m = .map (some b)) (h : SpotAt w b c f) (hn : c < 1000000) (k : Int) (s : Int × Int)
    (hx : a.eval x = .int .i64 k) (hv : a.eval v = .agg #[.int .i64 s.1, .int .i64 s.2]) (hk : -9223372036854775808 ≤ k ∧ k ≤ 9223372036854775807)
    (hK : ∀ w', SpotAt w' b (c + 1) (noted f k s) → w.grownBy w' (some b) → wpList Try.prog ops Q rest (a.put o.dst undef) w') : wpList Try.prog ops Q (o :: rest) a w := by
  obtain ⟨D, h1, h2, h3, h4⟩ := h
  refine wpList_plain hg fun K' hK' => ?_
  obtain ⟨w', hrun, r1, r2⟩ := h1.update keyedV Try.underlying59 (by unfold maxLen; omega) (keyVIs hk) (rdSpot_mk s.1 s.2)
  have hs : SpotAt w' b (c + 1) (noted f k s) := by
    refine ⟨_, r1, h2.put _ _, fun y => ?_, fun y => ?_⟩
    · unfold noted
      by_cases e : y = k
      · subst e
        rw [if_pos rfl]
        exact has_put_same h2 (by trivial) _
      · rw [if_neg e, has_put_other (by simp [keyV]; omega), h3]
    · unfold noted
      by_cases e : y = k
      · subst e
        rw [if_pos rfl]
        exact atKey_put_same h2 (by trivial) _ _
      · rw [if_neg e, atKey_put_other (by simp [keyV]; omega), h4]
  unfold Oper.wp
  simp [execOp, hop, hm, hx, hv, hrun, Result.andThen]
  exact hK' _ _ (hK w' hs r2)
end Go.Proofs.Ytdfehpcbcgbidaa.Kc
