/- The document's answer of layer 3: what an instruction makes; how many operands and blocks there must be. -/
import Derived.Test.YtdfehpcbcgbidaaRA
namespace Go.Proofs.Ytdfehpcbcgbidaa.Rf
open Go.ChangeShapes Go.WideShapes Go.ChangeAt Go.RowKit Go.Maps Go.Proofs.Ytdfehpcbcgbidaa.Mem Go.Proofs.Ytdfehpcbcgbidaa.Br Go.Proofs.Ytdfehpcbcgbidaa.Gr Go.Proofs.Ytdfehpcbcgbidaa.Kc
set_option linter.unusedVariables false
def countB (op : Int) (n : Nat) : Bool := if op = 1 then (n : Int) == 0 else if op = 15 then (n : Int) == 1 else if op = 17 then decide ((n : Int) ≤ 4) else (n : Int) == 2
theorem count_may (op : Int) (n : Nat) : mayB op n = (decide (1 ≤ op ∧ op ≤ 18) && countB op n) := by
  unfold mayB countB
  by_cases h1 : op = 1
  · subst h1; simp
  · rw [if_neg h1, if_neg h1]
    by_cases h2 : op = 15
    · subst h2; simp
    · rw [if_neg h2, if_neg h2]
      by_cases h3 : op = 17
      · subst h3; simp
      · rw [if_neg h3, if_neg h3]
        by_cases h4 : 1 < op ∧ op ≤ 18
        · rw [if_pos h4, decide_eq_true (show 1 ≤ op ∧ op ≤ 18 by omega), Bool.true_and]
        · rw [if_neg h4, decide_eq_false (show ¬ (1 ≤ op ∧ op ≤ 18) by omega), Bool.false_and]
theorem own_lit {B : Nat} {w : World} {g n : Nat} {l : List Int} (h : Str w g 3 (l.map (Value.int .i64))) (hn : n = l.length) (hB : B ≤ g) (hl : l.length ≤ 1000) : OwnInts B w (.slice (some ⟨g, 0, none⟩) n n) l := by
  subst hn
  refine ⟨by simp, Or.inr ⟨g, _, _, rfl, hB, h, Nat.le_refl _, by unfold maxLen; omega, by simp, ?_⟩⟩
  simp [← List.map_take]
/-- The numbers that an instruction makes. -/
def MakesPost (op dst two : Int) (w : World) (e : Ending) (w' : World) : Prop := ∃ v, e = .returned v ∧ OwnInts w.heap.size w' v (prodL op dst two) ∧ Below w.heap.size w w'
set_option maxRecDepth 100000 in
set_option maxHeartbeats 1000000 in
theorem makes3r_any (w : World) (op dst two imm : Int) (av : Value) :
    Calls Try.prog 76 #[.agg #[.int .i64 op, .int .i64 dst, .int .i64 two, av, .int .i32 imm]] w (MakesPost op dst two w) := by
  have HB := Lib.hid ((Below.refl w.heap.size w).alloc (Nat.le_refl _) (.cells #[.int .i64 op, .int .i64 dst, .int .i64 two, av, .int .i32 imm] 36))
  have HL := Lib.hid (fun (l : List Int) (hl : l.length ≤ 10) => (show OwnInts w.heap.size ((w.alloc (.cells #[.int .i64 op, .int .i64 dst, .int .i64 two, av, .int .i32 imm] 36)).alloc (.cells (l.map (Value.int .i64)).toArray 3)) (.slice (some ⟨(w.alloc (.cells #[.int .i64 op, .int .i64 dst, .int .i64 two, av, .int .i32 imm] 36)).heap.size, 0, none⟩) l.length l.length) l ∧
      Below w.heap.size w ((w.alloc (.cells #[.int .i64 op, .int .i64 dst, .int .i64 two, av, .int .i32 imm] 36)).alloc (.cells (l.map (Value.int .i64)).toArray 3)) from
    ⟨own_lit (World.alloc_heap_new _ _) rfl (HB.out.size) (by omega), HB.out.alloc HB.out.size _⟩))
  by_cases h1 : op = 16
  · have HP := Lib.hid (show prodL op dst two = [] by unfold prodL; rw [if_pos h1])
    subst h1
    go_enter Try.func76, Try.ntmps76
    go_wp2
    go_ret
    exact ⟨_, rfl, by rw [HP.out]; exact World.ownsRow_nil _ _ _ _, HB.out⟩
  · have e1 : (op == 16) = false := beq_eq_false_iff_ne.2 h1
    by_cases h2 : op = 18
    · have HP := Lib.hid (show prodL op dst two = [dst, two] by unfold prodL; rw [if_neg h1, if_pos h2])
      have e2 : (op == 18) = true := beq_iff_eq.2 h2
      clear h1 h2
      go_enter Try.func76, Try.ntmps76
      go_wp2
      go_ret
      have h9 := HL.out [dst, two] (by simp)
      simp only [World.size_alloc] at h9
      exact ⟨_, rfl, by rw [HP.out]; exact h9.1, h9.2⟩
    · have HP := Lib.hid (show prodL op dst two = [dst] by unfold prodL; rw [if_neg h1, if_neg h2])
      have e2 : (op == 18) = false := beq_eq_false_iff_ne.2 h2
      clear h1 h2
      go_enter Try.func76, Try.ntmps76
      go_wp2
      go_ret
      have h9 := HL.out [dst] (by simp)
      simp only [World.size_alloc] at h9
      exact ⟨_, rfl, by rw [HP.out]; exact h9.1, h9.2⟩
set_option maxRecDepth 100000 in
set_option maxHeartbeats 1000000 in
theorem counts_any (w : World) (op : Int) (n : Nat) : Calls Try.prog 74 #[.int .i64 op, .int .i64 n] w fun e w' => e = .returned (.bool (countB op n)) ∧ w' = w := by
  by_cases h1 : op = 1
  · have e1 : (op == 1) = true := beq_iff_eq.2 h1
    have HM := Lib.hid (show countB op n = ((n : Int) == 0) from if_pos h1)
    clear h1
    go_enter Try.func74, Try.ntmps74
    go_wp2
    go_ret
    exact ⟨by rw [HM.out]; rfl, rfl⟩
  · have e1 : (op == 1) = false := beq_eq_false_iff_ne.2 h1
    by_cases h2 : op = 15
    · have e2 : (op == 15) = true := beq_iff_eq.2 h2
      have HM := Lib.hid (show countB op n = ((n : Int) == 1) from (if_neg h1).trans (if_pos h2))
      clear h1 h2
      go_enter Try.func74, Try.ntmps74
      go_wp2
      go_ret
      exact ⟨by rw [HM.out]; rfl, rfl⟩
    · have e2 : (op == 15) = false := beq_eq_false_iff_ne.2 h2
      by_cases h3 : op = 17
      · have e3 : (op == 17) = true := beq_iff_eq.2 h3
        have HM := Lib.hid (show countB op n = decide ((n : Int) ≤ 4) from (if_neg h1).trans ((if_neg h2).trans (if_pos h3)))
        clear h1 h2 h3
        go_enter Try.func74, Try.ntmps74
        go_wp2
        go_ret
        exact ⟨by rw [HM.out]; rfl, rfl⟩
      · have e3 : (op == 17) = false := beq_eq_false_iff_ne.2 h3
        have HM := Lib.hid (show countB op n = ((n : Int) == 2) from (if_neg h1).trans ((if_neg h2).trans (if_neg h3)))
        clear h1 h2 h3
        go_enter Try.func74, Try.ntmps74
        go_wp2
        go_ret
        exact ⟨by rw [HM.out]; rfl, rfl⟩
set_option maxRecDepth 100000 in
set_option maxHeartbeats 4000000 in
theorem term3_any (w : World) (kind : Int) (A : Option Addr) (n c : Nat) (T : Option Addr) (tn ct : Nat) (imm : Int) :
    Calls Try.prog 75 #[.agg #[.int .i64 kind, .slice A n c, .slice T tn ct, .int .i32 imm]] w (Says (endB kind n tn) w) := by
  have HB := Lib.hid ((Below.refl w.heap.size w).alloc (Nat.le_refl _) (.cells #[.int .i64 kind, .slice A n c, .slice T tn ct, .int .i32 imm] 30))
  by_cases h1 : kind = 1
  · have e1 : (kind == 1) = true := beq_iff_eq.2 h1
    have HM := Lib.hid (show endB kind n tn = (((n : Int) == 0) && ((tn : Int) == 1)) by unfold endB; rw [if_pos h1])
    clear h1
    cases c0 : ((n : Int) == 0) <;> cases c1 : ((tn : Int) == 1)
    all_goals
      rw [c0, c1] at HM
      go_enter Try.func75, Try.ntmps75
      go_wp2
      go_ret
      exact ⟨by rw [HM.out]; first | rfl | simp_all, HB.out⟩
  · have e1 : (kind == 1) = false := beq_eq_false_iff_ne.2 h1
    by_cases h2 : kind = 2
    · have e2 : (kind == 2) = true := beq_iff_eq.2 h2
      have HM := Lib.hid (show endB kind n tn = (((n : Int) == 1) && ((tn : Int) == 2)) by unfold endB; rw [if_neg h1, if_pos h2])
      clear h1 h2
      cases c0 : ((n : Int) == 1) <;> cases c1 : ((tn : Int) == 2)
      all_goals
        rw [c0, c1] at HM
        go_enter Try.func75, Try.ntmps75
        go_wp2
        go_ret
        exact ⟨by rw [HM.out]; first | rfl | simp_all, HB.out⟩
    · have e2 : (kind == 2) = false := beq_eq_false_iff_ne.2 h2
      by_cases h3 : kind = 3
      · have e3 : (kind == 3) = true := beq_iff_eq.2 h3
        have HM := Lib.hid (show endB kind n tn = (((n : Int) == 1) && (decide ((2 : Int) ≤ tn) && decide ((tn : Int) ≤ 65))) by unfold endB; rw [if_neg h1, if_neg h2, if_pos h3])
        clear h1 h2 h3
        cases c0 : ((n : Int) == 1) <;> cases c1 : decide ((2 : Int) ≤ tn) <;> cases c2 : decide ((tn : Int) ≤ 65)
        all_goals
          rw [c0, c1, c2] at HM
          go_enter Try.func75, Try.ntmps75
          go_wp2
          go_ret
          exact ⟨by rw [HM.out]; first | rfl | simp_all, HB.out⟩
      · have e3 : (kind == 3) = false := beq_eq_false_iff_ne.2 h3
        by_cases h4 : kind = 4
        · have e4 : (kind == 4) = true := beq_iff_eq.2 h4
          have HM := Lib.hid (show endB kind n tn = (decide ((n : Int) ≤ 1) && ((tn : Int) == 0)) by unfold endB; rw [if_neg h1, if_neg h2, if_neg h3, if_pos h4])
          clear h1 h2 h3 h4
          cases c0 : decide ((n : Int) ≤ 1) <;> cases c1 : ((tn : Int) == 0)
          all_goals
            rw [c0, c1] at HM
            go_enter Try.func75, Try.ntmps75
            go_wp2
            go_ret
            exact ⟨by rw [HM.out]; first | rfl | simp_all, HB.out⟩
        · have e4 : (kind == 4) = false := beq_eq_false_iff_ne.2 h4
          by_cases h5 : kind = 5
          · have e5 : (kind == 5) = true := beq_iff_eq.2 h5
            have HM := Lib.hid (show endB kind n tn = (((n : Int) == 0) && ((tn : Int) == 0)) by unfold endB; rw [if_neg h1, if_neg h2, if_neg h3, if_neg h4, if_pos h5])
            clear h1 h2 h3 h4 h5
            cases c0 : ((n : Int) == 0) <;> cases c1 : ((tn : Int) == 0)
            all_goals
              rw [c0, c1] at HM
              go_enter Try.func75, Try.ntmps75
              go_wp2
              go_ret
              exact ⟨by rw [HM.out]; first | rfl | simp_all, HB.out⟩
          · have e5 : (kind == 5) = false := beq_eq_false_iff_ne.2 h5
            have HM := Lib.hid (show endB kind n tn = false by unfold endB; rw [if_neg h1, if_neg h2, if_neg h3, if_neg h4, if_neg h5])
            clear h1 h2 h3 h4 h5
            go_enter Try.func75, Try.ntmps75
            go_wp2
            go_ret
            exact ⟨by rw [HM.out]; first | rfl | simp_all, HB.out⟩
end Go.Proofs.Ytdfehpcbcgbidaa.Rf
