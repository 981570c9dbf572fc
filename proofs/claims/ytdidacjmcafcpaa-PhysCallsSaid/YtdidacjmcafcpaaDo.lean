/- What the functions of the package word answer: a contract each. -/
import Derived.Test.YtdidacjmcafcpaaRows
import Derived.Test.YtdidacjmcafcpaaPlain
import Derived.WalkKit
import Derived.ProofKit
import Derived.Lib.Hide
namespace Go.Proofs.Ytdidacjmcafcpaa.Wd
open Go.ChangeShapes Go.WideShapes Go.ChangeAt Go.RowKit Go.Proofs.Ytdidacjmcafcpaa.Pl
set_option linter.unusedVariables false

theorem ret_int {k : IntKind} {a b : Int} (h : a = b) : Ending.returned (.int k a) = .returned (.int k b) := by rw [h]
theorem ret_two {a b : Int} {c d : Bool} (h : a = b) (g : c = d) : Ending.returned (.tuple #[.int .i32 a, .bool c]) = .returned (.tuple #[.int .i32 b, .bool d]) := by rw [h, g]
theorem ret_ints {a b c d : Int} (h : a = b) (g : c = d) : Ending.returned (.tuple #[.int .i32 a, .int .i32 c]) = .returned (.tuple #[.int .i32 b, .int .i32 d]) := by rw [h, g]

theorem places_any (b : Int) (w : World) :
    Calls Try.prog 83 #[.int .i32 b] w fun e w' => e = .returned (.int .u32 (b % 32)) ∧ w' = w := by
  go_enter Try.func83, Try.ntmps83
  go_wp2
  go_ret
  exact ⟨ret_int (u32_and31 b), rfl⟩
theorem truth_any (c : Bool) (w : World) :
    Calls Try.prog 84 #[.bool c] w fun e w' => e = .returned (.int .i32 (bit c)) ∧ w' = w := by
  cases c
  all_goals
    go_enter Try.func84, Try.ntmps84
    go_wp2
    go_ret
    exact ⟨rfl, rfl⟩
theorem quotient_any (a b : Int) (w : World) :
    Calls Try.prog 85 #[.int .i32 a, .int .i32 b] w fun e w' => e = .returned (.tuple #[.int .i32 (wDiv a b), .bool (doB 14 b)]) ∧ w' = w := by
  by_cases h0 : b = 0
  · subst h0
    go_enter Try.func85, Try.ntmps85
    go_wp2
    go_ret2
    exact ⟨rfl, rfl⟩
  · have hb : doB 14 b = true := by simp [doB, h0]
    by_cases h1 : b = -1
    · subst h1
      go_enter Try.func85, Try.ntmps85
      go_wp2
      go_ret2
      exact ⟨ret_two (by simp [wDiv]) hb.symm, rfl⟩
    · have hd : wDiv a b = wrap32 (a.tdiv b) := if_neg h0
      have H := Lib.hid hd
      have H2 := Lib.hid hb
      clear hd hb
      go_enter Try.func85, Try.ntmps85
      go_wp2
      go_ret2
      exact ⟨ret_two H.out.symm H2.out.symm, rfl⟩
theorem do_add (a b : Int) (w : World) :
    Calls Try.prog 78 #[.int .i64 2, .int .i32 a, .int .i32 b] w fun e w' => e = .returned (.tuple #[.int .i32 (doV 2 a b), .bool (doB 2 b)]) ∧ w' = w := by
  go_enter Try.func78, Try.ntmps78
  go_wp2
  go_ret2
  exact ⟨rfl, rfl⟩
theorem do_sub (a b : Int) (w : World) :
    Calls Try.prog 78 #[.int .i64 3, .int .i32 a, .int .i32 b] w fun e w' => e = .returned (.tuple #[.int .i32 (doV 3 a b), .bool (doB 3 b)]) ∧ w' = w := by
  go_enter Try.func78, Try.ntmps78
  go_wp2
  go_ret2
  exact ⟨rfl, rfl⟩
theorem do_mul (a b : Int) (w : World) :
    Calls Try.prog 78 #[.int .i64 4, .int .i32 a, .int .i32 b] w fun e w' => e = .returned (.tuple #[.int .i32 (doV 4 a b), .bool (doB 4 b)]) ∧ w' = w := by
  go_enter Try.func78, Try.ntmps78
  go_wp2
  go_ret2
  exact ⟨rfl, rfl⟩
theorem do_and (a b : Int) (w : World) :
    Calls Try.prog 78 #[.int .i64 5, .int .i32 a, .int .i32 b] w fun e w' => e = .returned (.tuple #[.int .i32 (doV 5 a b), .bool (doB 5 b)]) ∧ w' = w := by
  go_enter Try.func78, Try.ntmps78
  go_wp2
  go_ret2
  exact ⟨rfl, rfl⟩
theorem do_or (a b : Int) (w : World) :
    Calls Try.prog 78 #[.int .i64 6, .int .i32 a, .int .i32 b] w fun e w' => e = .returned (.tuple #[.int .i32 (doV 6 a b), .bool (doB 6 b)]) ∧ w' = w := by
  go_enter Try.func78, Try.ntmps78
  go_wp2
  go_ret2
  exact ⟨rfl, rfl⟩
theorem do_xor (a b : Int) (w : World) :
    Calls Try.prog 78 #[.int .i64 7, .int .i32 a, .int .i32 b] w fun e w' => e = .returned (.tuple #[.int .i32 (doV 7 a b), .bool (doB 7 b)]) ∧ w' = w := by
  go_enter Try.func78, Try.ntmps78
  go_wp2
  go_ret2
  exact ⟨rfl, rfl⟩
theorem do_shl (a b : Int) (w : World) :
    Calls Try.prog 78 #[.int .i64 8, .int .i32 a, .int .i32 b] w fun e w' => e = .returned (.tuple #[.int .i32 (doV 8 a b), .bool (doB 8 b)]) ∧ w' = w := by
  go_enter Try.func78, Try.ntmps78
  go_wp2_with (go_at_call 83; refine (places_any _ _).mono ?_; rintro e w' ⟨rfl, rfl⟩)
  go_ret2
  exact ⟨ret_two rfl rfl, rfl⟩
theorem do_shr (a b : Int) (w : World) :
    Calls Try.prog 78 #[.int .i64 9, .int .i32 a, .int .i32 b] w fun e w' => e = .returned (.tuple #[.int .i32 (doV 9 a b), .bool (doB 9 b)]) ∧ w' = w := by
  go_enter Try.func78, Try.ntmps78
  go_wp2_with (go_at_call 83; refine (places_any _ _).mono ?_; rintro e w' ⟨rfl, rfl⟩)
  go_ret2
  exact ⟨ret_two rfl rfl, rfl⟩
theorem do_sar (a b : Int) (w : World) :
    Calls Try.prog 78 #[.int .i64 10, .int .i32 a, .int .i32 b] w fun e w' => e = .returned (.tuple #[.int .i32 (doV 10 a b), .bool (doB 10 b)]) ∧ w' = w := by
  go_enter Try.func78, Try.ntmps78
  go_wp2_with (go_at_call 83; refine (places_any _ _).mono ?_; rintro e w' ⟨rfl, rfl⟩)
  go_ret2
  exact ⟨ret_two rfl rfl, rfl⟩
theorem do_eq (a b : Int) (w : World) :
    Calls Try.prog 78 #[.int .i64 11, .int .i32 a, .int .i32 b] w fun e w' => e = .returned (.tuple #[.int .i32 (doV 11 a b), .bool (doB 11 b)]) ∧ w' = w := by
  go_enter Try.func78, Try.ntmps78
  go_wp2_with (go_at_call 84; refine (truth_any _ _).mono ?_; rintro e w' ⟨rfl, rfl⟩)
  go_ret2
  exact ⟨rfl, rfl⟩
theorem do_lt (a b : Int) (w : World) :
    Calls Try.prog 78 #[.int .i64 12, .int .i32 a, .int .i32 b] w fun e w' => e = .returned (.tuple #[.int .i32 (doV 12 a b), .bool (doB 12 b)]) ∧ w' = w := by
  go_enter Try.func78, Try.ntmps78
  go_wp2_with (go_at_call 84; refine (truth_any _ _).mono ?_; rintro e w' ⟨rfl, rfl⟩)
  go_ret2
  exact ⟨rfl, rfl⟩
theorem do_ltu (a b : Int) (w : World) :
    Calls Try.prog 78 #[.int .i64 13, .int .i32 a, .int .i32 b] w fun e w' => e = .returned (.tuple #[.int .i32 (doV 13 a b), .bool (doB 13 b)]) ∧ w' = w := by
  go_enter Try.func78, Try.ntmps78
  go_wp2_with (go_at_call 84; refine (truth_any _ _).mono ?_; rintro e w' ⟨rfl, rfl⟩)
  go_ret2
  exact ⟨rfl, rfl⟩
theorem do_div (a b : Int) (w : World) :
    Calls Try.prog 78 #[.int .i64 14, .int .i32 a, .int .i32 b] w fun e w' => e = .returned (.tuple #[.int .i32 (doV 14 a b), .bool (doB 14 b)]) ∧ w' = w := by
  go_enter Try.func78, Try.ntmps78
  go_wp2_with (go_at_call 85; refine (quotient_any _ _ _).mono ?_; rintro e w' ⟨rfl, rfl⟩)
  go_ret2
  exact ⟨rfl, rfl⟩
theorem do_none (op a b : Int) (h : op < 2 ∨ 14 < op) (w : World) :
    Calls Try.prog 78 #[.int .i64 op, .int .i32 a, .int .i32 b] w fun e w' => e = .returned (.tuple #[.int .i32 (doV op a b), .bool (doB op b)]) ∧ w' = w := by
  have hv : doV op a b = 0 := by unfold doV; simp only [if_neg (show ¬ op = 2 by omega), if_neg (show ¬ op = 3 by omega), if_neg (show ¬ op = 4 by omega), if_neg (show ¬ op = 5 by omega), if_neg (show ¬ op = 6 by omega), if_neg (show ¬ op = 7 by omega), if_neg (show ¬ op = 8 by omega), if_neg (show ¬ op = 9 by omega), if_neg (show ¬ op = 10 by omega), if_neg (show ¬ op = 11 by omega), if_neg (show ¬ op = 12 by omega), if_neg (show ¬ op = 13 by omega), if_neg (show ¬ op = 14 by omega)]
  have hb : doB op b = false := by unfold doB; rw [decide_eq_false_iff_not]; omega
  have H := Lib.hid hv
  have H2 := Lib.hid hb
  clear hv hb
  rcases h with h | h
  all_goals
    go_enter Try.func78, Try.ntmps78
    go_wp2
    go_ret2
    exact ⟨ret_two H.out.symm H2.out.symm, rfl⟩
/-- word.Do, whatever it is called with. -/
theorem do_any (op a b : Int) (w : World) :
    Calls Try.prog 78 #[.int .i64 op, .int .i32 a, .int .i32 b] w fun e w' => e = .returned (.tuple #[.int .i32 (doV op a b), .bool (doB op b)]) ∧ w' = w := by
  by_cases h : op < 2 ∨ 14 < op
  · exact do_none op a b h w
  · have h' : op = 2 ∨ op = 3 ∨ op = 4 ∨ op = 5 ∨ op = 6 ∨ op = 7 ∨ op = 8 ∨ op = 9 ∨ op = 10 ∨ op = 11 ∨ op = 12 ∨ op = 13 ∨ op = 14 := by omega
    rcases h' with rfl | rfl | rfl | rfl | rfl | rfl | rfl | rfl | rfl | rfl | rfl | rfl | rfl
    · exact do_add a b w
    · exact do_sub a b w
    · exact do_mul a b w
    · exact do_and a b w
    · exact do_or a b w
    · exact do_xor a b w
    · exact do_shl a b w
    · exact do_shr a b w
    · exact do_sar a b w
    · exact do_eq a b w
    · exact do_lt a b w
    · exact do_ltu a b w
    · exact do_div a b w
theorem doB_false (op a b : Int) (h : doB op b = false) : doV op a b = 0 := by
  unfold doB at h
  rw [decide_eq_false_iff_not] at h
  unfold doV
  simp only [if_neg (show ¬ op = 2 by omega), if_neg (show ¬ op = 3 by omega), if_neg (show ¬ op = 4 by omega), if_neg (show ¬ op = 5 by omega), if_neg (show ¬ op = 6 by omega), if_neg (show ¬ op = 7 by omega), if_neg (show ¬ op = 8 by omega), if_neg (show ¬ op = 9 by omega), if_neg (show ¬ op = 10 by omega), if_neg (show ¬ op = 11 by omega), if_neg (show ¬ op = 12 by omega), if_neg (show ¬ op = 13 by omega)]
  by_cases h14 : op = 14
  · have : b = 0 := by omega
    rw [if_pos h14, wDiv, if_pos this]
  · rw [if_neg h14]
end Go.Proofs.Ytdidacjmcafcpaa.Wd
