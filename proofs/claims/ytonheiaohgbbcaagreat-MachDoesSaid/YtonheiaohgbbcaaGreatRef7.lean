/- What the document's own answers (jacquardref01), word.Wide, word.Fits and the law's first examples come to: a contract each. -/
import Derived.Test.YtonheiaohgbbcaaGreatDo
import Derived.Test.YtonheiaohgbbcaaGreatBits
import Derived.Lib.Hide
namespace Go.Proofs.YtonheiaohgbbcaaGreat.Wd
open Go.ChangeShapes Go.WideShapes Go.ChangeAt Go.RowKit Go.Proofs.YtonheiaohgbbcaaGreat.Pl
set_option linter.unusedVariables false

theorem ret_bool {a b : Bool} (h : a = b) : Ending.returned (.bool a) = .returned (.bool b) := by rw [h]

theorem wide_any (a b : Int) (ha : -2147483648 ≤ a ∧ a ≤ 2147483647) (hb : -2147483648 ≤ b ∧ b ≤ 2147483647) (w : World) :
    Calls Tryz.prog 31 #[.int .i32 a, .int .i32 b] w fun e w' => e = .returned (.tuple #[.int .i32 (wLow a b), .int .i32 (wHigh a b)]) ∧ w' = w := by
  obtain ⟨ha1, ha2⟩ := ha
  obtain ⟨hb1, hb2⟩ := hb
  go_enter Tryz.func31, Tryz.ntmps31
  go_wp2
  go_ret2
  exact ⟨ret_ints (wrap32_wrap64 _) rfl, rfl⟩
theorem rwide_any (a b : Int) (ha : -2147483648 ≤ a ∧ a ≤ 2147483647) (hb : -2147483648 ≤ b ∧ b ≤ 2147483647) (w : World) :
    Calls Tryz.prog 52 #[.int .i32 a, .int .i32 b] w fun e w' => e = .returned (.tuple #[.int .i32 (wLow a b), .int .i32 (wHigh a b)]) ∧ w' = w := by
  obtain ⟨ha1, ha2⟩ := ha
  obtain ⟨hb1, hb2⟩ := hb
  go_enter Tryz.func52, Tryz.ntmps52
  go_wp2
  go_ret2
  exact ⟨ret_ints (low_u _) (high_u _), rfl⟩
theorem bit_any (c : Bool) (w : World) :
    Calls Tryz.prog 78 #[.bool c] w fun e w' => e = .returned (.int .i32 (bit c)) ∧ w' = w := by
  cases c
  all_goals
    go_enter Tryz.func78, Tryz.ntmps78
    go_wp2
    go_ret
    exact ⟨rfl, rfl⟩
theorem rdo_add (a b : Int) (w : World) :
    Calls Tryz.prog 49 #[.int .i64 2, .int .i32 a, .int .i32 b] w fun e w' => e = .returned (.tuple #[.int .i32 (doV 2 a b), .bool (doB 2 b)]) ∧ w' = w := by
  go_enter Tryz.func49, Tryz.ntmps49
  go_wp2
  go_ret2
  exact ⟨rfl, rfl⟩
theorem rdo_sub (a b : Int) (w : World) :
    Calls Tryz.prog 49 #[.int .i64 3, .int .i32 a, .int .i32 b] w fun e w' => e = .returned (.tuple #[.int .i32 (doV 3 a b), .bool (doB 3 b)]) ∧ w' = w := by
  go_enter Tryz.func49, Tryz.ntmps49
  go_wp2
  go_ret2
  exact ⟨rfl, rfl⟩
theorem rdo_mul (a b : Int) (w : World) :
    Calls Tryz.prog 49 #[.int .i64 4, .int .i32 a, .int .i32 b] w fun e w' => e = .returned (.tuple #[.int .i32 (doV 4 a b), .bool (doB 4 b)]) ∧ w' = w := by
  go_enter Tryz.func49, Tryz.ntmps49
  go_wp2
  go_ret2
  exact ⟨rfl, rfl⟩
theorem rdo_and (a b : Int) (w : World) :
    Calls Tryz.prog 49 #[.int .i64 5, .int .i32 a, .int .i32 b] w fun e w' => e = .returned (.tuple #[.int .i32 (doV 5 a b), .bool (doB 5 b)]) ∧ w' = w := by
  go_enter Tryz.func49, Tryz.ntmps49
  go_wp2
  go_ret2
  exact ⟨rfl, rfl⟩
theorem rdo_or (a b : Int) (w : World) :
    Calls Tryz.prog 49 #[.int .i64 6, .int .i32 a, .int .i32 b] w fun e w' => e = .returned (.tuple #[.int .i32 (doV 6 a b), .bool (doB 6 b)]) ∧ w' = w := by
  go_enter Tryz.func49, Tryz.ntmps49
  go_wp2
  go_ret2
  exact ⟨rfl, rfl⟩
theorem rdo_xor (a b : Int) (w : World) :
    Calls Tryz.prog 49 #[.int .i64 7, .int .i32 a, .int .i32 b] w fun e w' => e = .returned (.tuple #[.int .i32 (doV 7 a b), .bool (doB 7 b)]) ∧ w' = w := by
  go_enter Tryz.func49, Tryz.ntmps49
  go_wp2
  go_ret2
  exact ⟨rfl, rfl⟩
theorem rdo_shl (a b : Int) (w : World) :
    Calls Tryz.prog 49 #[.int .i64 8, .int .i32 a, .int .i32 b] w fun e w' => e = .returned (.tuple #[.int .i32 (doV 8 a b), .bool (doB 8 b)]) ∧ w' = w := by
  have hm := u32_and31 b
  go_enter Tryz.func49, Tryz.ntmps49
  go_wp2
  go_ret2
  exact ⟨ret_two (by first | rfl | exact shl_u _ _) rfl, rfl⟩
theorem rdo_shr (a b : Int) (w : World) :
    Calls Tryz.prog 49 #[.int .i64 9, .int .i32 a, .int .i32 b] w fun e w' => e = .returned (.tuple #[.int .i32 (doV 9 a b), .bool (doB 9 b)]) ∧ w' = w := by
  have hm := u32_and31 b
  go_enter Tryz.func49, Tryz.ntmps49
  go_wp2
  go_ret2
  exact ⟨ret_two (by first | rfl | exact shl_u _ _) rfl, rfl⟩
theorem rdo_sar (a b : Int) (w : World) :
    Calls Tryz.prog 49 #[.int .i64 10, .int .i32 a, .int .i32 b] w fun e w' => e = .returned (.tuple #[.int .i32 (doV 10 a b), .bool (doB 10 b)]) ∧ w' = w := by
  have hm := u32_and31 b
  go_enter Tryz.func49, Tryz.ntmps49
  go_wp2
  go_ret2
  exact ⟨ret_two (by first | rfl | exact shl_u _ _) rfl, rfl⟩
theorem rdo_eq (a b : Int) (w : World) :
    Calls Tryz.prog 49 #[.int .i64 11, .int .i32 a, .int .i32 b] w fun e w' => e = .returned (.tuple #[.int .i32 (doV 11 a b), .bool (doB 11 b)]) ∧ w' = w := by
  go_enter Tryz.func49, Tryz.ntmps49
  go_wp2_with (go_at_call 78; refine (bit_any _ _).mono ?_; rintro e w' ⟨rfl, rfl⟩)
  go_ret2
  exact ⟨rfl, rfl⟩
theorem rdo_lt (a b : Int) (w : World) :
    Calls Tryz.prog 49 #[.int .i64 12, .int .i32 a, .int .i32 b] w fun e w' => e = .returned (.tuple #[.int .i32 (doV 12 a b), .bool (doB 12 b)]) ∧ w' = w := by
  go_enter Tryz.func49, Tryz.ntmps49
  go_wp2_with (go_at_call 78; refine (bit_any _ _).mono ?_; rintro e w' ⟨rfl, rfl⟩)
  go_ret2
  exact ⟨rfl, rfl⟩
theorem rdo_ltu (a b : Int) (w : World) :
    Calls Tryz.prog 49 #[.int .i64 13, .int .i32 a, .int .i32 b] w fun e w' => e = .returned (.tuple #[.int .i32 (doV 13 a b), .bool (doB 13 b)]) ∧ w' = w := by
  go_enter Tryz.func49, Tryz.ntmps49
  go_wp2_with (go_at_call 78; refine (bit_any _ _).mono ?_; rintro e w' ⟨rfl, rfl⟩)
  go_ret2
  exact ⟨rfl, rfl⟩
theorem rdo_div (a b : Int) (ha : -2147483648 ≤ a ∧ a ≤ 2147483647) (hb : -2147483648 ≤ b ∧ b ≤ 2147483647) (w : World) :
    Calls Tryz.prog 49 #[.int .i64 14, .int .i32 a, .int .i32 b] w fun e w' => e = .returned (.tuple #[.int .i32 (doV 14 a b), .bool (doB 14 b)]) ∧ w' = w := by
  obtain ⟨ha1, ha2⟩ := ha
  obtain ⟨hb1, hb2⟩ := hb
  by_cases h0 : b = 0
  · subst h0
    go_enter Tryz.func49, Tryz.ntmps49
    go_wp2
    go_ret2
    exact ⟨rfl, rfl⟩
  · have hB : doB 14 b = true := by simp [doB, h0]
    have hd : doV 14 a b = wrap32 (a.tdiv b) := if_neg h0
    have H := Lib.hid hd
    have H2 := Lib.hid hB
    clear hd hB
    go_enter Tryz.func49, Tryz.ntmps49
    go_wp2
    go_ret2
    exact ⟨ret_two (by rw [H.out]; first | rfl | exact wrap32_wrap64 _) H2.out.symm, rfl⟩
theorem rdo_none (op a b : Int) (h : op < 2 ∨ 14 < op) (w : World) :
    Calls Tryz.prog 49 #[.int .i64 op, .int .i32 a, .int .i32 b] w fun e w' => e = .returned (.tuple #[.int .i32 (doV op a b), .bool (doB op b)]) ∧ w' = w := by
  have hb : doB op b = false := by unfold doB; rw [decide_eq_false_iff_not]; omega
  have hv : doV op a b = 0 := doB_false op a b hb
  have H := Lib.hid hv
  have H2 := Lib.hid hb
  clear hv hb
  rcases h with h | h
  all_goals
    go_enter Tryz.func49, Tryz.ntmps49
    go_wp2
    go_ret2
    exact ⟨ret_two H.out.symm H2.out.symm, rfl⟩
/-- The document's Do, whatever it is called with. -/
theorem rdo_any (op a b : Int) (ha : -2147483648 ≤ a ∧ a ≤ 2147483647) (hb : -2147483648 ≤ b ∧ b ≤ 2147483647) (w : World) :
    Calls Tryz.prog 49 #[.int .i64 op, .int .i32 a, .int .i32 b] w fun e w' => e = .returned (.tuple #[.int .i32 (doV op a b), .bool (doB op b)]) ∧ w' = w := by
  by_cases h : op < 2 ∨ 14 < op
  · exact rdo_none op a b h w
  · have h' : op = 2 ∨ op = 3 ∨ op = 4 ∨ op = 5 ∨ op = 6 ∨ op = 7 ∨ op = 8 ∨ op = 9 ∨ op = 10 ∨ op = 11 ∨ op = 12 ∨ op = 13 ∨ op = 14 := by omega
    rcases h' with rfl | rfl | rfl | rfl | rfl | rfl | rfl | rfl | rfl | rfl | rfl | rfl | rfl
    · exact rdo_add a b w
    · exact rdo_sub a b w
    · exact rdo_mul a b w
    · exact rdo_and a b w
    · exact rdo_or a b w
    · exact rdo_xor a b w
    · exact rdo_shl a b w
    · exact rdo_shr a b w
    · exact rdo_sar a b w
    · exact rdo_eq a b w
    · exact rdo_lt a b w
    · exact rdo_ltu a b w
    · exact rdo_div a b ha hb w
theorem fits_any (n b : Int) (hn : -2147483648 ≤ n ∧ n ≤ 2147483647) (w : World) :
    Calls Tryz.prog 131 #[.int .i32 n, .int .i64 b] w fun e w' => e = .returned (.bool (fitB n b)) ∧ w' = w := by
  obtain ⟨hn1, hn2⟩ := hn
  by_cases h1 : b < 1
  · have H := Lib.hid (show fitB n b = (n == 0) from if_pos h1)
    go_enter Tryz.func131, Tryz.ntmps131
    go_wp2
    go_ret
    exact ⟨ret_bool H.out.symm, rfl⟩
  · by_cases h2 : 31 < b
    · have H := Lib.hid (show fitB n b = true by unfold fitB; rw [if_neg h1, if_pos h2])
      go_enter Tryz.func131, Tryz.ntmps131
      go_wp2
      go_ret
      exact ⟨ret_bool H.out.symm, rfl⟩
    · have g1 : 1 ≤ b := by omega
      have g2 : b ≤ 31 := by omega
      clear h1 h2
      go_enter Tryz.func131, Tryz.ntmps131
      go_wp2
      all_goals
        go_ret
        first | exact ⟨ret_bool (fit_no n b g1 g2 ‹_›).symm, rfl⟩ | exact ⟨ret_bool (fit_if n b g1 g2 ‹_›), rfl⟩
end Go.Proofs.YtonheiaohgbbcaaGreat.Wd
