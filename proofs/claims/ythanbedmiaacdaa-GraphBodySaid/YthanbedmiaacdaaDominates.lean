/- What package graph's Dominates answers. -/
import Derived.Test.YthanbedmiaacdaaOrder
namespace Go.Proofs.Ythanbedmiaacdaa.Gc
open Go.ChangeShapes Go.WideShapes Go.ChangeAt Go.RowKit Go.Proofs.Ythanbedmiaacdaa.Mem Go.Proofs.Ythanbedmiaacdaa.Gr Go.Proofs.Ythanbedmiaacdaa.Gn
set_option linter.unusedVariables false

theorem known_any (w : World) (bx : Nat) (A : Option Addr) (l : List Int) (c : Nat) (n : Int) (hc : w.cell? ⟨bx, 0, none⟩ = some (.slice A l.length c)) (hl : l.length ≤ 1000) :
    Calls Try.prog 48 #[.int .i64 n, .pointer (some ⟨bx, 0, none⟩)] w fun e w' => e = .returned (.bool (known l n)) ∧ w = w' := by
  by_cases h0 : 0 ≤ n
  · by_cases h1 : n < (l.length : Int)
    · have HK := Lib.hid (show known l n = true by unfold known; rw [decide_eq_true h0, decide_eq_true h1]; rfl)
      go_enter Try.func48, Try.ntmps48
      go_wp2
      go_ret
      exact ⟨ret_bool HK.out.symm, rfl⟩
    · have HK := Lib.hid (show known l n = false by unfold known; rw [decide_eq_true h0, decide_eq_false h1]; rfl)
      go_enter Try.func48, Try.ntmps48
      go_wp2
      go_ret
      exact ⟨ret_bool HK.out.symm, rfl⟩
  · have HK := Lib.hid (show known l n = false by unfold known; rw [decide_eq_false h0]; rfl)
    have d0 : decide (0 ≤ n) = false := decide_eq_false h0
    go_enter Try.func48, Try.ntmps48
    go_wp2
    go_ret
    exact ⟨ret_bool HK.out.symm, rfl⟩
theorem known_is {l : List Int} {n : Int} (h : known l n = true) : 0 ≤ n ∧ n < (l.length : Int) := by
  unfold known at h
  rw [Bool.and_eq_true, decide_eq_true_eq, decide_eq_true_eq] at h
  exact h
/-- A bool, and what lay there is as it was. -/
def AnswersB (b : Bool) (w : World) (e : Ending) (w' : World) : Prop := e = .returned (.bool b) ∧ Below w.heap.size w w'
set_option maxRecDepth 100000 in
set_option maxHeartbeats 2000000 in
theorem dominates_code (w : World) (v : Value) (l : List Int) (a b : Int) (hv : Ints w v l) (hl : l.length ≤ 1000) :
    Calls Try.prog 25 #[v, .int .i64 a, .int .i64 b] w (AnswersB (dominatesN l a b) w) := by
  obtain ⟨A, c, rfl, h1, h2, h3⟩ := hv
  unfold maxLen at h2
  have HA := Lib.hid h3
  clear h3
  go_enter Try.func25, Try.ntmps25
  go_wp2
  obtain ⟨W, hW⟩ : ∃ W, w.alloc (.cells #[.slice A l.length c] 23) = W := ⟨_, rfl⟩
  rw [hW]
  have hk : W.cell? ⟨w.heap.size, 0, none⟩ = some (.slice A l.length c) := by rw [← hW]; exact cell_made rfl
  have HB := Lib.hid (show Below w.heap.size w W by rw [← hW]; exact (Below.refl _ _).alloc (Nat.le_refl _) _)
  clear hW
  go_loop [2, 11] (fun s i => ∃ (k : Nat) (x : Int), k ≤ l.length ∧ i = .int .i64 k ∧ s = .int .i64 x ∧ chainTo l a (l.length - k) x = chainTo l a l.length b) (fun _ i => l.length - (intOf i).toNat)
  case atStart => exact ⟨0, b, by omega, rfl, rfl, rfl⟩
  case round =>
    obtain ⟨k, x, hk1, rfl, rfl, hx⟩ := hrel
    have HX := Lib.hid hx
    clear hx
    by_cases hlt : k < l.length
    · cases hkn : known l x with
      | false =>
        have HD := Lib.hid (show dominatesN l a b = false by
          unfold dominatesN
          rw [← HX.out, show l.length - k = (l.length - k - 1) + 1 by omega, chainTo, hkn]
          simp only [Bool.not_false, Bool.true_or, if_true, hkn, Bool.false_and])
        have HKN := Lib.hid hkn
        go_wp2_with (go_at_call 48; refine (known_any _ _ A l c x hk (by omega)).mono ?_; rintro e w' ⟨rfl, rfl⟩)
        go_ret
        exact ⟨ret_bool HD.out.symm, HB.out⟩
      | true =>
        obtain ⟨hx0, hx1⟩ := known_is hkn
        obtain ⟨x, rfl⟩ := Int.eq_ofNat_of_zero_le hx0
        have hxl : x < l.length := by omega
        by_cases hax : a = (x : Int)
        · have HD := Lib.hid (show dominatesN l a b = true by
            unfold dominatesN
            rw [← HX.out, show l.length - k = (l.length - k - 1) + 1 by omega, chainTo, hax, hkn]
            simp [hkn])
          have hb1 : (a == (x : Int)) = true := beq_iff_eq.2 hax
          clear hax
          go_wp2_with (go_at_call 48; refine (known_any _ _ A l c x hk (by omega)).mono ?_; rintro e w' ⟨rfl, rfl⟩)
          go_ret
          exact ⟨ret_bool HD.out.symm, HB.out⟩
        · have hb1 : (a == (x : Int)) = false := beq_eq_false_iff_ne.2 hax
          obtain ⟨ad, rfl, hc⟩ := HA.out x hxl
          have hc' := cell_keep HB.out (Nat.le_refl _) hc
          have HN := Lib.hid (show chainTo l a (l.length - (k + 1)) l[x] = chainTo l a l.length b by
            rw [← HX.out, show l.length - k = (l.length - (k + 1)) + 1 by omega, chainTo, hkn, hb1]
            simp only [Bool.not_true, Bool.or_false, Bool.false_eq_true, if_false]
            rw [Int.toNat_natCast, List.getD_eq_getElem?_getD, List.getElem?_eq_getElem hxl]; rfl)
          clear hax hc
          generalize l[x] = y at *
          go_wp2_with (go_at_call 48; refine (known_any _ _ _ l c x hk (by omega)).mono ?_; rintro e w' ⟨rfl, rfl⟩)
          go_round
          case rel => exact ⟨k + 1, y, by omega, by go_num, rfl, HN.out⟩
          case measure => simp [intOf]; omega
    · obtain rfl : k = l.length := by omega
      have HXX := Lib.hid (show x = chainTo l a l.length b by have := HX.out; rw [Nat.sub_self] at this; exact this)
      cases hkn : known l x with
      | false =>
        have HD := Lib.hid (show dominatesN l a b = false by unfold dominatesN; rw [← HXX.out, hkn]; rfl)
        go_wp2_with (go_at_call 48; refine (known_any _ _ A l c x hk (by omega)).mono ?_; rintro e w' ⟨rfl, rfl⟩)
        go_ret
        exact ⟨ret_bool HD.out.symm, HB.out⟩
      | true =>
        have HD := Lib.hid (show dominatesN l a b = (a == x) by unfold dominatesN; rw [← HXX.out, hkn, Bool.true_and])
        go_wp2_with (go_at_call 48; refine (known_any _ _ A l c x hk (by omega)).mono ?_; rintro e w' ⟨rfl, rfl⟩)
        go_ret
        exact ⟨ret_bool HD.out.symm, HB.out⟩
end Go.Proofs.Ythanbedmiaacdaa.Gc
