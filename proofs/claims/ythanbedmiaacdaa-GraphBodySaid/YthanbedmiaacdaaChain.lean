/- What jacquardref02's Dominates, and the laws' rest, answer. -/
import Derived.Test.YthanbedmiaacdaaNums
namespace Go.Proofs.Ythanbedmiaacdaa.Gr
open Go.ChangeShapes Go.WideShapes Go.ChangeAt Go.RowKit Go.Proofs.Ythanbedmiaacdaa.Mem
set_option linter.unusedVariables false

theorem ret_int {k : IntKind} {a b : Int} (h : a = b) : Ending.returned (.int k a) = .returned (.int k b) := by rw [h]
/-- Chains followed so many times at most. -/
def chase (l : List Int) (a : Int) : Nat → Int → Bool
  | 0, _ => false
  | k + 1, b => if b = a then true else if 0 ≤ b ∧ b < l.length then chase l a k (l.getD b.toNat 0) else false
def dominatesL (l : List Int) (a b : Int) : Bool := if 0 ≤ a ∧ a < l.length ∧ 0 ≤ b ∧ b < l.length then chase l a (l.length + 1) b else false
theorem rdominates_any (w : World) (v : Value) (l : List Int) (a b : Int) (hl : Ints w v l) (hsz : l.length ≤ 1000000) :
    Calls Try.prog 27 #[v, .int .i64 a, .int .i64 b] w fun e w' => e = .returned (.bool (dominatesL l a b)) ∧ w' = w := by
  obtain ⟨A, ca, rfl, ha1, ha2, ha3⟩ := hl
  unfold maxLen at ha2
  have HA := Lib.hid ha3
  clear ha3
  by_cases hin : 0 ≤ a ∧ a < l.length ∧ 0 ≤ b ∧ b < l.length
  · have HD := Lib.hid (show dominatesL l a b = chase l a (l.length + 1) b from if_pos hin)
    obtain ⟨h1, h2, h3, h4⟩ := hin
    have d1 : decide (a < 0) = false := decide_eq_false (by omega)
    have d2 : decide ((l.length : Int) ≤ a) = false := decide_eq_false (by omega)
    have d3 : decide (b < 0) = false := decide_eq_false (by omega)
    have d4 : decide ((l.length : Int) ≤ b) = false := decide_eq_false (by omega)
    go_enter Try.func27, Try.ntmps27
    go_wp2
    go_loop [2, 7] (fun x i => ∃ (k : Nat) (bv : Int), k ≤ l.length + 1 ∧ i = .int .i64 k ∧ x = .int .i64 bv ∧ chase l a (l.length + 1) b = chase l a (l.length + 1 - k) bv) (fun _ i => l.length + 1 - (intOf i).toNat)
    case atStart => exact ⟨0, b, by omega, rfl, rfl, rfl⟩
    case round =>
      obtain ⟨k, bv, hk, rfl, rfl, hch⟩ := hrel
      by_cases hlt : k < l.length + 1
      · have hs : l.length + 1 - k = (l.length + 1 - (k + 1)) + 1 := by omega
        rw [hs] at hch
        clear hs
        by_cases hba : bv = a
        · have t1 : (bv == a) = true := beq_iff_eq.2 hba
          have HY := Lib.hid (show dominatesL l a b = true by rw [HD.out, hch, chase, if_pos hba])
          clear hba hch
          go_wp2
          go_ret
          exact ⟨ret_bool HY.out.symm, rfl⟩
        · have t1 : (bv == a) = false := beq_eq_false_iff_ne.2 hba
          by_cases hr : 0 ≤ bv ∧ bv < l.length
          · obtain ⟨b2, rfl⟩ := Int.eq_ofNat_of_zero_le hr.1
            have hb2 : b2 < l.length := by omega
            obtain ⟨ad, rfl, hc⟩ := HA.out b2 hb2
            have HC := Lib.hid (show chase l a (l.length + 1) b = chase l a (l.length + 1 - (k + 1)) l[b2] by
              rw [hch, chase, if_neg hba, if_pos hr, Int.toNat_natCast, List.getD_eq_getElem?_getD, List.getElem?_eq_getElem hb2]; rfl)
            generalize l[b2] = y at *
            have d5 : decide ((b2 : Int) < 0) = false := decide_eq_false (by omega)
            have d6 : decide (l.length ≤ b2) = false := decide_eq_false (by omega)
            clear hba hch hr
            go_wp2
            go_round
            case rel => exact ⟨k + 1, y, by omega, by go_num, rfl, HC.out⟩
            case measure => simp [intOf]; omega
          · have HY := Lib.hid (show dominatesL l a b = false by rw [HD.out, hch, chase, if_neg hba, if_neg hr])
            have hr' : bv < 0 ∨ 0 ≤ bv ∧ l.length ≤ bv := by omega
            clear hba hch hr
            rcases hr' with hr' | ⟨hr1, hr2⟩
            all_goals
              go_wp2
              go_ret
              exact ⟨ret_bool HY.out.symm, rfl⟩
      · obtain rfl : k = l.length + 1 := by omega
        have HY := Lib.hid (show dominatesL l a b = false by rw [HD.out, hch, Nat.sub_self]; rfl)
        clear hch
        go_wp2
        go_ret
        exact ⟨ret_bool HY.out.symm, rfl⟩
  · have HY := Lib.hid (show dominatesL l a b = false from if_neg hin)
    have hc : a < 0 ∨ (0 ≤ a ∧ l.length ≤ a) ∨ (0 ≤ a ∧ a < l.length ∧ b < 0) ∨ (0 ≤ a ∧ a < l.length ∧ 0 ≤ b ∧ l.length ≤ b) := by omega
    clear hin HA
    rcases hc with h1 | ⟨h1, h2⟩ | ⟨h1, h2, h3⟩ | ⟨h1, h2, h3, h4⟩
    all_goals
      go_enter Try.func27, Try.ntmps27
      go_wp2
      go_ret
      exact ⟨ret_bool HY.out.symm, rfl⟩

theorem tmod_bd (x n : Int) (h1 : 0 < n) : -n < x.tmod n ∧ x.tmod n < n := by
  have h2 := Int.natAbs_tmod x n
  have h3 : x.natAbs % n.natAbs < n.natAbs := Nat.mod_lt _ (by omega)
  omega
theorem rest_is (x n : Int) (h1 : 0 < n) : (x.tmod n + n) % n = x % n := by
  have hm : -n < x.tmod n ∧ x.tmod n < n := by
    have h2 := Int.natAbs_tmod x n
    have h3 : x.natAbs % n.natAbs < n.natAbs := Nat.mod_lt _ (by omega)
    omega
  rw [Int.add_emod_right, Int.tmod_def]
  have e : x - n * x.tdiv n = x + n * (-(x.tdiv n)) := by rw [Int.mul_neg]; rfl
  rw [e, Int.add_mul_emod_self_left]
theorem rest_any (x n : Int) (h1 : 0 < n) (h2 : n ≤ 1000000) (w : World) :
    Calls Try.prog 24 #[.int .i64 x, .int .i64 n] w fun e w' => e = .returned (.int .i64 (x % n)) ∧ w' = w := by
  have hm : -n < x.tmod n ∧ x.tmod n < n := by
    have h2 := Int.natAbs_tmod x n
    have h3 : x.natAbs % n.natAbs < n.natAbs := Nat.mod_lt _ (by omega)
    omega
  obtain ⟨hm1, hm2⟩ := hm
  have HR := Lib.hid (rest_is x n h1)
  have hn0 : (n == 0) = false := beq_eq_false_iff_ne.2 (by omega)
  go_enter Try.func24, Try.ntmps24
  go_wp2
  go_ret
  exact ⟨ret_int HR.out, rfl⟩
end Go.Proofs.Ythanbedmiaacdaa.Gr
