/- What is proved: a word fits into so many bits just if, moved up and down again, it is what it was (law WordFits): for every word, and every number, the law answers true. Conditions: none beside those that the given row's own sentence names. -/
import Derived.Test.YtcmhcpdfgcmbiaaRows
import Derived.Test.YtcmhcpdfgcmbiaaRef
import Derived.Test.YtcmhcpdfgcmbiaaBits
import Derived.WalkKit
import Derived.ProofKit
import Derived.OpenShut
namespace Go.Proofs.Ytcmhcpdfgcmbiaa.wordFits
open Go.ChangeShapes Go.WideShapes Go.ChangeAt Go.RowKit
set_option linter.unusedVariables false      -- a walk need not use every 'w<i>' (that an integer argument fits its kind)

theorem own : ownKnob Try.prog.godebug = none := by kernel_rfl

open Go.Proofs.Ytcmhcpdfgcmbiaa.Pl Go.Proofs.Ytcmhcpdfgcmbiaa.Wd
theorem fit_word {a : Int} (ha : -2147483648 ≤ a ∧ a ≤ 2147483647) (k : Nat) (h1 : 1 ≤ k) (h2 : k ≤ 32) : fitB a k = decide (-(2 ^ (k - 1)) ≤ a ∧ a < 2 ^ (k - 1)) := by
  unfold fitB
  rw [if_neg (by omega)]
  by_cases h : (31 : Int) < k
  · obtain rfl : k = 32 := by omega
    rw [if_pos h]; symm; rw [decide_eq_true_iff]
    have e : (2 : Int) ^ (32 - 1) = 2147483648 := by decide +kernel
    rw [e]; omega
  · rw [if_neg h, Int.toNat_natCast]
theorem fit_not {a : Int} (ha : -2147483648 ≤ a ∧ a ≤ 2147483647) (k : Nat) (h1 : 1 ≤ k) (h2 : k ≤ 32) : fitB (-a - 1) k = fitB a k := by
  rw [fit_word ha k h1 h2, fit_word (by omega) k h1 h2, decide_eq_decide]; omega
theorem xor_m1 {a : Int} (ha : -2147483648 ≤ a ∧ a ≤ 2147483647) : bits .xor .i32 (-1) a = -a - 1 := by
  rw [bits_xor]
  have e : bv (-1) = BitVec.allOnes 32 := by decide +kernel
  rw [e, BitVec.allOnes_xor, ← BitVec.allOnes_sub_eq_not, ← e, BitVec.sub_eq_add_neg, ← (BitVec.ofInt_neg : bv (-a) = _), ← bv_add, ← wrap_bv]
  unfold wrap32; omega
theorem fit_mono {a : Int} (ha : -2147483648 ≤ a ∧ a ≤ 2147483647) (k : Nat) (h1 : 1 ≤ k) (h2 : k ≤ 32) (h : fitB a (k - 1) = true) : fitB a k = true := by
  by_cases hk : k = 1
  · subst hk
    have h0 : (a == 0) = true := h
    have h0' : a = 0 := beq_iff_eq.1 h0
    subst h0'
    decide +kernel
  · obtain ⟨j, rfl⟩ : ∃ j, k = j + 1 := ⟨k - 1, by omega⟩
    have e : ((j + 1 : Nat) : Int) - 1 = (j : Nat) := by omega
    rw [e, fit_word ha j (by omega) (by omega), decide_eq_true_iff] at h
    rw [fit_word ha (j + 1) h1 h2, decide_eq_true_iff]
    obtain ⟨i, rfl⟩ : ∃ i, j = i + 1 := ⟨j - 1, by omega⟩
    have e1 : i + 1 - 1 = i := by omega
    have e2 : i + 1 + 1 - 1 = i + 1 := by omega
    rw [e1] at h; rw [e2, Int.pow_succ]
    have hp : (0 : Int) < 2 ^ i := Int.pow_pos (by decide)
    generalize (2 : Int) ^ i = p at *; omega
theorem moved {a : Int} (ha : -2147483648 ≤ a ∧ a ≤ 2147483647) (k : Nat) (h1 : 1 ≤ k) (h2 : k ≤ 32) : (doV 10 (doV 8 a (32 - k)) (32 - k) == a) = fitB a k := by
  rw [fit_word ha k h1 h2]
  show (wSar (wShl a (32 - k)) (32 - k) == a) = _
  unfold wSar wShl
  have e : (((32 : Int) - k) % 32).toNat = 32 - k ∨ k = 32 := by omega
  have e' : (((32 : Int) - k) % 32).toNat = 32 - k := by rcases e with e | e <;> omega
  clear e
  rw [e']
  have hP : (0 : Int) < 2 ^ (32 - k) := Int.pow_pos (by decide)
  have hQ : (0 : Int) < 2 ^ (k - 1) := Int.pow_pos (by decide)
  have hPQ : (2 : Int) ^ (32 - k) * 2 ^ (k - 1) = 2147483648 := by
    rw [← Int.pow_add, show 32 - k + (k - 1) = 31 by omega]; decide +kernel
  generalize (2 : Int) ^ (32 - k) = P at *
  generalize (2 : Int) ^ (k - 1) = Q at *
  have hw : wrap32 (a * P) = P * (a - 2 * Q * ((a + Q) / (2 * Q))) := by
    have d1 : wrap32 (a * P) = a * P - 4294967296 * ((a * P + 2147483648) / 4294967296) := by unfold wrap32; omega
    have d2 : a * P + 2147483648 = P * (a + Q) := by rw [Int.mul_add, hPQ, Int.mul_comm]
    have d3 : (4294967296 : Int) = P * (2 * Q) := by rw [Int.mul_left_comm, hPQ]; rfl
    rw [d1, d2, d3, Int.mul_ediv_mul_of_pos _ _ hP, Int.mul_sub, Int.mul_comm a P, Int.mul_assoc P]
  rw [hw, Int.mul_ediv_cancel_left _ (by omega), Bool.eq_iff_iff, beq_iff_eq, decide_eq_true_iff]
  have hd := Int.emod_add_mul_ediv (a + Q) (2 * Q)
  have hr0 := Int.emod_nonneg (a + Q) (show 2 * Q ≠ 0 by omega)
  have hr1 := Int.emod_lt_of_pos (a + Q) (show 0 < 2 * Q by omega)
  constructor
  · intro h
    have : 2 * Q * ((a + Q) / (2 * Q)) = 0 := by omega
    omega
  · intro h
    rw [Int.ediv_eq_zero_of_lt (by omega) (by omega)]; omega
theorem fit_far (a b : Int) (h : 32 < b) : fitB a b = true := by unfold fitB; rw [if_neg (by omega), if_pos (by omega)]
theorem fit_none (a b : Int) (h : b < 1) : fitB a b = (a == 0) := by unfold fitB; rw [if_pos h]

/-! ### STEP 1: THE WALK: the Go text returns true. 'Grown w w'': the world has at most new blocks (Derived/RowKit3.lean). Part the cases AHEAD of 'go_enter' where a test parts the walk; take each callee by a contract of your own. -/
set_option maxHeartbeats 1000000 in
theorem walk (a0 : Int) (a1 : Int) (w0 : (Lit.int .i32 a0).wf = true) (w1 : (Lit.int .i64 a1).wf = true) (w : World) :
    Calls Try.prog 12 #[.int .i32 a0, .int .i64 a1] w fun e w' => e = .returned (.bool true) ∧ Grown w w' := by
  have ha := bounds_i32 w0
  have H := Lib.hid ha
  clear ha
  have hb := bounds_i64 w1
  go_enter Try.func12, Try.ntmps12
  go_wp2_with (go_at_call 13; refine (shown_any _).mono ?_; rintro e w' ⟨rfl, rfl⟩)
  go_loop [6, 7] (fun u i => ∃ k : Nat, 1 ≤ k ∧ k ≤ 33 ∧ i = .int .i64 k ∧ u = .bool (fitB a0 (k - 1))) (fun _ i => 33 - (intOf i).toNat)
  case atStart => exact ⟨1, by omega, by omega, rfl, rfl⟩
  case round =>
    obtain ⟨k, hk1, hk2, rfl, rfl⟩ := hrel
    by_cases hlt : k < 33
    · have hx := xor_m1 H.out
      have M := Lib.hid (moved H.out k hk1 (by omega))
      have N := Lib.hid (fit_not H.out k hk1 (by omega))
      have R := Lib.hid (show ((k + 1 : Nat) : Int) - 1 = k by omega)
      have hn : -2147483648 ≤ -a0 - 1 ∧ -a0 - 1 ≤ 2147483647 := by have := H.out; omega
      have HN := Lib.hid hn
      clear hn
      have hc : (fitB a0 k = true ∧ (doV 10 (doV 8 a0 (32 - k)) (32 - k) == a0) = true ∧ fitB (-a0 - 1) k = true) ∨ (fitB a0 k = false ∧ (doV 10 (doV 8 a0 (32 - k)) (32 - k) == a0) = false ∧ fitB (-a0 - 1) k = false ∧ fitB a0 (k - 1) = false) := by
        rw [M.out, N.out]
        cases hf : fitB a0 k
        · refine Or.inr ⟨rfl, rfl, rfl, ?_⟩
          cases hf2 : fitB a0 (k - 1)
          · rfl
          · rw [fit_mono H.out k hk1 (by omega) hf2] at hf; cases hf
        · exact Or.inl ⟨rfl, rfl, rfl⟩
      rcases hc with ⟨c1, c2, c3⟩ | ⟨c1, c2, c3, c4⟩
      · cases c4 : fitB a0 (k - 1)
        all_goals
          have C1 := Lib.hid c1
          go_wp2_with (first | (go_at_call 26; refine (does_any _ _ _ _).mono ?_; rintro e w' ⟨rfl, rfl⟩) | (go_at_call 27; refine (fits_any _ _ (by first | exact H.out | exact HN.out) _).mono ?_; rintro e w' ⟨rfl, rfl⟩))
          go_round
          case rel => exact ⟨k + 1, by omega, by omega, by go_num, by rw [R.out, C1.out]⟩
          case measure => simp [intOf]; omega
      · have C1 := Lib.hid c1
        go_wp2_with (first | (go_at_call 26; refine (does_any _ _ _ _).mono ?_; rintro e w' ⟨rfl, rfl⟩) | (go_at_call 27; refine (fits_any _ _ (by first | exact H.out | exact HN.out) _).mono ?_; rintro e w' ⟨rfl, rfl⟩))
        go_round
        case rel => exact ⟨k + 1, by omega, by omega, by go_num, by rw [R.out, C1.out]⟩
        case measure => simp [intOf]; omega
    · obtain rfl : k = 33 := by omega
      clear hk1 hk2 hlt
      have c0 : fitB a0 (((33 : Nat) : Int) - 1) = true := by unfold fitB; rw [if_neg (by decide), if_pos (by decide)]
      have c0' : fitB a0 32 = true := c0
      have hz : fitB a0 0 = (a0 == 0) := rfl
      have hf : (a1 < 1 ∧ fitB a0 a1 = (a0 == 0)) ∨ (1 ≤ a1 ∧ a1 ≤ 32 ∧ fitB a0 (a1 + 32) = true) ∨ (32 < a1 ∧ fitB a0 a1 = true) := by
        by_cases h1 : a1 < 1
        · exact Or.inl ⟨h1, fit_none _ _ h1⟩
        · by_cases h2 : 32 < a1
          · exact Or.inr (Or.inr ⟨h2, fit_far _ _ h2⟩)
          · exact Or.inr (Or.inl ⟨by omega, by omega, fit_far _ _ (by omega)⟩)
      cases hz0 : a0 == 0
      all_goals
        rw [hz0] at hz hf
        rcases hf with ⟨h1, h2⟩ | ⟨h1, h2, h3⟩ | ⟨h1, h2⟩
        all_goals
          go_wp2_with (first | (go_at_call 26; refine (does_any _ _ _ _).mono ?_; rintro e w' ⟨rfl, rfl⟩) | (go_at_call 27; refine (fits_any _ _ (by exact H.out) _).mono ?_; rintro e w' ⟨rfl, rfl⟩))
          go_ret
          exact ⟨ret_bool (by first | rfl | (simp; omega)), Grown.refl _⟩

/-! ### THE ROW's STEP: WRITTEN OUT: LEAVE IT -/
set_option maxRecDepth 100000 in
theorem lifted (os : Os) (started : os.Started) (H : Type) (enc : TypeId × Value → H) :
    ReturnsInHanded {} Try.checked os 12 .any (Rows.wordFitsSpec.pre6 enc Try.prog Try.f12 Rows.wordFitsRow.domain false) (Rows.wordFitsSpec.post enc Try.prog Try.f12 false true false false) := by
  refine returnsInHanded_of_change (C := Try.checked) own started (by kernel_rfl) Try.func12
    (ChangeSpec.witness6 (enc := enc) (C := Try.checked) false ⟨#[], #[.int .i32 0, .int .i64 0], []⟩ 8 (by kernel_rfl) (by kernel_rfl) (by kernel_rfl) (by kernel_rfl)) ?_
  intro W base args ds gs before hval0 hW hcnd _
  have hval : ∀ (j : Nat) t v, Try.f12.params[j]? = some t → args[j]? = some v → Value.okWide Try.prog W .any base t v := hval0
  have hW' := hW
  obtain ⟨p, q, hA0, hV, rfl, hfz, hnd⟩ := hW
  have hA : DataW.TrodAll enc Try.prog W 0 (fun _ => true) true Try.f12.params.toList args.toList ds p := hA0
  rw [Try.params12] at hA hval
  obtain ⟨v0, vs0, d0, ds0, p0, q0, hargs, rfl, rfl, h0, r0⟩ := trodAll_cons hA
  obtain ⟨v1, vs1, d1, ds1, p1, q1, rfl, rfl, rfl, h1, r1⟩ := trodAll_cons r0
  obtain ⟨rfl, rfl, rfl⟩ := trodAll_nil r1
  obtain rfl : args = #[v0, v1] := by cases args; simp_all
  obtain ⟨rfl, rfl⟩ := trodVars_none hV
  obtain ⟨a0, rfl, rfl, rfl, w0⟩ := open_int Try.underlying21 (hval 0 21 v0 rfl rfl) h0
  obtain ⟨a1, rfl, rfl, rfl, w1⟩ := open_int Try.underlying3 (hval 1 3 v1 rfl rfl) h1
  clear hA0 hval0
  simp only [List.append_nil] at hW'
  refine (walk a0 a1 w0 w1 W).mono fun e W' ⟨he, hg⟩ => ?_
  subst he
  exact ⟨_, rfl, post_of_same (pa := []) (pv := []) hW' (fun _ _ _ => (trodAll_cons_mk (shut_bool Try.underlying4 _) trodAll_mk0)) (fun sp _ => (trodAll_cons_mk (shut_int Try.underlying21 w0) (trodAll_cons_mk (shut_int Try.underlying3 w1) trodAll_mk0))) (fun _ _ => rfl) rfl
    (hg.frame _) hg.2.1 (ok_one (by kernel_rfl) rfl (okWide_bool_mk Try.underlying4 _))⟩

theorem over : Rows.wordFitsRow.holds Try.pinned (OpenSpec.ofChange Rows.wordFitsSpec) :=
  OpenClaim.holds_of_wide 12 Try.f12 rfl rfl rfl rfl rfl rfl rfl ⟨rfl, rfl, rfl, rfl, rfl⟩ rfl rfl rfl rfl rfl (by kernel_rfl) Try.func12 (by kernel_rfl)
    (of_decide_eq_true (by kernel_rfl)) (by unfold Func.isWrapper; first | (rw [if_pos (by decide +kernel)]; kernel_rfl) | (rw [if_neg (by decide +kernel)]; exact ⟨rfl, rfl⟩))
    (fun os started H enc _ => lifted os started H enc)

/-- ████ THE STATEMENT ████ -/
theorem proved : Rows.WordFitsSaid :=
  over
#print axioms proved
end Go.Proofs.Ytcmhcpdfgcmbiaa.wordFits
