/- What is proved: words moved up and down lose and gain the bits that they must (law WordShifts): for every two words the law answers true. Conditions: none beside those that the given row's own sentence names. -/
import Derived.Test.YtcmhcpdfgcmbiaaRows
import Derived.Test.YtcmhcpdfgcmbiaaRef
import Derived.Test.YtcmhcpdfgcmbiaaBits
import Derived.WalkKit
import Derived.ProofKit
import Derived.OpenShut
namespace Go.Proofs.Ytcmhcpdfgcmbiaa.wordShifts
open Go.ChangeShapes Go.WideShapes Go.ChangeAt Go.RowKit
set_option linter.unusedVariables false      -- a walk need not use every 'w<i>' (that an integer argument fits its kind)

theorem own : ownKnob Try.prog.godebug = none := by kernel_rfl

open Go.Proofs.Ytcmhcpdfgcmbiaa.Pl Go.Proofs.Ytcmhcpdfgcmbiaa.Wd
theorem i32_and31 (n : Int) : bits .and .i32 n 31 = n % 32 := by
  rw [bits_and, ← toInt_wrap, BitVec.toNat_and]
  have e : (bv 31).toNat = 2 ^ 5 - 1 := by decide +kernel
  rw [e, Nat.and_two_pow_sub_one_eq_mod, BitVec.toNat_ofInt]
  unfold wrap32; omega
theorem step_up (a : Int) (k : Nat) : doV 2 (wrap32 (a * 2 ^ k)) (wrap32 (a * 2 ^ k)) = wrap32 (a * 2 ^ (k + 1)) := by
  show wrap32 _ = _
  rw [Int.pow_succ, ← Int.mul_assoc]
  generalize a * 2 ^ k = p
  unfold wrap32; omega
theorem ones_bit (k i : Nat) (hi : i < 32) : (BitVec.ofNat 32 (2 ^ k - 1)).getLsbD i = decide (i < k) := by
  rw [BitVec.getLsbD_ofNat, Nat.testBit_two_pow_sub_one]; simp [hi]
theorem down_up (x : BitVec 32) (k : Nat) : (x >>> k) <<< k = x &&& ~~~(BitVec.ofNat 32 (2 ^ k - 1)) := by
  apply BitVec.eq_of_getLsbD_eq
  intro i hi
  rw [BitVec.getLsbD_and, BitVec.getLsbD_not, ones_bit k i hi, BitVec.getLsbD_shiftLeft, BitVec.getLsbD_ushiftRight]
  by_cases h : i < k
  · simp [h]
  · have e : k + (i - k) = i := by omega
    simp [h, hi, e]
theorem sdown_up (x : BitVec 32) (k : Nat) : (x.sshiftRight k) <<< k = x &&& ~~~(BitVec.ofNat 32 (2 ^ k - 1)) := by
  apply BitVec.eq_of_getLsbD_eq
  intro i hi
  rw [BitVec.getLsbD_and, BitVec.getLsbD_not, ones_bit k i hi, BitVec.getLsbD_shiftLeft, BitVec.getLsbD_sshiftRight]
  by_cases h : i < k
  · simp [h]
  · have e : k + (i - k) = i := by omega
    have e2 : i - k < 32 := by omega
    simp [h, hi, e]; omega
theorem shr_of {a b : Int} {k : Nat} (hk : b % 32 = (k : Nat)) : doV 8 (doV 9 a b) b = ((bv a >>> k) <<< k).toInt := by
  show wShl (wShr a b) b = _
  unfold wShl wShr
  rw [hk, Int.toNat_natCast, wrap_bv, bv_shl, bv_wrap, bv_ushr]
theorem sar_of {a b : Int} (ha : -2147483648 ≤ a ∧ a ≤ 2147483647) {k : Nat} (hk : b % 32 = (k : Nat)) : doV 8 (doV 10 a b) b = (((bv a).sshiftRight k) <<< k).toInt := by
  show wShl (wSar a b) b = _
  unfold wShl wSar
  rw [hk, Int.toNat_natCast, wrap_bv, bv_shl, bv_sshr ha, bv_toInt]
theorem not_low {k : Nat} (hk : k ≤ 31) : bv (bits .xor .i32 (-1) (wrap32 (wrap32 (2 ^ k) - 1))) = ~~~(BitVec.ofNat 32 (2 ^ k - 1)) := by
  have e : bv (-1) = BitVec.allOnes 32 := by decide +kernel
  rw [bits_xor, bv_toInt, e, BitVec.allOnes_xor, bv_wrap]
  congr 1
  have h1 : 1 ≤ 2 ^ k := Nat.one_le_two_pow
  have h2 : bv (wrap32 (2 ^ k) - 1) = bv (2 ^ k - 1) := by
    rw [Int.sub_eq_add_neg, bv_add, bv_wrap, ← bv_add]; rfl
  rw [h2]
  apply BitVec.eq_of_toNat_eq
  rw [BitVec.toNat_ofInt, BitVec.toNat_ofNat, toNat_pow]
  have h3 : (((2 ^ k : Nat) : Int) - 1) = ((2 ^ k - 1 : Nat) : Int) := by omega
  rw [h3, ← Int.natCast_emod, Int.toNat_natCast]
theorem sar_sign {a b : Int} : (a < 0 → doV 10 a b < 0) ∧ (0 ≤ a → 0 ≤ doV 10 a b) := by
  show (a < 0 → wSar a b < 0) ∧ (0 ≤ a → 0 ≤ wSar a b)
  unfold wSar
  have hp : (0 : Int) < 2 ^ (b % 32).toNat := Int.pow_pos (by decide)
  exact ⟨fun h => Int.ediv_neg_of_neg_of_pos h hp, fun h => Int.ediv_nonneg h (by omega)⟩
theorem shr_sign {a b : Int} {k : Nat} (hk : b % 32 = (k : Nat)) (h1 : 1 ≤ k) : 0 ≤ doV 9 a b := by
  show 0 ≤ wrap32 _
  rw [hk, Int.toNat_natCast]
  obtain ⟨j, rfl⟩ : ∃ j, k = j + 1 := ⟨k - 1, by omega⟩
  have hp : (0 : Int) < 2 ^ j := Int.pow_pos (by decide)
  have e1 : a % 4294967296 / 2 ^ (j + 1) = a % 4294967296 / 2 / 2 ^ j := by rw [Int.pow_succ, Int.mul_comm, Int.ediv_ediv_of_nonneg (by decide)]
  have e2 : 0 ≤ a % 4294967296 / 2 / 2 ^ j := Int.ediv_nonneg (by omega) (by omega)
  have e3 : a % 4294967296 / 2 / 2 ^ j ≤ a % 4294967296 / 2 := Int.ediv_le_self _ (by omega)
  rw [e1]; unfold wrap32; omega
theorem shr_sar {a b : Int} (h0 : 0 ≤ a) (h1 : a ≤ 2147483647) : doV 9 a b = doV 10 a b := by
  show wrap32 _ = wSar a b
  unfold wSar
  have hp : (0 : Int) < 2 ^ (b % 32).toNat := Int.pow_pos (by decide)
  have e2 : 0 ≤ a / 2 ^ (b % 32).toNat := Int.ediv_nonneg h0 (by omega)
  have e3 : a / 2 ^ (b % 32).toNat ≤ a := Int.ediv_le_self _ h0
  rw [show a % 4294967296 = a by omega]
  unfold wrap32; omega
theorem still {a b : Int} (ha : -2147483648 ≤ a ∧ a ≤ 2147483647) (hk : b % 32 = ((0 : Nat) : Int)) : doV 9 a b = a ∧ doV 10 a b = a := by
  show wrap32 _ = a ∧ wSar a b = a
  unfold wSar
  rw [hk]
  refine ⟨?_, Int.ediv_one a⟩
  show wrap32 (_ / 1) = a
  rw [Int.ediv_one]; unfold wrap32; omega

/-! ### STEP 1: THE WALK: the Go text returns true. 'Grown w w'': the world has at most new blocks (Derived/RowKit3.lean). Part the cases AHEAD of 'go_enter' where a test parts the walk; take each callee by a contract of your own. -/
set_option maxHeartbeats 4000000 in
theorem walk (a0 : Int) (a1 : Int) (w0 : (Lit.int .i32 a0).wf = true) (w1 : (Lit.int .i32 a1).wf = true) (w : World) :
    Calls Try.prog 8 #[.int .i32 a0, .int .i32 a1] w fun e w' => e = .returned (.bool true) ∧ Grown w w' := by
  have ha := bounds_i32 w0
  have hb := bounds_i32 w1
  have hm := i32_and31 a1
  have hm0 : 0 ≤ a1 % 32 := by omega
  have hm1 : a1 % 32 ≤ 31 := by omega
  obtain ⟨n, hn⟩ := Int.eq_ofNat_of_zero_le hm0
  have Hn := Lib.hid hn
  rw [hn] at hm hm1
  clear hn hm0 
  have hn31 : n ≤ 31 := by omega
  have e1 : wrap32 (a0 * 2 ^ 0) = a0 := by rw [Int.pow_zero, Int.mul_one]; unfold wrap32; omega
  have E1 := Lib.hid e1
  clear e1
  go_enter Try.func8, Try.ntmps8
  go_wp2_with (go_at_call 13; refine (shown_any _).mono ?_; rintro e w' ⟨rfl, rfl⟩)
  go_loop [7, 8] (fun u i => ∃ k : Nat, k ≤ n ∧ i = .int .i32 k ∧ u = .int .i32 (wrap32 (a0 * 2 ^ k))) (fun _ i => n - (intOf i).toNat)
  case atStart => exact ⟨0, by omega, rfl, by rw [E1.out]⟩
  case round =>
    obtain ⟨k, hk1, rfl, rfl⟩ := hrel
    have S := Lib.hid (step_up a0 k)
    by_cases hlt : k < n
    · go_wp2_with (go_at_call 26; refine (does_any _ _ _ _).mono ?_; rintro e w' ⟨rfl, rfl⟩)
      go_round
      case rel => exact ⟨k + 1, by omega, by go_num, by rw [S.out]⟩
      case measure => simp [intOf]; omega
    · obtain rfl : k = n := by omega
      have hk := Hn.out
      have N := Lib.hid (not_low hn31)
      have t1 : (doV 8 a0 a1 == wrap32 (a0 * 2 ^ k)) = true := beq_iff_eq.2 (by show wShl a0 a1 = _; unfold wShl; rw [hk, Int.toNat_natCast])
      have t2 : (doV 8 a0 k == wrap32 (a0 * 2 ^ k)) = true := beq_iff_eq.2 (by show wShl a0 k = _; unfold wShl; rw [show (k : Int) % 32 = k by omega, Int.toNat_natCast])
      have t3 : (doV 8 (doV 9 a0 a1) a1 == doV 5 a0 (bits .xor .i32 (-1) (wrap32 (wrap32 (2 ^ k) - 1)))) = true := beq_iff_eq.2 (by
        show _ = bits .and .i32 _ _
        rw [shr_of hk, bits_and, N.out, down_up])
      have t4 : (doV 8 (doV 10 a0 a1) a1 == doV 5 a0 (bits .xor .i32 (-1) (wrap32 (wrap32 (2 ^ k) - 1)))) = true := beq_iff_eq.2 (by
        show _ = bits .and .i32 _ _
        rw [sar_of ha hk, bits_and, N.out, sdown_up])
      have hs : (a0 < 0 ∧ doV 10 a0 a1 < 0) ∨ (0 ≤ a0 ∧ 0 ≤ doV 10 a0 a1 ∧ (doV 9 a0 a1 == doV 10 a0 a1) = true) := by
        by_cases h : a0 < 0
        · exact Or.inl ⟨h, sar_sign.1 h⟩
        · exact Or.inr ⟨by omega, sar_sign.2 (by omega), beq_iff_eq.2 (shr_sar (by omega) ha.2)⟩
      have hz : (k ≤ 0 ∧ ((k : Int) == 0) = true ∧ (doV 9 a0 a1 == a0) = true ∧ (doV 10 a0 a1 == a0) = true) ∨ (0 < k ∧ ((k : Int) == 0) = false ∧ 0 ≤ doV 9 a0 a1) := by
        by_cases h : k = 0
        · have hk' : a1 % 32 = ((0 : Nat) : Int) := by rw [hk, h]
          exact Or.inl ⟨by omega, beq_iff_eq.2 (by omega), beq_iff_eq.2 (still ha hk').1, beq_iff_eq.2 (still ha hk').2⟩
        · exact Or.inr ⟨by omega, beq_eq_false_iff_ne.2 (by omega), shr_sign hk (by omega)⟩
      clear hk hb hlt
      rcases hz with ⟨z0, z1, z2, z3⟩ | ⟨z0, z1, z2⟩ <;> rcases hs with ⟨s1, s2⟩ | ⟨s1, s2, s3⟩
      all_goals
        go_wp2_with fail
        refine (does_any _ _ _ _).mono ?_
        rintro e w' ⟨rfl, rfl⟩
        go_wp2_with fail
        refine (does_any _ _ _ _).mono ?_
        rintro e w' ⟨rfl, rfl⟩
        go_wp2_with fail
        refine (does_any _ _ _ _).mono ?_
        rintro e w' ⟨rfl, rfl⟩
        go_wp2_with fail
        refine (does_any _ _ _ _).mono ?_
        rintro e w' ⟨rfl, rfl⟩
        go_wp2_with fail
        refine (does_any _ _ _ _).mono ?_
        rintro e w' ⟨rfl, rfl⟩
        go_wp2_with fail
        refine (does_any _ _ _ _).mono ?_
        rintro e w' ⟨rfl, rfl⟩
        go_wp2_with fail
        refine (does_any _ _ _ _).mono ?_
        rintro e w' ⟨rfl, rfl⟩
        go_wp2_with fail
        refine (does_any _ _ _ _).mono ?_
        rintro e w' ⟨rfl, rfl⟩
        go_wp2_with fail
        all_goals go_ret
        all_goals exact ⟨ret_bool (by first | rfl | (simp; omega)), Grown.refl _⟩

/-! ### THE ROW's STEP: WRITTEN OUT: LEAVE IT -/
set_option maxRecDepth 100000 in
theorem lifted (os : Os) (started : os.Started) (H : Type) (enc : TypeId × Value → H) :
    ReturnsInHanded {} Try.checked os 8 .any (Rows.wordShiftsSpec.pre6 enc Try.prog Try.f8 Rows.wordShiftsRow.domain false) (Rows.wordShiftsSpec.post enc Try.prog Try.f8 false true false false) := by
  refine returnsInHanded_of_change (C := Try.checked) own started (by kernel_rfl) Try.func8
    (ChangeSpec.witness6 (enc := enc) (C := Try.checked) false ⟨#[], #[.int .i32 0, .int .i32 0], []⟩ 8 (by kernel_rfl) (by kernel_rfl) (by kernel_rfl) (by kernel_rfl)) ?_
  intro W base args ds gs before hval0 hW hcnd _
  have hval : ∀ (j : Nat) t v, Try.f8.params[j]? = some t → args[j]? = some v → Value.okWide Try.prog W .any base t v := hval0
  have hW' := hW
  obtain ⟨p, q, hA0, hV, rfl, hfz, hnd⟩ := hW
  have hA : DataW.TrodAll enc Try.prog W 0 (fun _ => true) true Try.f8.params.toList args.toList ds p := hA0
  rw [Try.params8] at hA hval
  obtain ⟨v0, vs0, d0, ds0, p0, q0, hargs, rfl, rfl, h0, r0⟩ := trodAll_cons hA
  obtain ⟨v1, vs1, d1, ds1, p1, q1, rfl, rfl, rfl, h1, r1⟩ := trodAll_cons r0
  obtain ⟨rfl, rfl, rfl⟩ := trodAll_nil r1
  obtain rfl : args = #[v0, v1] := by cases args; simp_all
  obtain ⟨rfl, rfl⟩ := trodVars_none hV
  obtain ⟨a0, rfl, rfl, rfl, w0⟩ := open_int Try.underlying21 (hval 0 21 v0 rfl rfl) h0
  obtain ⟨a1, rfl, rfl, rfl, w1⟩ := open_int Try.underlying21 (hval 1 21 v1 rfl rfl) h1
  clear hA0 hval0
  simp only [List.append_nil] at hW'
  refine (walk a0 a1 w0 w1 W).mono fun e W' ⟨he, hg⟩ => ?_
  subst he
  exact ⟨_, rfl, post_of_same (pa := []) (pv := []) hW' (fun _ _ _ => (trodAll_cons_mk (shut_bool Try.underlying4 _) trodAll_mk0)) (fun sp _ => (trodAll_cons_mk (shut_int Try.underlying21 w0) (trodAll_cons_mk (shut_int Try.underlying21 w1) trodAll_mk0))) (fun _ _ => rfl) rfl
    (hg.frame _) hg.2.1 (ok_one (by kernel_rfl) rfl (okWide_bool_mk Try.underlying4 _))⟩

theorem over : Rows.wordShiftsRow.holds Try.pinned (OpenSpec.ofChange Rows.wordShiftsSpec) :=
  OpenClaim.holds_of_wide 8 Try.f8 rfl rfl rfl rfl rfl rfl rfl ⟨rfl, rfl, rfl, rfl, rfl⟩ rfl rfl rfl rfl rfl (by kernel_rfl) Try.func8 (by kernel_rfl)
    (of_decide_eq_true (by kernel_rfl)) (by unfold Func.isWrapper; first | (rw [if_pos (by decide +kernel)]; kernel_rfl) | (rw [if_neg (by decide +kernel)]; exact ⟨rfl, rfl⟩))
    (fun os started H enc _ => lifted os started H enc)

/-- ████ THE STATEMENT ████ -/
theorem proved : Rows.WordShiftsSaid :=
  over
#print axioms proved
end Go.Proofs.Ytcmhcpdfgcmbiaa.wordShifts
