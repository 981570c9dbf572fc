/- What is proved: of two words just one of below, the same, above is so, with a sign and without, and both orders go together as they must (law WordOrder): for every three words the law answers true. Conditions: none beside those that the given row's own sentence names. -/
import Derived.Test.YtcmhcpdfgcmbiaaRows
import Derived.Test.YtcmhcpdfgcmbiaaRef
import Derived.Test.YtcmhcpdfgcmbiaaBits
import Derived.WalkKit
import Derived.ProofKit
import Derived.OpenShut
namespace Go.Proofs.Ytcmhcpdfgcmbiaa.wordOrder
open Go.ChangeShapes Go.WideShapes Go.ChangeAt Go.RowKit
set_option linter.unusedVariables false      -- a walk need not use every 'w<i>' (that an integer argument fits its kind)

theorem own : ownKnob Try.prog.godebug = none := by kernel_rfl

open Go.Proofs.Ytcmhcpdfgcmbiaa.Pl Go.Proofs.Ytcmhcpdfgcmbiaa.Wd
theorem v11 (a b : Int) : doV 11 a b = bit (a == b) := rfl
theorem v12 (a b : Int) : doV 12 a b = bit (decide (a < b)) := rfl
theorem v13 (a b : Int) : doV 13 a b = bit (decide (a % 4294967296 < b % 4294967296)) := rfl
theorem bit_t {c : Prop} [Decidable c] (h : c) : bit (decide c) = 1 := by rw [decide_eq_true h]; rfl
theorem bit_f {c : Prop} [Decidable c] (h : ¬ c) : bit (decide c) = 0 := by rw [decide_eq_false h]; rfl
theorem bit_01 (c : Bool) : bit c = 0 ∨ bit c = 1 := by cases c <;> simp [bit]
/-- The cases of a round: which of the two words is the lower one, and what stands beside them. -/
def Cases (x y e u v : Int) : Prop := (x = 1 ∧ y = 0 ∧ e = 0 ∧ (u = 0 ∧ v = 0 ∨ u = 0 ∧ v = 1 ∨ u = 1 ∧ v = 1)) ∨ (x = 0 ∧ (y = 1 ∧ e = 0 ∨ y = 0 ∧ e = 1))
theorem cases_of {p : Int → Int → Prop} [∀ a b, Decidable (p a b)] {a b c : Int} (h : p a b ∧ ¬ p b a ∧ a ≠ b ∧ (p b c → p a c) ∨ ¬ p a b ∧ (p b a ∧ a ≠ b ∨ ¬ p b a ∧ a = b)) :
    Cases (bit (decide (p a b))) (bit (decide (p b a))) (bit (a == b)) (bit (decide (p b c))) (bit (decide (p a c))) := by
  rcases h with ⟨h1, h2, h3, h4⟩ | ⟨h1, ⟨h2, h3⟩ | ⟨h2, h3⟩⟩
  · refine Or.inl ⟨bit_t h1, bit_f h2, by rw [beq_eq_false_iff_ne.2 h3]; rfl, ?_⟩
    by_cases hu : p b c
    · exact Or.inr (Or.inr ⟨bit_t hu, bit_t (h4 hu)⟩)
    · rw [bit_f hu]; rcases bit_01 (decide (p a c)) with h | h <;> rw [h] <;> simp
  · exact Or.inr ⟨bit_f h1, Or.inl ⟨bit_t h2, by rw [beq_eq_false_iff_ne.2 h3]; rfl⟩⟩
  · exact Or.inr ⟨bit_f h1, Or.inr ⟨bit_f h2, by rw [beq_iff_eq.2 h3]; rfl⟩⟩
theorem cases12 (a b c : Int) : Cases (doV 12 a b) (doV 12 b a) (doV 11 a b) (doV 12 b c) (doV 12 a c) :=
  cases_of (p := fun a b => a < b) (by omega)
theorem cases13 {a b : Int} (c : Int) (ha : -2147483648 ≤ a ∧ a ≤ 2147483647) (hb : -2147483648 ≤ b ∧ b ≤ 2147483647) : Cases (doV 13 a b) (doV 13 b a) (doV 11 a b) (doV 13 b c) (doV 13 a c) :=
  cases_of (p := fun a b => a % 4294967296 < b % 4294967296) (by omega)
theorem top (a : Int) (ha : -2147483648 ≤ a ∧ a ≤ 2147483647) : doV 7 a (-2147483648) = a % 4294967296 - 2147483648 := by
  show bits .xor .i32 a (-2147483648) = _
  rw [bits_xor]
  have h := xor_and (bv a) (bv (-2147483648))
  have e : (bv a &&& bv (-2147483648)) <<< 1 = 0#32 := by
    apply BitVec.eq_of_toNat_eq
    have e2 : (bv (-2147483648)).toNat = 2147483648 := by decide +kernel
    have e3 : ((bv a).toNat &&& 2147483648) % 2147483648 = 0 := by
      have h3 := Nat.and_mod_two_pow (a := (bv a).toNat) (b := 2147483648) (n := 31)
      have h4 : (2147483648 : Nat) % 2 ^ 31 = 0 := by decide
      rw [h4, Nat.and_zero] at h3; exact h3
    rw [BitVec.toNat_shiftLeft, BitVec.toNat_and, e2, Nat.shiftLeft_eq]
    show _ = 0
    omega
  rw [e, BitVec.add_zero] at h
  rw [h, ← bv_add, ← wrap_bv]; unfold wrap32; omega
theorem ltu_lt {a b : Int} (ha : -2147483648 ≤ a ∧ a ≤ 2147483647) (hb : -2147483648 ≤ b ∧ b ≤ 2147483647) : doV 13 a b = doV 12 (doV 7 a (-2147483648)) (doV 7 b (-2147483648)) := by
  rw [top a ha, top b hb, v12, v13]; congr 1; rw [decide_eq_decide]; omega
theorem same_of {a b : Int} (ha : -2147483648 ≤ a ∧ a ≤ 2147483647) (hb : -2147483648 ≤ b ∧ b ≤ 2147483647) (h : a < 0 ∧ b < 0 ∨ 0 ≤ a ∧ 0 ≤ b) : doV 12 a b = doV 13 a b := by
  rw [v12, v13]; congr 1; rw [decide_eq_decide]; omega
theorem other_of {a b : Int} (ha : -2147483648 ≤ a ∧ a ≤ 2147483647) (hb : -2147483648 ≤ b ∧ b ≤ 2147483647) (h : a < 0 ∧ 0 ≤ b ∨ 0 ≤ a ∧ b < 0) : doV 12 a b ≠ doV 13 a b := by
  rw [v12, v13]
  rcases h with ⟨h1, h2⟩ | ⟨h1, h2⟩
  · rw [bit_t (show a < b by omega), bit_f (by omega)]; decide
  · rw [bit_f (show ¬ a < b by omega), bit_t (by omega)]; decide

/-! ### STEP 1: THE WALK: the Go text returns true. 'Grown w w'': the world has at most new blocks (Derived/RowKit3.lean). Part the cases AHEAD of 'go_enter' where a test parts the walk; take each callee by a contract of your own. -/
set_option maxHeartbeats 1000000 in
theorem walk (a0 : Int) (a1 : Int) (a2 : Int) (w0 : (Lit.int .i32 a0).wf = true) (w1 : (Lit.int .i32 a1).wf = true) (w2 : (Lit.int .i32 a2).wf = true) (w : World) :
    Calls Try.prog 9 #[.int .i32 a0, .int .i32 a1, .int .i32 a2] w fun e w' => e = .returned (.bool true) ∧ Grown w w' := by
  have ha := bounds_i32 w0
  have hb := bounds_i32 w1
  have F1 := Lib.hid (cases12 a0 a1 a2)
  have F2 := Lib.hid (cases13 a2 ha hb)
  have z1 : doV 12 a0 a0 = 0 := by rw [v12]; exact bit_f (by omega)
  have z2 : doV 13 a0 a0 = 0 := by rw [v13]; exact bit_f (by omega)
  have t3 : (doV 13 a0 a1 == doV 12 (doV 7 a0 (-2147483648)) (doV 7 a1 (-2147483648))) = true := beq_iff_eq.2 (ltu_lt ha hb)
  have E := Lib.hid (show doV 11 a0 a1 = bit (a0 == a1) from rfl)
  have S := Lib.hid (show doV 3 a0 a1 = wrap32 (a0 - a1) from rfl)
  have B1 := Lib.hid ha
  have B2 := Lib.hid hb
  clear ha hb
  go_enter Try.func9, Try.ntmps9
  go_wp2_with (go_at_call 13; refine (shown_any _).mono ?_; rintro e w' ⟨rfl, rfl⟩)
  go_loop [8] (fun i => ∃ k : Nat, 12 ≤ k ∧ k ≤ 14 ∧ i = .int .i64 k) (fun i => 14 - (intOf i).toNat)
  case atStart => exact ⟨12, by omega, by omega, rfl⟩
  case round =>
    obtain ⟨k, hk1, hk2, rfl⟩ := hrel
    have hk : k = 12 ∨ k = 13 ∨ k = 14 := by omega
    clear hk1 hk2
    rcases hk with rfl | rfl | rfl
    · rcases F1.out with ⟨hx, hy, he, ⟨hu, hv⟩ | ⟨hu, hv⟩ | ⟨hu, hv⟩⟩ | ⟨hx, ⟨hy, he⟩ | ⟨hy, he⟩⟩
      all_goals
        clear t3
        go_wp2_with (go_at_call 26; refine (does_any _ _ _ _).mono ?_; rintro e w' ⟨rfl, rfl⟩)
        go_round
        case rel => exact ⟨13, by omega, by omega, rfl⟩
        case measure => simp [intOf]
    · rcases F2.out with ⟨hx, hy, he, ⟨hu, hv⟩ | ⟨hu, hv⟩ | ⟨hu, hv⟩⟩ | ⟨hx, ⟨hy, he⟩ | ⟨hy, he⟩⟩
      all_goals
        clear t3
        go_wp2_with (go_at_call 26; refine (does_any _ _ _ _).mono ?_; rintro e w' ⟨rfl, rfl⟩)
        go_round
        case rel => exact ⟨14, by omega, by omega, rfl⟩
        case measure => simp [intOf]
    · have hs : (a0 < 0 ∧ a1 < 0 ∨ 0 ≤ a0 ∧ 0 ≤ a1) ∨ (a0 < 0 ∧ 0 ≤ a1 ∨ 0 ≤ a0 ∧ a1 < 0) := by omega
      have hs' : (a0 < 0 ∧ a1 < 0 ∨ 0 ≤ a0 ∧ 0 ≤ a1) ∧ (doV 12 a0 a1 == doV 13 a0 a1) = true ∨ (a0 < 0 ∧ 0 ≤ a1 ∨ 0 ≤ a0 ∧ a1 < 0) ∧ (doV 12 a0 a1 == doV 13 a0 a1) = false ∧ (a0 == a1) = false := by
        rcases hs with h | h
        · exact Or.inl ⟨h, beq_iff_eq.2 (same_of B1.out B2.out h)⟩
        · exact Or.inr ⟨h, beq_eq_false_iff_ne.2 (other_of B1.out B2.out h), beq_eq_false_iff_ne.2 (by omega)⟩
      clear hs
      have he' : (doV 11 a0 a1 == 1) = true ∧ (doV 3 a0 a1 == 0) = true ∨ (doV 11 a0 a1 == 1) = false ∧ (doV 3 a0 a1 == 0) = false := by
        have b1 := B1.out
        have b2 := B2.out
        by_cases h : a0 = a1
        · refine Or.inl ⟨?_, ?_⟩
          · rw [E.out, beq_iff_eq.2 h]; rfl
          · rw [S.out, beq_iff_eq]; unfold wrap32; omega
        · refine Or.inr ⟨?_, ?_⟩
          · rw [E.out, beq_eq_false_iff_ne.2 h]; rfl
          · rw [S.out, beq_eq_false_iff_ne]; unfold wrap32; omega
      rcases hs' with ⟨⟨h1, h2⟩ | ⟨h1, h2⟩, h3⟩ | ⟨⟨h1, h2⟩ | ⟨h1, h2⟩, h3, h4⟩ <;> rcases he' with ⟨h5, h6⟩ | ⟨h5, h6⟩
      all_goals
        go_wp2_with (go_at_call 26; refine (does_any _ _ _ _).mono ?_; rintro e w' ⟨rfl, rfl⟩)
        go_ret
        exact ⟨ret_bool (by first | rfl | (simp; omega)), Grown.refl _⟩

/-! ### THE ROW's STEP: WRITTEN OUT: LEAVE IT -/
set_option maxRecDepth 100000 in
theorem lifted (os : Os) (started : os.Started) (H : Type) (enc : TypeId × Value → H) :
    ReturnsInHanded {} Try.checked os 9 .any (Rows.wordOrderSpec.pre6 enc Try.prog Try.f9 Rows.wordOrderRow.domain false) (Rows.wordOrderSpec.post enc Try.prog Try.f9 false true false false) := by
  refine returnsInHanded_of_change (C := Try.checked) own started (by kernel_rfl) Try.func9
    (ChangeSpec.witness6 (enc := enc) (C := Try.checked) false ⟨#[], #[.int .i32 0, .int .i32 0, .int .i32 0], []⟩ 8 (by kernel_rfl) (by kernel_rfl) (by kernel_rfl) (by kernel_rfl)) ?_
  intro W base args ds gs before hval0 hW hcnd _
  have hval : ∀ (j : Nat) t v, Try.f9.params[j]? = some t → args[j]? = some v → Value.okWide Try.prog W .any base t v := hval0
  have hW' := hW
  obtain ⟨p, q, hA0, hV, rfl, hfz, hnd⟩ := hW
  have hA : DataW.TrodAll enc Try.prog W 0 (fun _ => true) true Try.f9.params.toList args.toList ds p := hA0
  rw [Try.params9] at hA hval
  obtain ⟨v0, vs0, d0, ds0, p0, q0, hargs, rfl, rfl, h0, r0⟩ := trodAll_cons hA
  obtain ⟨v1, vs1, d1, ds1, p1, q1, rfl, rfl, rfl, h1, r1⟩ := trodAll_cons r0
  obtain ⟨v2, vs2, d2, ds2, p2, q2, rfl, rfl, rfl, h2, r2⟩ := trodAll_cons r1
  obtain ⟨rfl, rfl, rfl⟩ := trodAll_nil r2
  obtain rfl : args = #[v0, v1, v2] := by cases args; simp_all
  obtain ⟨rfl, rfl⟩ := trodVars_none hV
  obtain ⟨a0, rfl, rfl, rfl, w0⟩ := open_int Try.underlying21 (hval 0 21 v0 rfl rfl) h0
  obtain ⟨a1, rfl, rfl, rfl, w1⟩ := open_int Try.underlying21 (hval 1 21 v1 rfl rfl) h1
  obtain ⟨a2, rfl, rfl, rfl, w2⟩ := open_int Try.underlying21 (hval 2 21 v2 rfl rfl) h2
  clear hA0 hval0
  simp only [List.append_nil] at hW'
  refine (walk a0 a1 a2 w0 w1 w2 W).mono fun e W' ⟨he, hg⟩ => ?_
  subst he
  exact ⟨_, rfl, post_of_same (pa := []) (pv := []) hW' (fun _ _ _ => (trodAll_cons_mk (shut_bool Try.underlying4 _) trodAll_mk0)) (fun sp _ => (trodAll_cons_mk (shut_int Try.underlying21 w0) (trodAll_cons_mk (shut_int Try.underlying21 w1) (trodAll_cons_mk (shut_int Try.underlying21 w2) trodAll_mk0)))) (fun _ _ => rfl) rfl
    (hg.frame _) hg.2.1 (ok_one (by kernel_rfl) rfl (okWide_bool_mk Try.underlying4 _))⟩

theorem over : Rows.wordOrderRow.holds Try.pinned (OpenSpec.ofChange Rows.wordOrderSpec) :=
  OpenClaim.holds_of_wide 9 Try.f9 rfl rfl rfl rfl rfl rfl rfl ⟨rfl, rfl, rfl, rfl, rfl⟩ rfl rfl rfl rfl rfl (by kernel_rfl) Try.func9 (by kernel_rfl)
    (of_decide_eq_true (by kernel_rfl)) (by unfold Func.isWrapper; first | (rw [if_pos (by decide +kernel)]; kernel_rfl) | (rw [if_neg (by decide +kernel)]; exact ⟨rfl, rfl⟩))
    (fun os started H enc _ => lifted os started H enc)

/-- ████ THE STATEMENT ████ -/
theorem proved : Rows.WordOrderSaid :=
  over
#print axioms proved
end Go.Proofs.Ytcmhcpdfgcmbiaa.wordOrder
