/- What is proved: word.Do's Div gives the quotient that is cut towards 0, with its rest (law WordDivides): for every two words the law answers true. Conditions: none beside those that the given row's own sentence names. -/
import Derived.Test.YtcmhcpdfgcmbiaaRows
import Derived.Test.YtcmhcpdfgcmbiaaRef
import Derived.WalkKit
import Derived.ProofKit
import Derived.OpenShut
namespace Go.Proofs.Ytcmhcpdfgcmbiaa.wordDivides
open Go.ChangeShapes Go.WideShapes Go.ChangeAt Go.RowKit
set_option linter.unusedVariables false      -- a walk need not use every 'w<i>' (that an integer argument fits its kind)

theorem own : ownKnob Try.prog.godebug = none := by kernel_rfl

open Go.Proofs.Ytcmhcpdfgcmbiaa.Pl Go.Proofs.Ytcmhcpdfgcmbiaa.Wd
theorem tdiv_bd {a b : Int} (ha : -2147483648 ≤ a ∧ a ≤ 2147483647) (h : ¬ (a = -2147483648 ∧ b = -1)) (h0 : b ≠ 0) : -2147483648 ≤ a.tdiv b ∧ a.tdiv b ≤ 2147483647 := by
  have h1 : (a.tdiv b).natAbs = a.natAbs / b.natAbs := Int.natAbs_tdiv a b
  have h2 := Nat.div_le_self a.natAbs b.natAbs
  by_cases hm : a = -2147483648
  · by_cases h3 : b.natAbs = 1
    · have : b = 1 := by omega
      subst this; rw [Int.tdiv_one]; omega
    · have h4 : a.natAbs / b.natAbs ≤ a.natAbs / 2 := Nat.div_le_div_left (by omega) (by decide)
      omega
  · omega
theorem facts {a b : Int} (ha : -2147483648 ≤ a ∧ a ≤ 2147483647) (hb : -2147483648 ≤ b ∧ b ≤ 2147483647) (h : ¬ (a = -2147483648 ∧ b = -1)) (h0 : b ≠ 0) :
    ∃ q r : Int, doV 14 a b = q ∧ b * q = a - r ∧ (-2147483648 ≤ q ∧ q ≤ 2147483647) ∧ (-2147483648 ≤ r ∧ r ≤ 2147483647) ∧ (0 < b → r < b ∧ - r < b) ∧ (b < 0 → r < - b ∧ - r < - b) ∧ (r = 0 ∨ r < 0 ∧ a < 0 ∨ 0 < r ∧ 0 ≤ a) := by
  have h1 := tdiv_bd ha h h0
  have h2 := Int.tmod_add_mul_tdiv a b
  have h3 := Int.natAbs_tmod a b
  have h4 : a.natAbs % b.natAbs < b.natAbs := Nat.mod_lt _ (by omega)
  have h5 : a.natAbs % b.natAbs ≤ a.natAbs := Nat.mod_le _ _
  have h6 : 0 ≤ a → 0 ≤ a.tmod b := fun h => Int.tmod_nonneg b h
  have h7 : a < 0 → a.tmod b ≤ 0 := fun h => by
    have e : (-a).tmod b = - a.tmod b := Int.neg_tmod a b
    have := Int.tmod_nonneg b (show 0 ≤ -a by omega)
    omega
  refine ⟨a.tdiv b, a.tmod b, ?_, by omega, h1, by omega, by omega, by omega, by omega⟩
  show wDiv a b = _
  rw [wDiv, if_neg h0]; unfold wrap32; omega

/-! ### STEP 1: THE WALK: the Go text returns true. 'Grown w w'': the world has at most new blocks (Derived/RowKit3.lean). Part the cases AHEAD of 'go_enter' where a test parts the walk; take each callee by a contract of your own. -/
theorem walk (a0 : Int) (a1 : Int) (w0 : (Lit.int .i32 a0).wf = true) (w1 : (Lit.int .i32 a1).wf = true) (w : World) :
    Calls Try.prog 10 #[.int .i32 a0, .int .i32 a1] w fun e w' => e = .returned (.bool true) ∧ Grown w w' := by
  have ha := bounds_i32 w0
  have hb := bounds_i32 w1
  have s1 : doV 14 (-2147483648) (-1) = -2147483648 := by decide +kernel
  have s2 : doB 14 (-1) = true := by decide +kernel
  by_cases h0 : a1 = 0
  · subst h0
    have s3 : doV 14 a0 0 = 0 := rfl
    have s4 : doB 14 0 = false := by decide +kernel
    go_enter Try.func10, Try.ntmps10
    go_wp2_with (first | (go_at_call 13; refine (shown_any _).mono ?_; rintro e w' ⟨rfl, rfl⟩) | (go_at_call 26; refine (does_any _ _ _ _).mono ?_; rintro e w' ⟨rfl, rfl⟩) | (go_at_call 14; refine (do_any _ _ _ _).mono ?_; rintro e w' ⟨rfl, rfl⟩))
    go_ret
    exact ⟨rfl, Grown.refl _⟩
  · have s4 : doB 14 a1 = true := by simp [doB, h0]
    by_cases hm : a0 = -2147483648 ∧ a1 = -1
    · obtain ⟨rfl, rfl⟩ := hm
      go_enter Try.func10, Try.ntmps10
      go_wp2_with (first | (go_at_call 13; refine (shown_any _).mono ?_; rintro e w' ⟨rfl, rfl⟩) | (go_at_call 26; refine (does_any _ _ _ _).mono ?_; rintro e w' ⟨rfl, rfl⟩) | (go_at_call 14; refine (do_any _ _ _ _).mono ?_; rintro e w' ⟨rfl, rfl⟩))
      go_ret
      exact ⟨rfl, Grown.refl _⟩
    · obtain ⟨q, r, hq, hbq, hqb, hrb, hp, hn, hs⟩ := facts ha hb hm h0
      have s5 : doV 14 a0 1 = a0 := by
        show wDiv a0 1 = a0
        rw [wDiv, if_neg (by decide), Int.tdiv_one]; unfold wrap32; omega
      have hc : (a0 == -2147483648) = false ∨ (a0 == -2147483648) = true ∧ (a1 == -1) = false := by
        by_cases h : a0 = -2147483648
        · exact Or.inr ⟨beq_iff_eq.2 h, beq_eq_false_iff_ne.2 fun h' => hm ⟨h, h'⟩⟩
        · exact Or.inl (beq_eq_false_iff_ne.2 h)
      clear hm
      have hs' : (r == 0) = true ∨ (r == 0) = false ∧ r < 0 ∧ a0 < 0 ∨ (r == 0) = false ∧ 0 < r ∧ 0 ≤ a0 := by
        rcases hs with h | h | h
        · exact Or.inl (beq_iff_eq.2 h)
        · exact Or.inr (Or.inl ⟨beq_eq_false_iff_ne.2 (by omega), h⟩)
        · exact Or.inr (Or.inr ⟨beq_eq_false_iff_ne.2 (by omega), h⟩)
      clear hs
      have hb0 : a1 < 0 ∧ (r < - a1 ∧ - r < - a1) ∨ 0 < a1 ∧ (r < a1 ∧ - r < a1) := by omega
      clear hp hn
      have e1 : a0 - (a0 - r) = r := by omega
      rcases hc with hc | ⟨hc, hc2⟩ <;> rcases hs' with hs | ⟨hs, hs1, hs2⟩ | ⟨hs, hs1, hs2⟩ <;> rcases hb0 with ⟨hb0, hp1, hp2⟩ | ⟨hb0, hp1, hp2⟩
      all_goals
        go_enter Try.func10, Try.ntmps10
        go_wp2_with (first | (go_at_call 13; refine (shown_any _).mono ?_; rintro e w' ⟨rfl, rfl⟩) | (go_at_call 26; refine (does_any _ _ _ _).mono ?_; rintro e w' ⟨rfl, rfl⟩) | (go_at_call 14; refine (do_any _ _ _ _).mono ?_; rintro e w' ⟨rfl, rfl⟩))
        all_goals go_ret
        all_goals exact ⟨rfl, Grown.refl _⟩

/-! ### THE ROW's STEP: WRITTEN OUT: LEAVE IT -/
set_option maxRecDepth 100000 in
theorem lifted (os : Os) (started : os.Started) (H : Type) (enc : TypeId × Value → H) :
    ReturnsInHanded {} Try.checked os 10 .any (Rows.wordDividesSpec.pre6 enc Try.prog Try.f10 Rows.wordDividesRow.domain false) (Rows.wordDividesSpec.post enc Try.prog Try.f10 false true false false) := by
  refine returnsInHanded_of_change (C := Try.checked) own started (by kernel_rfl) Try.func10
    (ChangeSpec.witness6 (enc := enc) (C := Try.checked) false ⟨#[], #[.int .i32 0, .int .i32 0], []⟩ 8 (by kernel_rfl) (by kernel_rfl) (by kernel_rfl) (by kernel_rfl)) ?_
  intro W base args ds gs before hval0 hW hcnd _
  have hval : ∀ (j : Nat) t v, Try.f10.params[j]? = some t → args[j]? = some v → Value.okWide Try.prog W .any base t v := hval0
  have hW' := hW
  obtain ⟨p, q, hA0, hV, rfl, hfz, hnd⟩ := hW
  have hA : DataW.TrodAll enc Try.prog W 0 (fun _ => true) true Try.f10.params.toList args.toList ds p := hA0
  rw [Try.params10] at hA hval
  obtain ⟨v0, vs0, d0, ds0, p0, q0, hargs, rfl, rfl, h0, r0⟩ := trodAll_cons hA
  obtain ⟨v1, vs1, d1, ds1, p1, q1, rfl, rfl, rfl, h1, r1⟩ := trodAll_cons r0
  obtain ⟨rfl, rfl, rfl⟩ := trodAll_nil r1
  obtain rfl : args = #[v0, v1] := by cases args; simp_all
  obtain ⟨rfl, rfl⟩ := trodVars_none hV
  obtain ⟨a0, rfl, rfl, rfl, w0⟩ := open_int Try.underlying21 (hval 0 21 v0 rfl rfl) h0
  obtain ⟨a1, rfl, rfl, rfl, w1⟩ := open_int Try.underlying21 (hval 1 21 v1 rfl rfl) h1
  clear hA0 hval0
  simp only [List.append_nil] at hW'
  refine (walk a0 a1 w0 w1 W).mono fun e W' ⟨he, hg⟩ => ?_
  subst he
  exact ⟨_, rfl, post_of_same (pa := []) (pv := []) hW' (fun _ _ _ => (trodAll_cons_mk (shut_bool Try.underlying4 _) trodAll_mk0)) (fun sp _ => (trodAll_cons_mk (shut_int Try.underlying21 w0) (trodAll_cons_mk (shut_int Try.underlying21 w1) trodAll_mk0))) (fun _ _ => rfl) rfl
    (hg.frame _) hg.2.1 (ok_one (by kernel_rfl) rfl (okWide_bool_mk Try.underlying4 _))⟩

theorem over : Rows.wordDividesRow.holds Try.pinned (OpenSpec.ofChange Rows.wordDividesSpec) :=
  OpenClaim.holds_of_wide 10 Try.f10 rfl rfl rfl rfl rfl rfl rfl ⟨rfl, rfl, rfl, rfl, rfl⟩ rfl rfl rfl rfl rfl (by kernel_rfl) Try.func10 (by kernel_rfl)
    (of_decide_eq_true (by kernel_rfl)) (by unfold Func.isWrapper; first | (rw [if_pos (by decide +kernel)]; kernel_rfl) | (rw [if_neg (by decide +kernel)]; exact ⟨rfl, rfl⟩))
    (fun os started H enc _ => lifted os started H enc)

/-- ████ THE STATEMENT ████ -/
theorem proved : Rows.WordDividesSaid :=
  over
#print axioms proved
end Go.Proofs.Ytcmhcpdfgcmbiaa.wordDivides
