/- What is proved: word.Do, at its operations Add, Sub and Mul, obeys the laws of a ring (law WordRing): for every three words the law answers true. Conditions: none beside those that the given row's own sentence names. -/
import Derived.Test.YtcmhcpdfgcmbiaaRows
import Derived.Test.YtcmhcpdfgcmbiaaRef
import Derived.WalkKit
import Derived.ProofKit
import Derived.OpenShut
namespace Go.Proofs.Ytcmhcpdfgcmbiaa.wordRing
open Go.ChangeShapes Go.WideShapes Go.ChangeAt Go.RowKit
set_option linter.unusedVariables false      -- a walk need not use every 'w<i>' (that an integer argument fits its kind)

theorem own : ownKnob Try.prog.godebug = none := by kernel_rfl

open Go.Proofs.Ytcmhcpdfgcmbiaa.Pl Go.Proofs.Ytcmhcpdfgcmbiaa.Wd
theorem v2 (a b : Int) : doV 2 a b = wrap32 (a + b) := rfl
theorem v3 (a b : Int) : doV 3 a b = wrap32 (a - b) := rfl
theorem v4 (a b : Int) : doV 4 a b = wrap32 (a * b) := rfl
theorem wrap_q (n : Int) : ∃ q : Int, wrap32 n = n - 4294967296 * q := ⟨(n + 2147483648) / 4294967296, by unfold wrap32; omega⟩
theorem wrap_eq {m n : Int} (q : Int) (h : m = n + 4294967296 * q) : wrap32 m = wrap32 n := by unfold wrap32; omega
theorem one (a b c : Int) : doV 2 (doV 2 a b) c = doV 2 a (doV 2 b c) := by simp only [v2]; unfold wrap32; omega
theorem comm2 (a b : Int) : doV 2 a b = doV 2 b a := by simp only [v2, Int.add_comm]
theorem comm4 (a b : Int) : doV 4 a b = doV 4 b a := by simp only [v4, Int.mul_comm]
theorem two (a b c : Int) : doV 4 (doV 4 a b) c = doV 4 a (doV 4 b c) := by
  simp only [v4]
  obtain ⟨p, hp⟩ := wrap_q (a * b)
  obtain ⟨q, hq⟩ := wrap_q (b * c)
  rw [hp, hq]
  apply wrap_eq (a * q - p * c)
  have e1 : (a * b - 4294967296 * p) * c = a * (b * c) - 4294967296 * (p * c) := by rw [Int.sub_mul, Int.mul_assoc, Int.mul_assoc]
  have e2 : a * (b * c - 4294967296 * q) = a * (b * c) - 4294967296 * (a * q) := by rw [Int.mul_sub, Int.mul_left_comm a 4294967296 q]
  rw [e1, e2]; omega
theorem three (a b c : Int) : doV 4 a (doV 2 b c) = doV 2 (doV 4 a b) (doV 4 a c) := by
  simp only [v2, v4]
  obtain ⟨p, hp⟩ := wrap_q (b + c)
  obtain ⟨q, hq⟩ := wrap_q (a * b)
  obtain ⟨r, hr⟩ := wrap_q (a * c)
  rw [hp, hq, hr]
  apply wrap_eq (q + r - a * p)
  have e1 : a * (b + c - 4294967296 * p) = a * b + a * c - 4294967296 * (a * p) := by rw [Int.mul_sub, Int.mul_add, Int.mul_left_comm]
  rw [e1]; omega
theorem wrap_id {n : Int} (h : -2147483648 ≤ n ∧ n ≤ 2147483647) : wrap32 n = n := by unfold wrap32; omega

/-! ### STEP 1: THE WALK: the Go text returns true. 'Grown w w'': the world has at most new blocks (Derived/RowKit3.lean). Part the cases AHEAD of 'go_enter' where a test parts the walk; take each callee by a contract of your own. -/
theorem walk (a0 : Int) (a1 : Int) (a2 : Int) (w0 : (Lit.int .i32 a0).wf = true) (w1 : (Lit.int .i32 a1).wf = true) (w2 : (Lit.int .i32 a2).wf = true) (w : World) :
    Calls Try.prog 6 #[.int .i32 a0, .int .i32 a1, .int .i32 a2] w fun e w' => e = .returned (.bool true) ∧ Grown w w' := by
  have ha := bounds_i32 w0
  have f1 : (doV 2 (doV 2 a0 a1) a2 == doV 2 a0 (doV 2 a1 a2)) = true := beq_iff_eq.2 (one a0 a1 a2)
  have f2 : (doV 2 a0 a1 == doV 2 a1 a0) = true := beq_iff_eq.2 (comm2 a0 a1)
  have f3 : (doV 4 (doV 4 a0 a1) a2 == doV 4 a0 (doV 4 a1 a2)) = true := beq_iff_eq.2 (two a0 a1 a2)
  have f4 : (doV 4 a0 a1 == doV 4 a1 a0) = true := beq_iff_eq.2 (comm4 a0 a1)
  have f5 : (doV 4 a0 (doV 2 a1 a2) == doV 2 (doV 4 a0 a1) (doV 4 a0 a2)) = true := beq_iff_eq.2 (three a0 a1 a2)
  have f6 : (doV 3 (doV 2 a0 a1) a1 == a0) = true := beq_iff_eq.2 (by rw [v3, v2]; unfold wrap32; omega)
  have f7 : (doV 2 (doV 3 a0 a1) a1 == a0) = true := beq_iff_eq.2 (by rw [v3, v2]; unfold wrap32; omega)
  have f8 : (doV 3 a0 a0 == 0) = true := beq_iff_eq.2 (by rw [v3]; unfold wrap32; omega)
  have f9 : (doV 4 a0 1 == a0) = true := beq_iff_eq.2 (by rw [v4, Int.mul_one]; exact wrap_id ha)
  have f10 : (doV 2 a0 0 == a0) = true := beq_iff_eq.2 (by rw [v2, Int.add_zero]; exact wrap_id ha)
  clear ha
  go_enter Try.func6, Try.ntmps6
  go_wp2_with (first | (go_at_call 13; refine (shown_any _).mono ?_; rintro e w' ⟨rfl, rfl⟩) | (go_at_call 26; refine (does_any _ _ _ _).mono ?_; rintro e w' ⟨rfl, rfl⟩))
  go_ret
  exact ⟨rfl, Grown.refl _⟩

/-! ### THE ROW's STEP: WRITTEN OUT: LEAVE IT -/
set_option maxRecDepth 100000 in
theorem lifted (os : Os) (started : os.Started) (H : Type) (enc : TypeId × Value → H) :
    ReturnsInHanded {} Try.checked os 6 .any (Rows.wordRingSpec.pre6 enc Try.prog Try.f6 Rows.wordRingRow.domain false) (Rows.wordRingSpec.post enc Try.prog Try.f6 false true false false) := by
  refine returnsInHanded_of_change (C := Try.checked) own started (by kernel_rfl) Try.func6
    (ChangeSpec.witness6 (enc := enc) (C := Try.checked) false ⟨#[], #[.int .i32 0, .int .i32 0, .int .i32 0], []⟩ 8 (by kernel_rfl) (by kernel_rfl) (by kernel_rfl) (by kernel_rfl)) ?_
  intro W base args ds gs before hval0 hW hcnd _
  have hval : ∀ (j : Nat) t v, Try.f6.params[j]? = some t → args[j]? = some v → Value.okWide Try.prog W .any base t v := hval0
  have hW' := hW
  obtain ⟨p, q, hA0, hV, rfl, hfz, hnd⟩ := hW
  have hA : DataW.TrodAll enc Try.prog W 0 (fun _ => true) true Try.f6.params.toList args.toList ds p := hA0
  rw [Try.params6] at hA hval
  obtain ⟨v0, vs0, d0, ds0, p0, q0, hargs, rfl, rfl, h0, r0⟩ := trodAll_cons hA
  obtain ⟨v1, vs1, d1, ds1, p1, q1, rfl, rfl, rfl, h1, r1⟩ := trodAll_cons r0
  obtain ⟨v2, vs2, d2, ds2, p2, q2, rfl, rfl, rfl, h2, r2⟩ := trodAll_cons r1
  obtain ⟨rfl, rfl, rfl⟩ := trodAll_nil r2
  obtain rfl : args = #[v0, v1, v2] := by cases args; simp_all
  obtain ⟨rfl, rfl⟩ := trodVars_none hV
  obtain ⟨a0, rfl, rfl, rfl, w0⟩ := open_int Try.underlying21 (hval 0 21 v0 rfl rfl) h0
  obtain ⟨a1, rfl, rfl, rfl, w1⟩ := open_int Try.underlying21 (hval 1 21 v1 rfl rfl) h1
  obtain ⟨a2, rfl, rfl, rfl, w2⟩ := open_int Try.underlying21 (hval 2 21 v2 rfl rfl) h2
  clear hA0 hval0
  simp only [List.append_nil] at hW'
  refine (walk a0 a1 a2 w0 w1 w2 W).mono fun e W' ⟨he, hg⟩ => ?_
  subst he
  exact ⟨_, rfl, post_of_same (pa := []) (pv := []) hW' (fun _ _ _ => (trodAll_cons_mk (shut_bool Try.underlying4 _) trodAll_mk0)) (fun sp _ => (trodAll_cons_mk (shut_int Try.underlying21 w0) (trodAll_cons_mk (shut_int Try.underlying21 w1) (trodAll_cons_mk (shut_int Try.underlying21 w2) trodAll_mk0)))) (fun _ _ => rfl) rfl
    (hg.frame _) hg.2.1 (ok_one (by kernel_rfl) rfl (okWide_bool_mk Try.underlying4 _))⟩

theorem over : Rows.wordRingRow.holds Try.pinned (OpenSpec.ofChange Rows.wordRingSpec) :=
  OpenClaim.holds_of_wide 6 Try.f6 rfl rfl rfl rfl rfl rfl rfl ⟨rfl, rfl, rfl, rfl, rfl⟩ rfl rfl rfl rfl rfl (by kernel_rfl) Try.func6 (by kernel_rfl)
    (of_decide_eq_true (by kernel_rfl)) (by unfold Func.isWrapper; first | (rw [if_pos (by decide +kernel)]; kernel_rfl) | (rw [if_neg (by decide +kernel)]; exact ⟨rfl, rfl⟩))
    (fun os started H enc _ => lifted os started H enc)

/-- ████ THE STATEMENT ████ -/
theorem proved : Rows.WordRingSaid :=
  over
#print axioms proved
end Go.Proofs.Ytcmhcpdfgcmbiaa.wordRing
