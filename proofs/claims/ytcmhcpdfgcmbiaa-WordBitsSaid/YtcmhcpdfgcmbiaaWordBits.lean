/- What is proved: the bits of words go together as those of numbers do (law WordBits): for every two words the law answers true. Conditions: none beside those that the given row's own sentence names. -/
import Derived.Test.YtcmhcpdfgcmbiaaRows
import Derived.Test.YtcmhcpdfgcmbiaaRef
import Derived.Test.YtcmhcpdfgcmbiaaBits
import Derived.WalkKit
import Derived.ProofKit
import Derived.OpenShut
namespace Go.Proofs.Ytcmhcpdfgcmbiaa.wordBits
open Go.ChangeShapes Go.WideShapes Go.ChangeAt Go.RowKit
set_option linter.unusedVariables false      -- a walk need not use every 'w<i>' (that an integer argument fits its kind)

theorem own : ownKnob Try.prog.godebug = none := by kernel_rfl

open Go.Proofs.Ytcmhcpdfgcmbiaa.Pl Go.Proofs.Ytcmhcpdfgcmbiaa.Wd
theorem b2 (a b : Int) : doV 2 a b = (bv a + bv b).toInt := (wrap_bv _).trans (by rw [bv_add])
theorem b3 (a b : Int) : doV 3 a b = (bv a - bv b).toInt := (wrap_bv _).trans (by rw [Int.sub_eq_add_neg, bv_add, BitVec.sub_eq_add_neg]; exact congrArg (fun x => (bv a + x).toInt) BitVec.ofInt_neg)
theorem b5 (a b : Int) : doV 5 a b = (bv a &&& bv b).toInt := bits_and a b
theorem b6 (a b : Int) : doV 6 a b = (bv a ||| bv b).toInt := bits_or a b
theorem b7 (a b : Int) : doV 7 a b = (bv a ^^^ bv b).toInt := bits_xor a b
theorem b8 (a : Int) : doV 8 a 1 = (bv a <<< 1).toInt := (wrap_bv _).trans (by rw [← bv_shl]; rfl)
theorem m1 : bv (-1) = BitVec.allOnes 32 := by decide +kernel
theorem g1 (a b : Int) : doV 2 (doV 5 a b) (doV 6 a b) = doV 2 a b := by rw [b2, b5, b6, bv_toInt, bv_toInt, add_and_or, ← b2]
theorem g2 (a b : Int) : doV 3 (doV 6 a b) (doV 5 a b) = doV 7 a b := by
  rw [b3, b5, b6, b7, bv_toInt, bv_toInt]
  congr 1
  have h1 := add_and_or (bv a) (bv b)
  have h2 := xor_and (bv a) (bv b)
  have e : (bv a &&& bv b) <<< 1 = (bv a &&& bv b) + (bv a &&& bv b) := by
    apply BitVec.eq_of_toNat_eq
    simp only [BitVec.toNat_shiftLeft, BitVec.toNat_add, Nat.shiftLeft_eq]; congr 1; omega
  rw [e, ← h1] at h2
  have h3 : (bv a ^^^ bv b) + (bv a &&& bv b) = bv a ||| bv b := by
    have h4 : ((bv a ^^^ bv b) + (bv a &&& bv b)) + (bv a &&& bv b) = (bv a ||| bv b) + (bv a &&& bv b) := by rw [BitVec.add_assoc, h2, BitVec.add_comm]
    exact (BitVec.add_left_inj _).1 h4
  rw [← h3, BitVec.add_sub_cancel]
theorem g3 (a : Int) : doV 5 a (doV 7 a (-1)) = 0 := by
  rw [b5, b7, bv_toInt, m1, BitVec.xor_allOnes, BitVec.and_not_self]; rfl
theorem g4 (a : Int) : doV 6 a (doV 7 a (-1)) = -1 := by
  rw [b6, b7, bv_toInt, m1, BitVec.xor_allOnes, BitVec.or_not_self]; decide +kernel
theorem g5 (a : Int) : doV 7 a (-1) = doV 3 (-1) a := by
  rw [b7, b3, m1, BitVec.xor_allOnes, BitVec.allOnes_sub_eq_not]
theorem g6 {a : Int} (b : Int) (h : -2147483648 ≤ a ∧ a ≤ 2147483647) : doV 7 (doV 7 a b) b = a := by
  rw [b7, b7, bv_toInt, BitVec.xor_assoc, BitVec.xor_self, BitVec.xor_zero, bv_word h]
theorem g7 (a b : Int) : doV 2 (doV 7 a b) (doV 8 (doV 5 a b) 1) = doV 2 a b := by
  rw [b2, b8, b7, b5, bv_toInt, bv_toInt, bv_toInt, xor_and, ← b2]

/-! ### STEP 1: THE WALK: the Go text returns true. 'Grown w w'': the world has at most new blocks (Derived/RowKit3.lean). Part the cases AHEAD of 'go_enter' where a test parts the walk; take each callee by a contract of your own. -/
theorem walk (a0 : Int) (a1 : Int) (w0 : (Lit.int .i32 a0).wf = true) (w1 : (Lit.int .i32 a1).wf = true) (w : World) :
    Calls Try.prog 7 #[.int .i32 a0, .int .i32 a1] w fun e w' => e = .returned (.bool true) ∧ Grown w w' := by
  have ha := bounds_i32 w0
  have f1 : (doV 2 (doV 5 a0 a1) (doV 6 a0 a1) == doV 2 a0 a1) = true := beq_iff_eq.2 (g1 a0 a1)
  have f2 : (doV 3 (doV 6 a0 a1) (doV 5 a0 a1) == doV 7 a0 a1) = true := beq_iff_eq.2 (g2 a0 a1)
  have f3 : (doV 5 a0 (doV 7 a0 (-1)) == 0) = true := beq_iff_eq.2 (g3 a0)
  have f4 : (doV 6 a0 (doV 7 a0 (-1)) == -1) = true := beq_iff_eq.2 (g4 a0)
  have f5 : (doV 7 a0 (-1) == doV 3 (-1) a0) = true := beq_iff_eq.2 (g5 a0)
  have f6 : (doV 7 (doV 7 a0 a1) a1 == a0) = true := beq_iff_eq.2 (g6 a1 ha)
  have f7 : (doV 2 (doV 7 a0 a1) (doV 8 (doV 5 a0 a1) 1) == doV 2 a0 a1) = true := beq_iff_eq.2 (g7 a0 a1)
  clear ha
  go_enter Try.func7, Try.ntmps7
  go_wp2_with (first | (go_at_call 13; refine (shown_any _).mono ?_; rintro e w' ⟨rfl, rfl⟩) | (go_at_call 26; refine (does_any _ _ _ _).mono ?_; rintro e w' ⟨rfl, rfl⟩))
  go_ret
  exact ⟨rfl, Grown.refl _⟩

/-! ### THE ROW's STEP: WRITTEN OUT: LEAVE IT -/
set_option maxRecDepth 100000 in
theorem lifted (os : Os) (started : os.Started) (H : Type) (enc : TypeId × Value → H) :
    ReturnsInHanded {} Try.checked os 7 .any (Rows.wordBitsSpec.pre6 enc Try.prog Try.f7 Rows.wordBitsRow.domain false) (Rows.wordBitsSpec.post enc Try.prog Try.f7 false true false false) := by
  refine returnsInHanded_of_change (C := Try.checked) own started (by kernel_rfl) Try.func7
    (ChangeSpec.witness6 (enc := enc) (C := Try.checked) false ⟨#[], #[.int .i32 0, .int .i32 0], []⟩ 8 (by kernel_rfl) (by kernel_rfl) (by kernel_rfl) (by kernel_rfl)) ?_
  intro W base args ds gs before hval0 hW hcnd _
  have hval : ∀ (j : Nat) t v, Try.f7.params[j]? = some t → args[j]? = some v → Value.okWide Try.prog W .any base t v := hval0
  have hW' := hW
  obtain ⟨p, q, hA0, hV, rfl, hfz, hnd⟩ := hW
  have hA : DataW.TrodAll enc Try.prog W 0 (fun _ => true) true Try.f7.params.toList args.toList ds p := hA0
  rw [Try.params7] at hA hval
  obtain ⟨v0, vs0, d0, ds0, p0, q0, hargs, rfl, rfl, h0, r0⟩ := trodAll_cons hA
  obtain ⟨v1, vs1, d1, ds1, p1, q1, rfl, rfl, rfl, h1, r1⟩ := trodAll_cons r0
  obtain ⟨rfl, rfl, rfl⟩ := trodAll_nil r1
  obtain rfl : args = #[v0, v1] := by cases args; simp_all
  obtain ⟨rfl, rfl⟩ := trodVars_none hV
  obtain ⟨a0, rfl, rfl, rfl, w0⟩ := open_int Try.underlying21 (hval 0 21 v0 rfl rfl) h0
  obtain ⟨a1, rfl, rfl, rfl, w1⟩ := open_int Try.underlying21 (hval 1 21 v1 rfl rfl) h1
  clear hA0 hval0
  simp only [List.append_nil] at hW'
  refine (walk a0 a1 w0 w1 W).mono fun e W' ⟨he, hg⟩ => ?_
  subst he
  exact ⟨_, rfl, post_of_same (pa := []) (pv := []) hW' (fun _ _ _ => (trodAll_cons_mk (shut_bool Try.underlying4 _) trodAll_mk0)) (fun sp _ => (trodAll_cons_mk (shut_int Try.underlying21 w0) (trodAll_cons_mk (shut_int Try.underlying21 w1) trodAll_mk0))) (fun _ _ => rfl) rfl
    (hg.frame _) hg.2.1 (ok_one (by kernel_rfl) rfl (okWide_bool_mk Try.underlying4 _))⟩

theorem over : Rows.wordBitsRow.holds Try.pinned (OpenSpec.ofChange Rows.wordBitsSpec) :=
  OpenClaim.holds_of_wide 7 Try.f7 rfl rfl rfl rfl rfl rfl rfl ⟨rfl, rfl, rfl, rfl, rfl⟩ rfl rfl rfl rfl rfl (by kernel_rfl) Try.func7 (by kernel_rfl)
    (of_decide_eq_true (by kernel_rfl)) (by unfold Func.isWrapper; first | (rw [if_pos (by decide +kernel)]; kernel_rfl) | (rw [if_neg (by decide +kernel)]; exact ⟨rfl, rfl⟩))
    (fun os started H enc _ => lifted os started H enc)

/-- ████ THE STATEMENT ████ -/
theorem proved : Rows.WordBitsSaid :=
  over
#print axioms proved
end Go.Proofs.Ytcmhcpdfgcmbiaa.wordBits
