/- What is proved: what instructions do, and what moves do all at once, is what the reference says (law MovesDo): for any rows of instructions, of moves and of words the law answers true. Conditions: none beside those that the given form carries. -/
import Derived.Test.YtacfkjkpfmpdmaaRows
import Derived.Test.YtacfkjkpfmpdmaaVOP
import Derived.Test.YtacfkjkpfmpdmaaVE
import Derived.WalkKit
import Derived.ProofKit
import Derived.OpenShut
import Derived.ShutString
import Derived.ChangeOld
import Derived.Below
namespace Go.Proofs.Ytacfkjkpfmpdmaa.movesDo
open Go.ChangeShapes Go.WideShapes Go.ChangeAt Go.RowKit
open Go.Maps Go.Proofs.Ytacfkjkpfmpdmaa.Mem Go.Proofs.Ytacfkjkpfmpdmaa.Br Go.Proofs.Ytacfkjkpfmpdmaa.Va Go.Proofs.Ytacfkjkpfmpdmaa.Vm
theorem words_take {w : World} {A : Option Addr} {n c : Nat} {l : List Int} (h : WordsAt w (.slice A n c) l) (k : Nat) (hk : k ≤ n) : WordsAt w (.slice A k c) (l.take k) := by
  obtain ⟨A', c', e, h1, h2, h3⟩ := h
  injection e with e1 e2 e3
  subst e1 e2 e3
  have hl : (l.take k).length = k := by rw [List.length_take]; omega
  refine ⟨A, c, by rw [hl], by omega, h2, fun j hj => ?_⟩
  rw [hl] at hj
  rw [List.getElem_take]
  exact h3 j (by omega)
set_option maxRecDepth 100000 in
set_option maxHeartbeats 4000000 in
theorem doLaw_any (w : World) (v0 v1 v2 : Value) (cs : List PM) (l : List Vm.Mov) (p : List Int) (w0 : PmsAt w v0 cs) (w1 : MovesAt w v1 l) (w2 : WordsAt w v2 p) :
    Calls Try.prog 4 #[v0, v1, v2] w fun e w' => e = .returned (.bool true) ∧ Below w.heap.size w w' := by
  have w1' := w1
  obtain ⟨A0, c0, b0, o0, rfl, x1, x2, -⟩ := id w0
  obtain ⟨A1, c1, b1, o1, rfl, y1, y2, -⟩ := w1'
  obtain ⟨A2, c2, rfl, z1, z2, -⟩ := id w2
  unfold maxLen at x2 y2 z2
  have hk0 : min cs.length 24 ≤ cs.length := Nat.min_le_left _ _
  have hk2 : min p.length 40 ≤ p.length := Nat.min_le_left _ _
  have HC0 := Lib.hid (RowAt.take w0 _ hk0)
  have HP0 := Lib.hid (words_take w2 _ hk2)
  have HL0 := Lib.hid w1
  have HM0 := Lib.hid (show (min (cs.length : Int) 24).toNat = min cs.length 24 by omega)
  have HM2 := Lib.hid (show (min (p.length : Int) 40).toNat = min p.length 40 by omega)
  have HCL := Lib.hid (show (cs.take (min cs.length 24)).length ≤ 24 by rw [List.length_take]; omega)
  have HPL := Lib.hid (show (p.take (min p.length 40)).length ≤ 40 by rw [List.length_take]; omega)
  generalize cs.take (min cs.length 24) = cs' at *
  generalize p.take (min p.length 40) = p' at *
  clear w0 w1 w2
  go_enter Try.func4, Try.ntmps4
  go_wp2_with fail
  refine (awake_any _).mono ?_
  rintro e v1 ⟨rfl, hb⟩
  have HB1 := Lib.hid hb
  have HC1 := Lib.hid (show PmsAt v1 _ cs' from PmsAt.keep (show PmsAt w _ cs' from HC0.out) hb)
  have HP1 := Lib.hid (words_keep HP0.out hb)
  have HL1 := Lib.hid (MovesAt.keep HL0.out hb)
  clear hb HC0 HP0 HL0
  go_upto_region 4 with (fail)
  rw [HM0.out, HM2.out]
  go_wp2_with fail
  refine (do_any v1 _ _ cs' p' HC1.out HP1.out (by have := HCL.out; omega) (by have := HPL.out; omega)).mono ?_
  rintro e v2 ⟨va, rfl, hoa, hb⟩
  have HA2 := Lib.hid (words_of_own hoa)
  have HB2 := Lib.hid (HB1.out.trans (hb.mono HB1.out.size))
  have HC2 := Lib.hid (PmsAt.keep HC1.out hb)
  have HP2 := Lib.hid (words_keep HP1.out hb)
  have HL2 := Lib.hid (MovesAt.keep HL1.out hb)
  clear hoa hb HC1 HP1 HL1 HB1
  go_wp2_with fail
  refine (fdo_any v2 _ _ cs' p' HC2.out HP2.out (by have := HCL.out; omega) (by have := HPL.out; omega)).mono ?_
  rintro e v3 ⟨vb, rfl, hob, hb⟩
  have HBB3 := Lib.hid (words_of_own hob)
  have HA3 := Lib.hid (words_keep HA2.out hb)
  have HB3 := Lib.hid (HB2.out.trans (hb.mono HB2.out.size))
  have HP3 := Lib.hid (words_keep HP2.out hb)
  have HL3 := Lib.hid (MovesAt.keep HL2.out hb)
  clear hob hb HC2 HP2 HL2 HB2 HA2
  generalize doN cs' p' = q at *
  go_wp2_with fail
  refine (words_any v3 _ _ q q HA3.out HBB3.out).mono ?_
  rintro e v4 ⟨rfl, nq, hnq⟩
  have hb : Below v3.heap.size v3 v4 := by rw [hnq]; exact below_drewN (Below.refl _ _) _
  have HB4 := Lib.hid (HB3.out.trans (hb.mono HB3.out.size))
  have HP4 := Lib.hid (words_keep HP3.out hb)
  have HL4 := Lib.hid (MovesAt.keep HL3.out hb)
  rw [show decide (q = q) = true from decide_eq_true rfl]
  clear hb hnq HP3 HL3 HB3 HA3 HBB3
  go_wp2_with fail
  refine (few_any v4 _ l HL4.out).mono ?_
  rintro e v5 ⟨u1, rfl, hu, hw5⟩
  obtain rfl : v4 = v5 := hw5.symm
  have HU1 := Lib.hid hu
  have HTL := Lib.hid (show (l.take 24).length ≤ 24 by rw [List.length_take]; omega)
  clear hu
  go_wp2_with fail
  refine (after_any v4 _ _ (l.take 24) p' HU1.out HP4.out (by have := HTL.out; omega) (by have := HPL.out; omega)).mono ?_
  rintro e v6 ⟨va6, rfl, hoa, hb⟩
  have HA6 := Lib.hid (words_of_own hoa)
  have HB6 := Lib.hid (HB4.out.trans (hb.mono HB4.out.size))
  have HP6 := Lib.hid (words_keep HP4.out hb)
  have HL6 := Lib.hid (MovesAt.keep HL4.out hb)
  clear hoa hb HP4 HL4 HB4 HU1
  go_wp2_with fail
  refine (few_any v6 _ l HL6.out).mono ?_
  rintro e v7 ⟨u2, rfl, hu, hw7⟩
  obtain rfl : v6 = v7 := hw7.symm
  have HU2 := Lib.hid hu
  clear hu
  go_wp2_with fail
  refine (fafter_any v6 _ _ (l.take 24) p' HU2.out HP6.out (by have := HTL.out; omega) (by have := HPL.out; omega)).mono ?_
  rintro e v8 ⟨va8, rfl, hoa, hb⟩
  have HA8 := Lib.hid (words_of_own hoa)
  have HA7 := Lib.hid (words_keep HA6.out hb)
  have HB8 := Lib.hid (HB6.out.trans (hb.mono HB6.out.size))
  clear hoa hb HP6 HL6 HB6 HU2 HA6
  generalize afterN (l.take 24) p' = r at *
  go_wp2_with fail
  refine (words_any v8 _ _ r r HA7.out HA8.out).mono ?_
  rintro e v9 ⟨rfl, nq, hnq⟩
  have HBF := Lib.hid (show Below w.heap.size w v9 by rw [hnq]; exact below_drewN HB8.out _)
  rw [show decide (r = r) = true from decide_eq_true rfl]
  clear hnq HA7 HA8 HB8
  go_wp2
  go_ret
  exact ⟨rfl, HBF.out⟩
set_option linter.unusedVariables false
set_option linter.constructorNameAsVariable false

theorem own : ownKnob Try.prog.godebug = none := by kernel_rfl
theorem laidOut : laidOutB Try.prog = true := by kernel_rfl
/-! ### THE ROW's STEP: WRITTEN OUT: LEAVE IT -/
set_option maxRecDepth 100000 in
theorem lifted (os : Os) (started : os.Started) (H : Type) (enc : TypeId × Value → H) :
    ReturnsInHanded {} Try.checked os 4 .any (Rows.movesDoSpec.pre6 enc Try.prog Try.f4 Rows.movesDoRow.domain false) (Rows.movesDoSpec.post enc Try.prog Try.f4 false true false false) := by
  refine returnsInHanded_of_change (C := Try.checked) own started (by kernel_rfl) Try.func4
    (ChangeSpec.witness6 (enc := enc) (C := Try.checked) false ⟨#[], #[.slice none 0 0, .slice none 0 0, .slice none 0 0], []⟩ 8 (by kernel_rfl) (by kernel_rfl) (by kernel_rfl) (by kernel_rfl)) ?_
  intro W base args ds gs before hval0 hW hcnd _
  have hval : ∀ (j : Nat) t v, Try.f4.params[j]? = some t → args[j]? = some v → Value.okWide Try.prog W .any base t v := hval0
  have hW' := hW
  obtain ⟨p, q, hA0, hV, rfl, hfz, hnd⟩ := hW
  have hA : DataW.TrodAll enc Try.prog W 0 (fun _ => true) true Try.f4.params.toList args.toList ds p := hA0
  rw [Try.params4] at hA hval
  obtain ⟨v0, vs0, d0, ds0, p0, q0, hargs, rfl, rfl, h0, r0⟩ := trodAll_cons hA
  obtain ⟨v1, vs1, d1, ds1, p1, q1, rfl, rfl, rfl, h1, r1⟩ := trodAll_cons r0
  obtain ⟨v2, vs2, d2, ds2, p2, q2, rfl, rfl, rfl, h2, r2⟩ := trodAll_cons r1
  obtain ⟨rfl, rfl, rfl⟩ := trodAll_nil r2
  obtain rfl : args = #[v0, v1, v2] := by cases args; simp_all
  obtain ⟨rfl, rfl⟩ := trodVars_none hV
  have k0 := h0
  have lt0 : ∀ x ∈ p0, x.block < W.heap.size := by obtain ⟨m, hm⟩ := k0; exact DataW.trod_lt m _ _ _ hm
  have k1 := h1
  have lt1 : ∀ x ∈ p1, x.block < W.heap.size := by obtain ⟨m, hm⟩ := k1; exact DataW.trod_lt m _ _ _ hm
  have k2 := h2
  have lt2 : ∀ x ∈ p2, x.block < W.heap.size := by obtain ⟨m, hm⟩ := k2; exact DataW.trod_lt m _ _ _ hm
  obtain ⟨cs, w0⟩ : ∃ l, PmsAt W v0 l := by
    obtain ⟨a0, n0, c0, rfl⟩ := okWide_slice Try.underlying30 (hval 0 30 v0 rfl rfl)
    obtain ⟨m, hm⟩ := h0
    exact pms_open hm
  obtain ⟨l, w1, w1r⟩ : ∃ l : List Vm.Mov, MovesAt W v1 l ∧ Vm.Rng l := by
    obtain ⟨a0, n0, c0, rfl⟩ := okWide_slice Try.underlying22 (hval 1 22 v1 rfl rfl)
    obtain ⟨m, hm⟩ := h1
    exact moves_open hm
  obtain ⟨p, w2⟩ : ∃ l, WordsAt W v2 l := by
    obtain ⟨a0, n0, c0, rfl⟩ := okWide_slice Try.underlying31 (hval 2 31 v2 rfl rfl)
    obtain ⟨m, hm⟩ := h2
    exact words_open hm
  clear hA0 hval0
  refine (doLaw_any W v0 v1 v2 cs l p w0 w1 w2).mono fun e W' ⟨he, bel⟩ => ?_
  subst he
  exact ⟨_, rfl, _, _, _, [], _, [], hW', trodAll_mk1 (shut_bool Try.underlying4 _), (trodAll_cons_mk (Below.trod laidOut (by kernel_rfl) (of_decide_eq_true (by kernel_rfl)) k0 bel lt0) (trodAll_cons_mk (Below.trod laidOut (by kernel_rfl) (of_decide_eq_true (by kernel_rfl)) k1 bel lt1) (trodAll_cons_mk (Below.trod laidOut (by kernel_rfl) (of_decide_eq_true (by kernel_rfl)) k2 bel lt2) trodAll_mk0))), rfl, bel.frame _, fun h => by cases h⟩

theorem over : Rows.movesDoRow.holds Try.pinned (OpenSpec.ofChange Rows.movesDoSpec) :=
  OpenClaim.holds_of_wide 4 Try.f4 rfl rfl rfl rfl rfl rfl rfl ⟨rfl, rfl, rfl, rfl, rfl⟩ rfl rfl rfl rfl rfl (by kernel_rfl) Try.func4 (by kernel_rfl)
    (of_decide_eq_true (by kernel_rfl)) (by unfold Func.isWrapper; first | (rw [if_pos (by decide +kernel)]; kernel_rfl) | (rw [if_neg (by decide +kernel)]; exact ⟨rfl, rfl⟩))
    (fun os started H enc _ => lifted os started H enc)

/-- ████ THE STATEMENT ████ -/
theorem proved : Rows.MovesDoSaid := over
#print axioms proved
end Go.Proofs.Ytacfkjkpfmpdmaa.movesDo
