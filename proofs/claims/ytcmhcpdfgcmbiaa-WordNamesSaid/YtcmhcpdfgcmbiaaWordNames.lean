/- What is proved: word.Name, Number, Text and Parse answer what the document's own do (law WordNames): for every number, every text and every word the law answers true. Conditions: none beside those that the given row's own sentence names. -/
import Derived.Test.YtcmhcpdfgcmbiaaRows
import Derived.Test.YtcmhcpdfgcmbiaaRef
import Derived.Test.YtcmhcpdfgcmbiaaBits
import Derived.Test.YtcmhcpdfgcmbiaaRParse
import Derived.Outline
import Derived.WalkKit
import Derived.Below
import Derived.ProofKit
import Derived.OpenShut
import Derived.ShutString
namespace Go.Proofs.Ytcmhcpdfgcmbiaa.wordNames
open Go.ChangeShapes Go.WideShapes Go.ChangeAt Go.RowKit
open Go.ChangeMaps (open_string shut_string)
set_option linter.unusedVariables false      -- a walk need not use every 'w<i>' (that an integer argument fits its kind)

theorem own : ownKnob Try.prog.godebug = none := by kernel_rfl

open Go.Proofs.Ytcmhcpdfgcmbiaa.Pl Go.Proofs.Ytcmhcpdfgcmbiaa.Wd
theorem num_name (i : Int) (h1 : 1 ≤ i) (h2 : i ≤ 18) : numI (nameB i) = i := by
  have h : i = 1 ∨ i = 2 ∨ i = 3 ∨ i = 4 ∨ i = 5 ∨ i = 6 ∨ i = 7 ∨ i = 8 ∨ i = 9 ∨ i = 10 ∨ i = 11 ∨ i = 12 ∨ i = 13 ∨ i = 14 ∨ i = 15 ∨ i = 16 ∨ i = 17 ∨ i = 18 := by omega
  rcases h with rfl | rfl | rfl | rfl | rfl | rfl | rfl | rfl | rfl | rfl | rfl | rfl | rfl | rfl | rfl | rfl | rfl | rfl <;> decide +kernel

/-! ### STEP 1: THE WALK: the Go text returns true. 'Below w.heap.size w w'': the world has at most new blocks (Derived/RowKit3.lean). Part the cases AHEAD of 'go_enter' where a test parts the walk; take each callee by a contract of your own. -/
set_option maxHeartbeats 4000000 in
theorem walk (a0 : Int) (a1 : ByteArray) (a2 : Int) (w0 : (Lit.int .i64 a0).wf = true) (w1 : a1.size ≤ maxLen) (w2 : (Lit.int .i32 a2).wf = true) (w : World) :
    Calls Try.prog 4 #[.int .i64 a0, .string a1, .int .i32 a2] w fun e w' => e = .returned (.bool true) ∧ Below w.heap.size w w' := by
  have HS := Lib.hid w1
  have HOP := Lib.hid (bounds_i64 w0)
  have HN := Lib.hid (bounds_i32 w2)
  have HT1 := Lib.hid w1
  have HT2 := Lib.hid (show (a1.extract 0 20).size ≤ maxLen by rw [ByteArray.size_extract]; unfold maxLen; omega)
  clear w0 w1 w2
  by_cases h20 : a1.size ≤ 20
  all_goals
    go_enter Try.func4, Try.ntmps4
    go_wp2_with (go_at_call 13; refine (shown_any _).mono ?_; rintro e wz ⟨rfl, rfl⟩)
    go_loopw [9] (fun i wr => ∃ k : Int, -1 ≤ k ∧ k ≤ 20 ∧ i = .int .i64 k ∧ Below wz.heap.size wz wr) (fun i _ => (20 - intOf i).toNat)
    case atStart => exact ⟨-1, by omega, by omega, rfl, Below.refl _ _⟩
    case round =>
      obtain ⟨k, hk1, hk2, rfl, hb0⟩ := hrel
      have HB0 := Lib.hid hb0
      have HK := Lib.hid (show -9223372036854775808 ≤ k ∧ k ≤ 9223372036854775807 by omega)
      clear hb0
      by_cases hlt : k < 20
      · by_cases hin : 0 < k ∧ k < 19
        · obtain ⟨hin1, hin2⟩ := hin
          have hnum := num_name k (by omega) (by omega)
          go_wp2_with fail
          refine (name_any _ HK.out _).mono ?_
          rintro e x1 ⟨rfl, hb⟩
          have HB1 := Lib.hid (HB0.out.trans (hb.mono HB0.out.size))
          clear hb
          go_wp2_with fail
          refine (rname_any _ HK.out _).mono ?_
          rintro e x2 ⟨rfl, hb⟩
          have HB2 := Lib.hid (HB1.out.trans (hb.mono HB1.out.size))
          clear hb
          go_wp2_with fail
          refine (name_any _ HK.out _).mono ?_
          rintro e x3 ⟨rfl, hb⟩
          have HB3 := Lib.hid (HB2.out.trans (hb.mono HB2.out.size))
          clear hb
          go_wp2_with fail
          refine (number_any _ _).mono ?_
          rintro e x4 ⟨rfl, hb⟩
          have HB4 := Lib.hid (HB3.out.trans (hb.mono HB3.out.size))
          clear hb
          go_wp2
          go_roundw
          case rel => exact ⟨k + 1, by omega, by omega, rfl, HB4.out⟩
          case measure => simp [intOf]; omega
        · have hout : k ≤ 0 ∨ 19 ≤ k := by omega
          clear hin
          rcases hout with hout | hout
          all_goals
            go_wp2_with fail
            refine (name_any _ HK.out _).mono ?_
            rintro e x1 ⟨rfl, hb⟩
            have HB1 := Lib.hid (HB0.out.trans (hb.mono HB0.out.size))
            clear hb
            go_wp2_with fail
            refine (rname_any _ HK.out _).mono ?_
            rintro e x2 ⟨rfl, hb⟩
            have HB2 := Lib.hid (HB1.out.trans (hb.mono HB1.out.size))
            clear hb
            go_wp2
            go_roundw
            case rel => exact ⟨k + 1, by omega, by omega, rfl, HB2.out⟩
            case measure => simp [intOf]; omega
      · obtain rfl : k = 20 := by omega
        go_wp2_with fail
        refine (parse_any _ (by first | exact HT1.out | exact HT2.out) _).mono ?_
        rintro e x1 ⟨hp, hb⟩
        have HB1 := Lib.hid (HB0.out.trans (hb.mono HB0.out.size))
        have HP := Lib.hid hp
        clear hb hp
        rcases HP.out with ⟨m, hw, ht, rfl⟩ | ⟨hno, rfl⟩
        · go_wp2_with fail
          refine (rparse_any _ (by first | exact HT1.out | exact HT2.out) _).mono ?_
          rintro e x2 ⟨hp, hb⟩
          have HB2 := Lib.hid (HB1.out.trans (hb.mono HB1.out.size))
          have HP2 := Lib.hid hp
          clear hb hp
          have HM := Lib.hid ht
          have HW := Lib.hid hw
          clear ht hw
          rcases HP2.out with ⟨m2, hw2, ht2, rfl⟩ | ⟨hno2, rfl⟩
          rotate_left 1
          · exact absurd HM.out (hno2 m HW.out)
          obtain rfl : m2 = m := textOf_inj (ht2.trans HM.out.symm)
          clear ht2 hw2
          go_wp2_with fail
          refine (name_any _ HOP.out _).mono ?_
          rintro e x3 ⟨rfl, hb⟩
          have HB3 := Lib.hid (HB2.out.trans (hb.mono HB2.out.size))
          clear hb
          go_wp2_with fail
          refine (rname_any _ HOP.out _).mono ?_
          rintro e x4 ⟨rfl, hb⟩
          have HB4 := Lib.hid (HB3.out.trans (hb.mono HB3.out.size))
          clear hb
          go_wp2_with fail
          refine (number_any _ _).mono ?_
          rintro e x5 ⟨rfl, hb⟩
          have HB5 := Lib.hid (HB4.out.trans (hb.mono HB4.out.size))
          clear hb
          go_wp2_with fail
          refine (rnumber_any _ _).mono ?_
          rintro e x6 ⟨rfl, hb⟩
          have HB6 := Lib.hid (HB5.out.trans (hb.mono HB5.out.size))
          clear hb
          go_wp2_with fail
          refine (text_any _ HN.out _).mono ?_
          rintro e x7 ⟨rfl, hb⟩
          have HB7 := Lib.hid (HB6.out.trans (hb.mono HB6.out.size))
          clear hb
          go_wp2_with fail
          refine (rtext_any _ HN.out _).mono ?_
          rintro e x8 ⟨rfl, hb⟩
          have HB8 := Lib.hid (HB7.out.trans (hb.mono HB7.out.size))
          clear hb
          go_wp2
          go_ret
          exact ⟨ret_bool (by first | rfl | simp), HB8.out⟩
        · go_wp2_with fail
          refine (rparse_any _ (by first | exact HT1.out | exact HT2.out) _).mono ?_
          rintro e x2 ⟨hp, hb⟩
          have HB2 := Lib.hid (HB1.out.trans (hb.mono HB1.out.size))
          have HP2 := Lib.hid hp
          clear hb hp
          have HM := Lib.hid hno
          clear hno
          rcases HP2.out with ⟨m2, hw2, ht2, rfl⟩ | ⟨hno2, rfl⟩
          · exact absurd ht2 (HM.out m2 hw2)
          clear hno2
          go_wp2_with fail
          refine (name_any _ HOP.out _).mono ?_
          rintro e x3 ⟨rfl, hb⟩
          have HB3 := Lib.hid (HB2.out.trans (hb.mono HB2.out.size))
          clear hb
          go_wp2_with fail
          refine (rname_any _ HOP.out _).mono ?_
          rintro e x4 ⟨rfl, hb⟩
          have HB4 := Lib.hid (HB3.out.trans (hb.mono HB3.out.size))
          clear hb
          go_wp2_with fail
          refine (number_any _ _).mono ?_
          rintro e x5 ⟨rfl, hb⟩
          have HB5 := Lib.hid (HB4.out.trans (hb.mono HB4.out.size))
          clear hb
          go_wp2_with fail
          refine (rnumber_any _ _).mono ?_
          rintro e x6 ⟨rfl, hb⟩
          have HB6 := Lib.hid (HB5.out.trans (hb.mono HB5.out.size))
          clear hb
          go_wp2_with fail
          refine (text_any _ HN.out _).mono ?_
          rintro e x7 ⟨rfl, hb⟩
          have HB7 := Lib.hid (HB6.out.trans (hb.mono HB6.out.size))
          clear hb
          go_wp2_with fail
          refine (rtext_any _ HN.out _).mono ?_
          rintro e x8 ⟨rfl, hb⟩
          have HB8 := Lib.hid (HB7.out.trans (hb.mono HB7.out.size))
          clear hb
          go_wp2
          go_ret
          exact ⟨ret_bool (by first | rfl | simp), HB8.out⟩

/-! ### THE ROW's STEP: WRITTEN OUT: LEAVE IT -/
set_option maxRecDepth 100000 in
theorem lifted (os : Os) (started : os.Started) (H : Type) (enc : TypeId × Value → H) :
    ReturnsInHanded {} Try.checked os 4 .any (Rows.wordNamesSpec.pre6 enc Try.prog Try.f4 Rows.wordNamesRow.domain false) (Rows.wordNamesSpec.post enc Try.prog Try.f4 false true false false) := by
  refine returnsInHanded_of_change (C := Try.checked) own started (by kernel_rfl) Try.func4
    (ChangeSpec.witness6 (enc := enc) (C := Try.checked) false ⟨#[], #[.int .i64 0, .string ByteArray.empty, .int .i32 0], []⟩ 8 (by kernel_rfl) (by kernel_rfl) (by kernel_rfl) (by kernel_rfl)) ?_
  intro W base args ds gs before hval0 hW hcnd _
  have hval : ∀ (j : Nat) t v, Try.f4.params[j]? = some t → args[j]? = some v → Value.okWide Try.prog W .any base t v := hval0
  have hW' := hW
  obtain ⟨p, q, hA0, hV, rfl, hfz, hnd⟩ := hW
  have hA : DataW.TrodAll enc Try.prog W 0 (fun _ => true) true Try.f4.params.toList args.toList ds p := hA0
  rw [Try.params4] at hA hval
  obtain ⟨v0, vs0, d0, ds0, p0, q0, hargs, rfl, rfl, h0, r0⟩ := trodAll_cons hA
  obtain ⟨v1, vs1, d1, ds1, p1, q1, rfl, rfl, rfl, h1, r1⟩ := trodAll_cons r0
  obtain ⟨v2, vs2, d2, ds2, p2, q2, rfl, rfl, rfl, h2, r2⟩ := trodAll_cons r1
  obtain ⟨rfl, rfl, rfl⟩ := trodAll_nil r2
  obtain rfl : args = #[v0, v1, v2] := by cases args; simp_all
  obtain ⟨rfl, rfl⟩ := trodVars_none hV
  obtain ⟨a0, rfl, rfl, rfl, w0⟩ := open_int Try.underlying3 (hval 0 3 v0 rfl rfl) h0
  obtain ⟨a1, rfl, rfl, rfl, w1⟩ := open_string Try.underlying9 (hval 1 9 v1 rfl rfl) h1
  obtain ⟨a2, rfl, rfl, rfl, w2⟩ := open_int Try.underlying21 (hval 2 21 v2 rfl rfl) h2
  clear hA0 hval0
  simp only [List.append_nil] at hW'
  refine (walk a0 a1 a2 w0 w1 w2 W).mono fun e W' ⟨he, hg⟩ => ?_
  subst he
  exact ⟨_, rfl, _, _, _, [], [], [], hW', (trodAll_cons_mk (shut_bool Try.underlying4 _) trodAll_mk0), (trodAll_cons_mk (shut_int Try.underlying3 w0) (trodAll_cons_mk (shut_string Try.underlying9 w1) (trodAll_cons_mk (shut_int Try.underlying21 w2) trodAll_mk0))), rfl, hg.frame _, fun h => by cases h⟩

theorem over : Rows.wordNamesRow.holds Try.pinned (OpenSpec.ofChange Rows.wordNamesSpec) :=
  OpenClaim.holds_of_wide 4 Try.f4 rfl rfl rfl rfl rfl rfl rfl ⟨rfl, rfl, rfl, rfl, rfl⟩ rfl rfl rfl rfl rfl (by kernel_rfl) Try.func4 (by kernel_rfl)
    (of_decide_eq_true (by kernel_rfl)) (by unfold Func.isWrapper; first | (rw [if_pos (by decide +kernel)]; kernel_rfl) | (rw [if_neg (by decide +kernel)]; exact ⟨rfl, rfl⟩))
    (fun os started H enc _ => lifted os started H enc)

/-- ████ THE STATEMENT ████ -/
theorem proved : Rows.WordNamesSaid :=
  over
#print axioms proved
end Go.Proofs.Ytcmhcpdfgcmbiaa.wordNames
