/- What is proved: a word comes back from its text by word.Parse, and from no other text (law WordTexts): for every word, every text and every byte the law answers true. Conditions: none beside those that the given row's own sentence names. -/
import Derived.Test.YtcmhcpdfgcmbiaaRows
import Derived.Test.YtcmhcpdfgcmbiaaRef
import Derived.Test.YtcmhcpdfgcmbiaaBits
import Derived.Test.YtcmhcpdfgcmbiaaRParse
import Derived.Deep.RegionWith
import Derived.WalkKit
import Derived.Below
import Derived.ProofKit
import Derived.OpenShut
import Derived.ShutString
namespace Go.Proofs.Ytcmhcpdfgcmbiaa.wordTexts
open Go.ChangeShapes Go.WideShapes Go.ChangeAt Go.RowKit
open Go.ChangeMaps (open_string shut_string)
set_option linter.unusedVariables false      -- a walk need not use every 'w<i>' (that an integer argument fits its kind)

theorem own : ownKnob Try.prog.godebug = none := by kernel_rfl

open Go.Proofs.Ytcmhcpdfgcmbiaa.Pl Go.Proofs.Ytcmhcpdfgcmbiaa.Wd
/-- word.Parse, its answer by its two results. -/
def ParseTold (L : List UInt8) (w : World) (e : Ending) (w' : World) : Prop :=
  ∃ (v : Int) (b : Bool), e = .returned (.tuple #[.int .i32 v, .bool b]) ∧ (b = true ∧ IsWord v ∧ textOf v = L ∨ b = false ∧ v = 0) ∧ Below w.heap.size w w'
theorem parse_told (s : ByteArray) (hm : s.size ≤ maxLen) (w : World) : Calls Try.prog 21 #[.string s] w (ParseTold s.data.toList w) := by
  refine (parse_any s hm w).mono ?_
  rintro e w' ⟨⟨n, hw, ht, rfl⟩ | ⟨_, rfl⟩, hb⟩
  · exact ⟨n, true, rfl, Or.inl ⟨rfl, hw, ht⟩, hb⟩
  · exact ⟨0, false, rfl, Or.inr ⟨rfl, rfl⟩, hb⟩
/-- A text of one byte. -/
def oneS (c : UInt8) : ByteArray := ⟨#[c]⟩
theorem oneS_size (c : UInt8) : (oneS c).size = 1 := rfl
theorem one_conv (c : UInt8) (w : World) (b : Nat) (h : w.cell? ⟨b, 0, none⟩ = some (.int .u8 (c.toNat : Int))) :
    (convert 33 9 (.slice (some ⟨b, 0, none⟩) 1 1)).run Try.prog w = .ok (.string (oneS c)) w := by
  have hr := run_convert_bytes_arg (P := Try.prog) w 33 5 Try.underlying33 Try.underlying5 b 0 1 1 [(c.toNat : Int)] rfl (fun i hi => by
    obtain rfl : i = 0 := by omega
    exact h) 9 Try.underlying9
  rw [hr]
  show Result.ok (Value.string ⟨([(c.toNat : Int)].map fun n => UInt8.ofNat n.toNat).toArray⟩) w = _
  simp [oneS]

/-! ### STEP 1: THE WALK: the Go text returns true. 'Below w.heap.size w w'': the world has at most new blocks (Derived/RowKit3.lean). Part the cases AHEAD of 'go_enter' where a test parts the walk; take each callee by a contract of your own. -/
set_option maxHeartbeats 4000000 in
theorem walk (a0 : Int) (a1 : ByteArray) (a2 : Int) (w0 : (Lit.int .i32 a0).wf = true) (w1 : a1.size ≤ maxLen) (w2 : (Lit.int .u8 a2).wf = true) (w : World) :
    Calls Try.prog 5 #[.int .i32 a0, .string a1, .int .u8 a2] w fun e w' => e = .returned (.bool true) ∧ Below w.heap.size w w' := by
  have HN := Lib.hid (bounds_i32 w0)
  have HT1 := Lib.hid w1
  have HT2 := Lib.hid (show (a1.extract 0 20).size ≤ maxLen by rw [ByteArray.size_extract]; unfold maxLen; omega)
  have hlen := textOf_len (bounds_i32 w0)
  have HTS := Lib.hid (show (⟨(textOf a0).toArray⟩ : ByteArray).size ≤ maxLen by rw [ByteArray.size_mk']; unfold maxLen; simp; omega)
  have HT0 := Lib.hid (show (⟨#[48]⟩ ++ ⟨(textOf a0).toArray⟩ : ByteArray).size ≤ maxLen by unfold maxLen; rw [ByteArray.size_append', ByteArray.size_mk', ByteArray.size_mk']; simp; omega)
  have HTP := Lib.hid (show (⟨#[43]⟩ ++ ⟨(textOf a0).toArray⟩ : ByteArray).size ≤ maxLen by unfold maxLen; rw [ByteArray.size_append', ByteArray.size_mk', ByteArray.size_mk']; simp; omega)
  have hb8 := bounds_u8 w2
  obtain ⟨c, hc8⟩ : ∃ c : UInt8, a2 = (c.toNat : Int) := ⟨UInt8.ofNat a2.toNat, by rw [UInt8.toNat_ofNat']; omega⟩
  subst hc8
  have HTC := Lib.hid (show (⟨(textOf a0).toArray⟩ ++ oneS c : ByteArray).size ≤ maxLen by unfold maxLen; rw [ByteArray.size_append', ByteArray.size_mk', oneS_size]; simp; omega)
  have hosz := oneS_size c
  have hocv := one_conv c
  clear w0 w1 w2 hb8
  by_cases h20 : a1.size ≤ 20
  all_goals
    go_enter Try.func5, Try.ntmps5
    go_wp2_with (go_at_call 13; refine (shown_any _).mono ?_; rintro e wz ⟨rfl, rfl⟩)
    have HB0 := Lib.hid (Below.refl wz.heap.size wz)
    go_wp2_with fail
    refine (text_any _ HN.out _).mono ?_
    rintro e x1 ⟨rfl, hb⟩
    have HB1 := Lib.hid (HB0.out.trans (hb.mono HB0.out.size))
    clear hb
    go_wp2_with fail
    refine (parse_any _ HTS.out _).mono ?_
    rintro e x2 ⟨hp, hb⟩
    have HB2 := Lib.hid (HB1.out.trans (hb.mono HB1.out.size))
    have HP2 := Lib.hid hp
    clear hb hp
    obtain ⟨m1, hw1, ht1, rfl⟩ : ∃ m, IsWord m ∧ textOf m = textOf a0 ∧ e = .returned (.tuple #[.int .i32 m, .bool true]) := by
      rcases HP2.out with h | ⟨h, _⟩
      · exact h
      · exact absurd rfl (h a0 HN.out)
    obtain rfl : m1 = a0 := textOf_inj ht1
    clear ht1 hw1
    go_wp2_with fail
    refine (parse_any _ (by first | exact HT1.out | exact HT2.out) _).mono ?_
    rintro e x3 ⟨hp, hb⟩
    have HB3 := Lib.hid (HB2.out.trans (hb.mono HB2.out.size))
    have HP3 := Lib.hid hp
    clear hb hp
    rcases HP3.out with ⟨m, hw, ht, rfl⟩ | ⟨hno, rfl⟩
    all_goals
      go_wp2_with fail
      refine (text_any _ HN.out _).mono ?_
      rintro e x4 ⟨rfl, hb⟩
      have HB4 := Lib.hid (HB3.out.trans (hb.mono HB3.out.size))
      clear hb
      go_wp2_with fail
      refine (parse_any _ HT0.out _).mono ?_
      rintro e x5 ⟨hp, hb⟩
      have HB5 := Lib.hid (HB4.out.trans (hb.mono HB4.out.size))
      have HP5 := Lib.hid hp
      clear hb hp
      obtain rfl : e = .returned (.tuple #[.int .i32 0, .bool false]) := by
        rcases HP5.out with ⟨m, _, h, _⟩ | ⟨_, h⟩
        · exact absurd h (no_nought _ _)
        · exact h
      go_wp2_with fail
      refine (text_any _ HN.out _).mono ?_
      rintro e x6 ⟨rfl, hb⟩
      have HB6 := Lib.hid (HB5.out.trans (hb.mono HB5.out.size))
      clear hb
      go_wp2_with fail
      refine (parse_any _ HTP.out _).mono ?_
      rintro e x7 ⟨hp, hb⟩
      have HB7 := Lib.hid (HB6.out.trans (hb.mono HB6.out.size))
      have HP7 := Lib.hid hp
      clear hb hp
      obtain rfl : e = .returned (.tuple #[.int .i32 0, .bool false]) := by
        rcases HP7.out with ⟨m, _, h, _⟩ | ⟨_, h⟩
        · exact absurd h (no_plus _ _)
        · exact h
      go_wp2
      go_region_with (first | (go_at_call 24; refine (text_any _ HN.out _).mono ?_; rintro e y1 ⟨rfl, hy1⟩; have hyc := fun (b o : Nat) (h : b < _) => hy1.cell (p := ⟨b, o, none⟩) h) | (go_at_call 21; refine (parse_told _ HTC.out _).mono ?_; rintro e y2 ⟨dv, db, rfl, hp, hy2⟩; have HPP := Lib.hid hp; clear hp))
      all_goals
        have b1 : Below wz.heap.size wz y1 := by
          have hsz := HB7.out.size
          first
            | exact HB7.out.drew.trans (hy1.mono hsz)
            | exact (HB7.out.alloc hsz _).drew.trans (hy1.mono (by show wz.heap.size ≤ (x7.alloc _).heap.size; rw [World.size_alloc]; omega))
        have b2 : Below wz.heap.size wz y2 := by
          have hsz := b1.size
          first
            | exact b1.trans (hy2.mono hsz)
            | exact (b1.alloc hsz _).trans (hy2.mono (by rw [World.size_alloc]; omega))
        have HB8 := Lib.hid b2
        clear b1 b2 hy1 hy2 hyc
        rcases HPP.out with ⟨rfl, hdw, hdt⟩ | ⟨rfl, rfl⟩
        · have hmd := more_digit (n := m1) (d := dv) (c := c) (hdt.trans (by rw [ByteArray.data_append]; simp [oneS]))
          obtain ⟨hc1, hc2, hdv, hnz⟩ := hmd
          have hd2 : (dv.tdiv 10 == m1) = true := beq_iff_eq.2 hdv
          have hd3 : (wrap32 (dv.tdiv 10) == m1) = true := by
            have hw := HN.out
            rw [hdv, beq_iff_eq]; unfold wrap32; omega
          have hn0 : (m1 == 0) = false := beq_eq_false_iff_ne.2 hnz
          have hn1 : (m1 != 0) = true := by rw [bne_iff_ne]; exact hnz
          have HDW := Lib.hid hdw
          clear hdt hdv hnz hdw
          first
            | (have hM := Lib.hid hw
               have hTT : (textOf m == a1.toList) = true := by rw [ByteArray.toList_eq]; exact beq_iff_eq.2 ht
               clear ht hw
               go_wp2_with fail
               refine (text_any _ hM.out _).mono ?_
               rintro e z1 ⟨rfl, hz⟩
               have HB9 := Lib.hid (HB8.out.trans (hz.mono HB8.out.size))
               clear hz
               go_wp2
               go_ret
               exact ⟨ret_bool (by first | rfl | simp), HB9.out⟩)
            | (have hM := Lib.hid hw
               have hTT : (textOf m == (a1.extract 0 20).toList) = true := by rw [ByteArray.toList_eq]; exact beq_iff_eq.2 ht
               clear ht hw
               go_wp2_with fail
               refine (text_any _ hM.out _).mono ?_
               rintro e z1 ⟨rfl, hz⟩
               have HB9 := Lib.hid (HB8.out.trans (hz.mono HB8.out.size))
               clear hz
               go_wp2
               go_ret
               exact ⟨ret_bool (by first | rfl | simp), HB9.out⟩)
            | (go_wp2
               go_ret
               exact ⟨ret_bool (by first | rfl | simp), HB8.out⟩)
        · first
            | (have hM := Lib.hid hw
               have hTT : (textOf m == a1.toList) = true := by rw [ByteArray.toList_eq]; exact beq_iff_eq.2 ht
               clear ht hw
               go_wp2_with fail
               refine (text_any _ hM.out _).mono ?_
               rintro e z1 ⟨rfl, hz⟩
               have HB9 := Lib.hid (HB8.out.trans (hz.mono HB8.out.size))
               clear hz
               go_wp2
               go_ret
               exact ⟨ret_bool (by first | rfl | simp), HB9.out⟩)
            | (have hM := Lib.hid hw
               have hTT : (textOf m == (a1.extract 0 20).toList) = true := by rw [ByteArray.toList_eq]; exact beq_iff_eq.2 ht
               clear ht hw
               go_wp2_with fail
               refine (text_any _ hM.out _).mono ?_
               rintro e z1 ⟨rfl, hz⟩
               have HB9 := Lib.hid (HB8.out.trans (hz.mono HB8.out.size))
               clear hz
               go_wp2
               go_ret
               exact ⟨ret_bool (by first | rfl | simp), HB9.out⟩)
            | (go_wp2
               go_ret
               exact ⟨ret_bool (by first | rfl | simp), HB8.out⟩)

/-! ### THE ROW's STEP: WRITTEN OUT: LEAVE IT -/
set_option maxRecDepth 100000 in
theorem lifted (os : Os) (started : os.Started) (H : Type) (enc : TypeId × Value → H) :
    ReturnsInHanded {} Try.checked os 5 .any (Rows.wordTextsSpec.pre6 enc Try.prog Try.f5 Rows.wordTextsRow.domain false) (Rows.wordTextsSpec.post enc Try.prog Try.f5 false true false false) := by
  refine returnsInHanded_of_change (C := Try.checked) own started (by kernel_rfl) Try.func5
    (ChangeSpec.witness6 (enc := enc) (C := Try.checked) false ⟨#[], #[.int .i32 0, .string ByteArray.empty, .int .u8 0], []⟩ 8 (by kernel_rfl) (by kernel_rfl) (by kernel_rfl) (by kernel_rfl)) ?_
  intro W base args ds gs before hval0 hW hcnd _
  have hval : ∀ (j : Nat) t v, Try.f5.params[j]? = some t → args[j]? = some v → Value.okWide Try.prog W .any base t v := hval0
  have hW' := hW
  obtain ⟨p, q, hA0, hV, rfl, hfz, hnd⟩ := hW
  have hA : DataW.TrodAll enc Try.prog W 0 (fun _ => true) true Try.f5.params.toList args.toList ds p := hA0
  rw [Try.params5] at hA hval
  obtain ⟨v0, vs0, d0, ds0, p0, q0, hargs, rfl, rfl, h0, r0⟩ := trodAll_cons hA
  obtain ⟨v1, vs1, d1, ds1, p1, q1, rfl, rfl, rfl, h1, r1⟩ := trodAll_cons r0
  obtain ⟨v2, vs2, d2, ds2, p2, q2, rfl, rfl, rfl, h2, r2⟩ := trodAll_cons r1
  obtain ⟨rfl, rfl, rfl⟩ := trodAll_nil r2
  obtain rfl : args = #[v0, v1, v2] := by cases args; simp_all
  obtain ⟨rfl, rfl⟩ := trodVars_none hV
  obtain ⟨a0, rfl, rfl, rfl, w0⟩ := open_int Try.underlying21 (hval 0 21 v0 rfl rfl) h0
  obtain ⟨a1, rfl, rfl, rfl, w1⟩ := open_string Try.underlying9 (hval 1 9 v1 rfl rfl) h1
  obtain ⟨a2, rfl, rfl, rfl, w2⟩ := open_int Try.underlying5 (hval 2 5 v2 rfl rfl) h2
  clear hA0 hval0
  simp only [List.append_nil] at hW'
  refine (walk a0 a1 a2 w0 w1 w2 W).mono fun e W' ⟨he, hg⟩ => ?_
  subst he
  exact ⟨_, rfl, _, _, _, [], [], [], hW', (trodAll_cons_mk (shut_bool Try.underlying4 _) trodAll_mk0), (trodAll_cons_mk (shut_int Try.underlying21 w0) (trodAll_cons_mk (shut_string Try.underlying9 w1) (trodAll_cons_mk (shut_int Try.underlying5 w2) trodAll_mk0))), rfl, hg.frame _, fun h => by cases h⟩

theorem over : Rows.wordTextsRow.holds Try.pinned (OpenSpec.ofChange Rows.wordTextsSpec) :=
  OpenClaim.holds_of_wide 5 Try.f5 rfl rfl rfl rfl rfl rfl rfl ⟨rfl, rfl, rfl, rfl, rfl⟩ rfl rfl rfl rfl rfl (by kernel_rfl) Try.func5 (by kernel_rfl)
    (of_decide_eq_true (by kernel_rfl)) (by unfold Func.isWrapper; first | (rw [if_pos (by decide +kernel)]; kernel_rfl) | (rw [if_neg (by decide +kernel)]; exact ⟨rfl, rfl⟩))
    (fun os started H enc _ => lifted os started H enc)

/-- ████ THE STATEMENT ████ -/
theorem proved : Rows.WordTextsSaid :=
  over
#print axioms proved
end Go.Proofs.Ytcmhcpdfgcmbiaa.wordTexts
