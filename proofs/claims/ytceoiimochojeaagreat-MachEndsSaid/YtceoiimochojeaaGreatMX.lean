/- Stage 7: what the law's goes answers. -/
import Derived.Test.YtceoiimochojeaaGreatMC
namespace Go.Proofs.YtceoiimochojeaaGreat.Mc
open Go.ChangeShapes Go.WideShapes Go.ChangeAt Go.RowKit Go.Proofs.YtceoiimochojeaaGreat.Mem Go.Proofs.YtceoiimochojeaaGreat.Kc Go.Proofs.YtceoiimochojeaaGreat.Pl Go.Proofs.YtceoiimochojeaaGreat.Mw Go.Proofs.YtceoiimochojeaaGreat.Gr
set_option linter.unusedVariables false
set_option linter.unusedSimpArgs false
set_option maxRecDepth 100000 in
set_option maxHeartbeats 4000000 in
theorem goesL_any (w : World) (op : Int) (many : Nat) (hm : many ≤ 100) (v : Value) (l : List Int) (hv : WordsAt w v l) (hr : ∀ r, InW (getP l r)) :
    Calls Tryz.prog 34 #[.int .i64 op, .int .i64 many, v] w (fun en w' => en = .returned (.int .i64 (goesF op (getP l 0) (getP l 1) (many + 1))) ∧ Below w.heap.size w w') := by
  have HV := Lib.hid hv
  have HR := Lib.hid hr
  obtain ⟨vA, vc, rfl, _, _, _⟩ := hv
  obtain ⟨i0, hi, hz0, hz1, hz2⟩ := info_parts info_int
  have HI := Lib.hid hi
  have HZ0 := Lib.hid hz0
  have HZ1 := Lib.hid hz1
  have HZ2 := Lib.hid hz2
  clear hr hi hz0 hz1 hz2
  obtain ⟨m1, hm1⟩ : ∃ m1 : Nat, many + 1 = m1 := ⟨_, rfl⟩
  have hmi : (many : Int) + 1 = (m1 : Int) := by omega
  rw [hm1]
  have hm2 : m1 ≤ 101 := by omega
  clear hm1
  go_enter Tryz.func34, Tryz.ntmps34
  go_wp2_with (at_make; refine wpList_make_full _ rfl _ _ 38 rfl w.heap.size 3 i0 (.int .i64 0) 1 Tryz.underlying38 HI.out HZ0.out HZ1.out .i64 .i64 _ _ m1 rfl rfl rfl rfl ?c1 ?c2 ?c3 ?_)


  case c1 => rw [HZ2.out]; omega
  case c2 => unfold maxLen; omega
  case c3 => exact Nat.le_refl _
  intro w1 hown hgr
  have hb1 : Below w.heap.size w w1 := (Below.refl _ _).grown hgr (Nat.le_refl _) (fun j hj => by cases hj)
  have HV1 := Lib.hid (HV.out.below hb1)
  have HB1 := Lib.hid hb1
  clear hown hgr hb1
  go_wp2_with fail
  refine (goes_any w1 ⟨op, 0, 1, [], 0⟩ _ m1 m1 _ l HV1.out (by omega) HR.out).mono ?_
  rintro e w2 ⟨rfl, hb2⟩
  have HB2 := Lib.hid (HB1.out.trans (hb2.mono HB1.out.size))
  clear hb2
  go_wp2_with fail
  go_ret
  exact ⟨rfl, HB2.out⟩
end Go.Proofs.YtceoiimochojeaaGreat.Mc
