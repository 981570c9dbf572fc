/- What is proved: circles are told as the reference says, whatever moves are (law MovesCircles): for any row of moves and any row of numbers the law answers true. Conditions: none beside those that the given form carries. -/
import Derived.Test.YtdohaoomckhbgaaRows
import Derived.Test.YtdohaoomckhbgaaVOP
import Derived.Test.YtdohaoomckhbgaaVDC
import Derived.Test.YtdohaoomckhbgaaVDR
import Derived.WalkKit
import Derived.ProofKit
import Derived.OpenShut
import Derived.ShutString
import Derived.ChangeOld
import Derived.Below
namespace Go.Proofs.Ytdohaoomckhbgaa.movesCircles
open Go.ChangeShapes Go.WideShapes Go.ChangeAt Go.RowKit
open Go.Maps Go.Proofs.Ytdohaoomckhbgaa.Mem Go.Proofs.Ytdohaoomckhbgaa.Br Go.Proofs.Ytdohaoomckhbgaa.Va Go.Proofs.Ytdohaoomckhbgaa.Vm
set_option maxRecDepth 100000 in
set_option maxHeartbeats 4000000 in
theorem circLaw_any (w : World) (v0 v1 : Value) (l : List Vm.Mov) (s : List Int) (w0 : MovesAt w v0 l) (w0r : Vm.Rng l) (w1 : Ints w v1 s) :
    Calls Try.prog 8 #[v0, v1] w fun e w' => e = .returned (.bool true) ∧ Below w.heap.size w w' := by
  have w1' := w1
  have w0' := w0
  obtain ⟨A0, c0, b0, o0, rfl, x1, x2, -⟩ := w0'
  obtain ⟨A1, c1, rfl, y1, y2, -⟩ := w1'
  unfold maxLen at x2 y2
  have HL0 := Lib.hid w0
  have HI0 := Lib.hid w1
  have HRL := Lib.hid (show Vm.Rng (l.take 24) from fun m hm => w0r m (List.mem_of_mem_take hm))
  have HTL := Lib.hid (show (l.take 24).length ≤ 24 by rw [List.length_take]; omega)
  clear w0 w1 w0r
  go_enter Try.func8, Try.ntmps8
  go_wp2_with fail
  refine (awake_any _).mono ?_
  rintro e v1 ⟨rfl, hb⟩
  have HB1 := Lib.hid hb
  have HL1 := Lib.hid (MovesAt.keep HL0.out hb)
  have HI1 := Lib.hid (ints_keep HI0.out hb)
  clear hb HL0 HI0
  go_wp2_with fail
  refine (few_any v1 _ l HL1.out).mono ?_
  rintro e v2 ⟨u1, rfl, hu, hw⟩
  obtain rfl : v1 = v2 := hw.symm
  have HU1 := Lib.hid hu
  clear hu
  generalize hlt : l.take 24 = l' at *
  have HLT := Lib.hid hlt
  clear hlt
  have HGO := Lib.hid (goes_greedy l'.length (pendN l') (pendN_len l'))
  have HSM := Lib.hid (same_kept l')
  have HUK := Lib.hid (keptN_uni l')
  have HCP := Lib.hid (circs_prog HUK.out (es := (greedyN l'.length (pendN l')).1) (R := (greedyN l'.length (pendN l')).2) (by rw [pend_kept]; exact HGO.out))
  go_wp2_with fail
  refine (circC_any v1 _ l' _ _ HU1.out (by have := HTL.out; omega) HRL.out HGO.out).mono ?_
  rintro e v2 ⟨va, rfl, hga, hb⟩
  have HGA := Lib.hid hga
  have HB2 := Lib.hid (HB1.out.trans (hb.mono HB1.out.size))
  have HL2 := Lib.hid (MovesAt.keep HL1.out hb)
  have HI2 := Lib.hid (ints_keep HI1.out hb)
  clear hb hga HL1 HI1 HU1 HB1
  go_wp2_with fail
  refine (few_any v2 _ l HL2.out).mono ?_
  rintro e v3 ⟨u2, rfl, hu, hw⟩
  obtain rfl : v2 = v3 := hw.symm
  rw [HLT.out] at hu
  have HU2 := Lib.hid hu
  clear hu hw HL2
  go_wp2_with fail
  refine (circlesU_any v2 _ l' (keptN l') HU2.out (by have := HTL.out; omega) HUK.out HSM.out).mono ?_
  rintro e v3 ⟨vb, rfl, hgb, hb⟩
  rw [HCP.out] at hgb
  have HGB := Lib.hid hgb.grid
  have HGA3 := Lib.hid (OwnGrid.grid (HGA.out.below hb))
  have HB3 := Lib.hid (HB2.out.trans (hb.mono HB2.out.size))
  have HI3 := Lib.hid (ints_keep HI2.out hb)
  clear hb hgb HI2 HB2 HGA HU2
  generalize progC (greedyN l'.length (pendN l')).2 = g at *
  go_wp2_with fail
  refine (rows_same v3 _ _ g HGA3.out HGB.out).mono ?_
  rintro e v4 ⟨rfl, nq, hw⟩
  have hb : Below v3.heap.size v3 v4 := by rw [hw]; exact below_drewN (Below.refl _ _) _
  have HB4 := Lib.hid (HB3.out.trans (hb.mono HB3.out.size))
  have HI4 := Lib.hid (ints_keep HI3.out hb)
  clear hb hw HI3 HB3 HGA3 HGB HGO HSM HUK HCP HLT HTL HRL
  go_wp2_with fail
  refine (made_any v4 _ s HI4.out).mono ?_
  rintro e v5 ⟨vl, rfl, hol, hb⟩
  have HB5 := Lib.hid (HB4.out.trans (hb.mono HB4.out.size))
  have HL5 := Lib.hid (MovesAt.of_own hol)
  have HRN := Lib.hid (made_rng s)
  have hle := made_len s
  clear hb hol HI4 HB4
  generalize madeM s = m at *
  have HGO2 := Lib.hid (goes_greedy m.length (pendN m) (pendN_len m))
  have HSM2 := Lib.hid (same_kept m)
  have HUK2 := Lib.hid (keptN_uni m)
  have HCP2 := Lib.hid (circs_prog HUK2.out (es := (greedyN m.length (pendN m)).1) (R := (greedyN m.length (pendN m)).2) (by rw [pend_kept]; exact HGO2.out))
  go_wp2_with fail
  refine (circC_any v5 _ m _ _ HL5.out (by omega) HRN.out HGO2.out).mono ?_
  rintro e v6 ⟨vc, rfl, hga, hb⟩
  have HGA := Lib.hid hga
  have HB6 := Lib.hid (HB5.out.trans (hb.mono HB5.out.size))
  have HL6 := Lib.hid (MovesAt.keep HL5.out hb)
  clear hb hga HL5 HB5
  go_wp2_with fail
  refine (circlesU_any v6 _ m (keptN m) HL6.out (by omega) HUK2.out HSM2.out).mono ?_
  rintro e v7 ⟨vd, rfl, hgb, hb⟩
  rw [HCP2.out] at hgb
  have HGB := Lib.hid hgb.grid
  have HGA7 := Lib.hid (OwnGrid.grid (HGA.out.below hb))
  have HB7 := Lib.hid (HB6.out.trans (hb.mono HB6.out.size))
  clear hb hgb HB6 HGA HL6
  generalize progC (greedyN m.length (pendN m)).2 = g2 at *
  go_wp2_with fail
  refine (rows_same v7 _ _ g2 HGA7.out HGB.out).mono ?_
  rintro e v8 ⟨rfl, nq2, hw⟩
  have hb : Below v7.heap.size v7 v8 := by rw [hw]; exact below_drewN (Below.refl _ _) _
  have HB8 := Lib.hid (HB7.out.trans (hb.mono HB7.out.size))
  clear hb hw HB7 HGA7 HGB HGO2 HSM2 HUK2 HCP2 HRN
  go_wp2
  go_ret
  exact ⟨rfl, HB8.out⟩
set_option linter.unusedVariables false
set_option linter.constructorNameAsVariable false

theorem own : ownKnob Try.prog.godebug = none := by kernel_rfl
theorem laidOut : laidOutB Try.prog = true := by kernel_rfl
theorem cellsI : Try.prog.cellsOf 3 = 1 := by kernel_rfl
theorem nums_open {H : Type} {enc : TypeId × Value → H} {W : World} {base : Nat} {held : Bool} {fuel : Nat} {v : Value} {x : DataW H × List MemPlace}
    (h : DataW.trod enc Try.prog W base (fun _ => true) held fuel 23 [v] = some x) : ∃ l, Ints W v l := by
  rcases open_ints Try.underlying23 Try.underlying3 cellsI h with ⟨e, _⟩ | ⟨a, len, cap, zs, e, _, hl, hm, hz, _, hcell, _⟩
  · injection e with e _
    subst e
    exact ⟨[], none, 0, rfl, Nat.le_refl _, by unfold maxLen; omega, fun k hk => absurd hk (by simp)⟩
  · injection e with e _
    subst e
    simp only [if_true] at hz
    have e : (zs.take len).length = len := by rw [List.length_take]; omega
    refine ⟨zs.take len, some a, cap, by rw [e], by omega, hm, fun k hk => ⟨a, rfl, ?_⟩⟩
    have hk2 : k < zs.length := by omega
    rw [hcell k hk2, List.getElem_take, List.getD_eq_getElem?_getD, List.getElem?_eq_getElem hk2]; rfl
/-! ### THE ROW's STEP: WRITTEN OUT: LEAVE IT -/
set_option maxRecDepth 100000 in
theorem lifted (os : Os) (started : os.Started) (H : Type) (enc : TypeId × Value → H) :
    ReturnsInHanded {} Try.checked os 8 .any (Rows.movesCirclesSpec.pre6 enc Try.prog Try.f8 Rows.movesCirclesRow.domain false) (Rows.movesCirclesSpec.post enc Try.prog Try.f8 false true false false) := by
  refine returnsInHanded_of_change (C := Try.checked) own started (by kernel_rfl) Try.func8
    (ChangeSpec.witness6 (enc := enc) (C := Try.checked) false ⟨#[], #[.slice none 0 0, .slice none 0 0], []⟩ 8 (by kernel_rfl) (by kernel_rfl) (by kernel_rfl) (by kernel_rfl)) ?_
  intro W base args ds gs before hval0 hW hcnd _
  have hval : ∀ (j : Nat) t v, Try.f8.params[j]? = some t → args[j]? = some v → Value.okWide Try.prog W .any base t v := hval0
  have hW' := hW
  obtain ⟨p, q, hA0, hV, rfl, hfz, hnd⟩ := hW
  have hA : DataW.TrodAll enc Try.prog W 0 (fun _ => true) true Try.f8.params.toList args.toList ds p := hA0
  rw [Try.params8] at hA hval
  obtain ⟨v0, vs0, d0, ds0, p0, q0, hargs, rfl, rfl, h0, r0⟩ := trodAll_cons hA
  obtain ⟨v1, vs1, d1, ds1, p1, q1, rfl, rfl, rfl, h1, r1⟩ := trodAll_cons r0
  obtain ⟨rfl, rfl, rfl⟩ := trodAll_nil r1
  obtain rfl : args = #[v0, v1] := by cases args; simp_all
  obtain ⟨rfl, rfl⟩ := trodVars_none hV
  have k0 := h0
  have lt0 : ∀ x ∈ p0, x.block < W.heap.size := by obtain ⟨m, hm⟩ := k0; exact DataW.trod_lt m _ _ _ hm
  have k1 := h1
  have lt1 : ∀ x ∈ p1, x.block < W.heap.size := by obtain ⟨m, hm⟩ := k1; exact DataW.trod_lt m _ _ _ hm
  obtain ⟨l, w0, w0r⟩ : ∃ l : List Vm.Mov, MovesAt W v0 l ∧ Vm.Rng l := by
    obtain ⟨a0, n0, c0, rfl⟩ := okWide_slice Try.underlying22 (hval 0 22 v0 rfl rfl)
    obtain ⟨m, hm⟩ := h0
    exact moves_open hm
  obtain ⟨s, w1⟩ : ∃ l, Ints W v1 l := by
    obtain ⟨a0, n0, c0, rfl⟩ := okWide_slice Try.underlying23 (hval 1 23 v1 rfl rfl)
    obtain ⟨m, hm⟩ := h1
    exact nums_open hm
  clear hA0 hval0
  refine (circLaw_any W v0 v1 l s w0 w0r w1).mono fun e W' ⟨he, bel⟩ => ?_
  subst he
  exact ⟨_, rfl, _, _, _, [], _, [], hW', trodAll_mk1 (shut_bool Try.underlying4 _), (trodAll_cons_mk (Below.trod laidOut (by kernel_rfl) (of_decide_eq_true (by kernel_rfl)) k0 bel lt0) (trodAll_cons_mk (Below.trod laidOut (by kernel_rfl) (of_decide_eq_true (by kernel_rfl)) k1 bel lt1) trodAll_mk0)), rfl, bel.frame _, fun h => by cases h⟩

theorem over : Rows.movesCirclesRow.holds Try.pinned (OpenSpec.ofChange Rows.movesCirclesSpec) :=
  OpenClaim.holds_of_wide 8 Try.f8 rfl rfl rfl rfl rfl rfl rfl ⟨rfl, rfl, rfl, rfl, rfl⟩ rfl rfl rfl rfl rfl (by kernel_rfl) Try.func8 (by kernel_rfl)
    (of_decide_eq_true (by kernel_rfl)) (by unfold Func.isWrapper; first | (rw [if_pos (by decide +kernel)]; kernel_rfl) | (rw [if_neg (by decide +kernel)]; exact ⟨rfl, rfl⟩))
    (fun os started H enc _ => lifted os started H enc)

/-- ████ THE STATEMENT ████ -/
theorem proved : Rows.MovesCirclesSaid := over
#print axioms proved
end Go.Proofs.Ytdohaoomckhbgaa.movesCircles
