/- What is proved: moves are put in an order, or not, as the reference says (law MovesOrders): for any row of moves, any row of numbers and any two numbers the law answers true. Conditions: none beside those that the given form carries. -/
import Derived.Test.YtdohaoomckhbgaaRows
import Derived.Test.YtdohaoomckhbgaaVOP
import Derived.Test.YtdohaoomckhbgaaVEH
import Derived.WalkKit
import Derived.ProofKit
import Derived.OpenShut
import Derived.ShutString
import Derived.ChangeOld
import Derived.Below
namespace Go.Proofs.Ytdohaoomckhbgaa.movesOrders
open Go.ChangeShapes Go.WideShapes Go.ChangeAt Go.RowKit
open Go.Maps Go.Proofs.Ytdohaoomckhbgaa.Mem Go.Proofs.Ytdohaoomckhbgaa.Br Go.Proofs.Ytdohaoomckhbgaa.Va Go.Proofs.Ytdohaoomckhbgaa.Vm
set_option maxRecDepth 100000 in
set_option maxHeartbeats 4000000 in
theorem ordLaw_any (w : World) (v0 v1 : Value) (q0 q1 : Int) (l : List Vm.Mov) (s : List Int) (w0 : MovesAt w v0 l) (w0r : Vm.Rng l) (w1 : Ints w v1 s) (hq : InI q1) :
    Calls Try.prog 3 #[v0, v1, .agg #[.int .i64 q0, .int .i64 q1]] w fun e w' => e = .returned (.bool true) ∧ Below w.heap.size w w' := by
  obtain ⟨W0, hW0⟩ : ∃ V, w.alloc (.cells #[.int .i64 q0, .int .i64 q1] 24) = V := ⟨_, rfl⟩
  have vb0 : Below w.heap.size w W0 := by rw [← hW0]; exact (Below.refl _ _).alloc (Nat.le_refl _) _
  have vs0 : Str W0 w.heap.size 24 [.int .i64 q0, .int .i64 q1] := by rw [← hW0]; exact World.alloc_heap_new w _
  obtain ⟨b5, hb5⟩ : ∃ b, w.heap.size = b := ⟨_, rfl⟩
  have HB0 := Lib.hid vb0
  have HX0 := Lib.hid (show Str W0 b5 24 [.int .i64 q0, .int .i64 q1] by rw [← hb5]; exact vs0)
  have HL0 := Lib.hid (MovesAt.keep w0 vb0)
  have HI0 := Lib.hid (ints_keep w1 vb0)
  have HRL := Lib.hid (show Vm.Rng (l.take 24) from fun m hm => w0r m (List.mem_of_mem_take hm))
  have HTL := Lib.hid (show (l.take 24).length ≤ 24 by rw [List.length_take]; omega)
  have HQ := Lib.hid hq
  clear w0 w1 w0r vb0 vs0 hq
  go_enter Try.func3, Try.ntmps3
  go_wp2_with fail
  clear hW0
  refine (awake_any _).mono ?_
  rintro e v1 ⟨rfl, hb⟩
  have HB1 := Lib.hid (HB0.out.trans (hb.mono HB0.out.size))
  have HX1 := Lib.hid (HX0.out.below hb)
  have HL1 := Lib.hid (MovesAt.keep HL0.out hb)
  have HI1 := Lib.hid (ints_keep HI0.out hb)
  clear hb HL0 HI0 HX0 HB0
  go_wp2_with fail
  refine (made_any v1 _ s HI1.out).mono ?_
  rintro e v2 ⟨vl, rfl, hol, hb⟩
  have HB2 := Lib.hid (HB1.out.trans (hb.mono HB1.out.size))
  have HX2 := Lib.hid (HX1.out.below hb)
  have HL2 := Lib.hid (MovesAt.keep HL1.out hb)
  have HM2 := Lib.hid (MovesAt.of_own hol)
  have HRN := Lib.hid (made_rng s)
  have hle := made_len s
  generalize madeM s = m at *
  have c0 : v2.cell? ⟨b5, 0, none⟩ = some (.int .i64 q0) := HX2.out.cell 0
  have c1 : v2.cell? ⟨b5, 1, none⟩ = some (.int .i64 q1) := HX2.out.cell 1
  clear hb hol HI1 HL1 HX1 HB1

  go_wp2_with fail
  refine region_heldT_wp (fun w' => w'.cell? ⟨b5, 0, none⟩ = some (.int .i64 q0) ∧ w'.cell? ⟨b5, 1, none⟩ = some (.int .i64 q1)) [0, 2, 3, 4, 5, 7, 8, 9, 10, 11, 12, 14] [0, 2, 3, 4, 5, 1, 6, 7, 8, 9, 10, 11, 12, 13, 14, 15] 15 (by kernel_rfl) (by kernel_rfl) (by kernel_rfl) (by kernel_rfl) rfl (by intro c a d v w h; cases d <;> exact h) ⟨c0, c1⟩ ?_
  refine walkH_still _ ?g0 rfl rfl rfl ?gy0 ?_
  case gy0 => intro w hS; go_simp; first | done | with_reducible rfl
  simp only [Act.put]
  refine walkH_still _ ?g2 rfl rfl rfl ?gy2 ?_
  case gy2 => intro w hS; go_simp; first | done | with_reducible rfl
  simp only [Act.put]
  refine walkH_still _ ?g3 rfl rfl rfl ?gy3 ?_
  case gy3 => intro w hS; go_simp; first | done | with_reducible rfl
  simp only [Act.put]
  refine walkH_still _ ?g4 rfl rfl rfl ?gy4 ?_
  case gy4 => intro w hS; go_simp; first | done | with_reducible rfl
  simp only [Act.put]
  refine walkH_still _ ?g5 rfl rfl rfl ?gy5 ?_
  case gy5 => intro w hS; go_simp; first | done | with_reducible rfl
  simp only [Act.put]
  try simp only [List.setIfInBounds_toArray, List.set_cons_zero, List.set_cons_succ]
  refine walkHd _ rfl rfl ?_
  go_wp2_with fail
  refine (few_any v2.drew _ l HL2.out).mono ?_
  rintro e v3 ⟨u1, rfl, hu, hw⟩
  obtain rfl : v2.drew = v3 := hw.symm
  have HU := Lib.hid hu
  clear hu hw
  go_wp2_with fail
  refine behindH (Or.inl ⟨c0, c1⟩) ?_
  try simp only [List.setIfInBounds_toArray, List.set_cons_zero, List.set_cons_succ]
  refine walkHd _ rfl rfl ?_
  go_wp2_with fail
  refine (tells_any v2.drew _ _ q0 q1 HU.out (by have := HTL.out; omega) HRL.out HQ.out).mono ?_
  rintro e v4 ⟨rfl, hb⟩
  have hb : Below v2.heap.size v2 v4 := (Below.refl _ v2).drew.trans hb
  have HB4 := Lib.hid (HB2.out.trans (hb.mono HB2.out.size))
  have hx4 := HX2.out.below hb
  have HM4 := Lib.hid (MovesAt.keep HM2.out hb)
  have d0 : v4.cell? ⟨b5, 0, none⟩ = some (.int .i64 q0) := hx4.cell 0
  have d1 : v4.cell? ⟨b5, 1, none⟩ = some (.int .i64 q1) := hx4.cell 1
  clear hb hx4
  go_wp2_with fail
  refine behindH (Or.inl ⟨d0, d1⟩) ?_
  refine walkH_still _ ?h7 rfl rfl (by kernel_rfl) ?hy7 ?_
  case hy7 => intro w hS; go_simp; first | done | with_reducible rfl
  simp only [Act.put]
  refine walkH_still _ ?h8 rfl rfl (by kernel_rfl) ?hy8 ?_
  case hy8 => intro w hS; go_simp; first | done | with_reducible rfl
  simp only [Act.put]
  refine walkH_still _ ?h9 rfl rfl (by kernel_rfl) ?hy9 ?_
  case hy9 => intro w hS; go_simp; first | done | with_reducible rfl
  simp only [Act.put]
  refine walkH_still _ ?h10 rfl rfl (by kernel_rfl) ?hy10 ?_
  case hy10 => intro w hS; go_simp; first | done | with_reducible rfl
  simp only [Act.put]
  refine walkH_still _ ?h11 rfl rfl (by kernel_rfl) ?hy11 ?_
  case hy11 => intro w hS; go_simp; first | done | with_reducible rfl
  simp only [Act.put]
  refine walkH_still _ ?h12 rfl rfl (by kernel_rfl) ?hy12 ?_
  case hy12 => intro w hS; go_simp; first | done | with_reducible rfl
  simp only [Act.put]
  try simp only [List.setIfInBounds_toArray, List.set_cons_zero, List.set_cons_succ]
  refine walkHd _ rfl rfl ?_
  go_wp2_with fail
  refine (tells_any v4 _ m q0 q1 HM4.out (by omega) HRN.out HQ.out).mono ?_
  rintro e v5 ⟨rfl, hb⟩
  have HB5 := Lib.hid (HB4.out.trans (hb.mono HB4.out.size))
  have hx5 : v5.cell? ⟨b5, 0, none⟩ = some (.int .i64 q0) := cell_keep hb (Nat.le_refl _) d0
  have hx6 : v5.cell? ⟨b5, 1, none⟩ = some (.int .i64 q1) := cell_keep hb (Nat.le_refl _) d1
  have HM5 := Lib.hid (MovesAt.keep HM4.out hb)
  clear hb
  go_wp2_with fail
  refine behindH (Or.inl ⟨hx5, hx6⟩) ?_
  refine walkH_still _ ?h14 rfl rfl (by kernel_rfl) ?hy14 ?_
  case hy14 => intro w hS; go_simp; first | done | with_reducible rfl
  simp only [Act.put]
  try simp only [List.setIfInBounds_toArray, List.set_cons_zero, List.set_cons_succ]
  refine walkHd _ rfl rfl ?_
  go_wp2_with fail
  refine behindH (Or.inr rfl) (walkH_nil ?_)
  go_wp2_with fail
  refine (tells_any v5 _ m 15 10 HM5.out (by omega) HRN.out (by unfold InI; omega)).mono ?_
  rintro e v6 ⟨rfl, hb⟩
  have HB6 := Lib.hid (HB5.out.trans (hb.mono HB5.out.size))
  have HM6 := Lib.hid (MovesAt.keep HM5.out hb)
  clear hb
  go_wp2_with fail
  refine (tells_any v6 _ m (-1) 10 HM6.out (by omega) HRN.out (by unfold InI; omega)).mono ?_
  rintro e v7 ⟨rfl, hb⟩
  have HB7 := Lib.hid (HB6.out.trans (hb.mono HB6.out.size))
  have HM7 := Lib.hid (MovesAt.keep HM6.out hb)
  clear hb
  go_wp2_with fail
  refine (tells_any v7 _ m 15 (-1) HM7.out (by omega) HRN.out (by unfold InI; omega)).mono ?_
  rintro e v8 ⟨rfl, hb⟩
  have HB8 := Lib.hid (HB7.out.trans (hb.mono HB7.out.size))
  have HM8 := Lib.hid (MovesAt.keep HM7.out hb)
  clear hb
  go_wp2_with fail
  refine (tells_any v8 _ m (-1) (-1) HM8.out (by omega) HRN.out (by unfold InI; omega)).mono ?_
  rintro e v9 ⟨rfl, hb⟩
  have HB9 := Lib.hid (HB8.out.trans (hb.mono HB8.out.size))
  have HM9 := Lib.hid (MovesAt.keep HM8.out hb)
  clear hb
  go_wp2
  go_ret
  exact ⟨rfl, HB9.out⟩
set_option linter.unusedVariables false
set_option linter.constructorNameAsVariable false

theorem own : ownKnob Try.prog.godebug = none := by kernel_rfl
theorem laidOut : laidOutB Try.prog = true := by kernel_rfl
theorem cellsI : Try.prog.cellsOf 3 = 1 := by kernel_rfl
theorem cells2 : Try.prog.cellsOf 24 = 2 := by kernel_rfl
/-- An array of two numbers that came in. -/
theorem open_two {H : Type} {enc : TypeId × Value → H} {W : World} {base : Nat} {sp : Nat → Bool} {held : Bool} {r : Reach} {b0 : Nat} {v : Value} {d : DataW H} {ps : List MemPlace}
    (hv : Value.okWide Try.prog W r b0 24 v) (hd : DataW.Trod enc Try.prog W base sp held 24 v d ps) : ∃ x y : Int, v = .agg #[.int .i64 x, .int .i64 y] ∧ Vm.InI y := by
  simp only [Value.okWide, Try.underlying24] at hv
  obtain ⟨xs, rfl, hn, _⟩ := hv
  rw [cells2] at hn
  obtain ⟨fuel, hf⟩ := hd
  cases fuel with
  | zero => simp [DataW.trod] at hf
  | succ m =>
    rw [DataW.trod_step] at hf
    unfold DataW.trodStep at hf
    simp only [Try.underlying24, Value.cells, cells2, cellsI] at hf
    obtain ⟨l⟩ := xs
    match l, hn with
    | [p, q], _ =>
      simp [List.range_succ, List.mapM_cons] at hf
      rcases e1 : DataW.trod enc Try.prog W base sp held m 3 [p] with _ | y1
      · rw [e1] at hf; simp at hf
      · rcases e2 : DataW.trod enc Try.prog W base sp held m 3 [q] with _ | y2
        · rw [e1, e2] at hf; simp at hf
        · obtain ⟨x, hx, _⟩ := DataW.trod_int Try.underlying3 e1
          obtain ⟨y, hy, _, hwf⟩ := DataW.trod_int Try.underlying3 e2
          injection hx with hx
          injection hy with hy
          exact ⟨x, y, by rw [hx, hy], bounds_i64 hwf⟩
theorem nums_open {H : Type} {enc : TypeId × Value → H} {W : World} {base : Nat} {held : Bool} {fuel : Nat} {v : Value} {x : DataW H × List MemPlace}
    (h : DataW.trod enc Try.prog W base (fun _ => true) held fuel 23 [v] = some x) : ∃ l, Ints W v l := by
  rcases open_ints Try.underlying23 Try.underlying3 cellsI h with ⟨e, _⟩ | ⟨a, len, cap, zs, e, _, hl, hm, hz, _, hcell, _⟩
  · injection e with e _
    subst e
    exact ⟨[], none, 0, rfl, Nat.le_refl _, by unfold maxLen; omega, fun k hk => absurd hk (by simp)⟩
  · injection e with e _
    subst e
    simp only [if_true] at hz
    have e : (zs.take len).length = len := by rw [List.length_take]; omega
    refine ⟨zs.take len, some a, cap, by rw [e], by omega, hm, fun k hk => ⟨a, rfl, ?_⟩⟩
    have hk2 : k < zs.length := by omega
    rw [hcell k hk2, List.getElem_take, List.getD_eq_getElem?_getD, List.getElem?_eq_getElem hk2]; rfl
/-! ### THE ROW's STEP: WRITTEN OUT: LEAVE IT -/
set_option maxRecDepth 100000 in
theorem lifted (os : Os) (started : os.Started) (H : Type) (enc : TypeId × Value → H) :
    ReturnsInHanded {} Try.checked os 3 .any (Rows.movesOrdersSpec.pre6 enc Try.prog Try.f3 Rows.movesOrdersRow.domain false) (Rows.movesOrdersSpec.post enc Try.prog Try.f3 false true false false) := by
  refine returnsInHanded_of_change (C := Try.checked) own started (by kernel_rfl) Try.func3
    (ChangeSpec.witness6 (enc := enc) (C := Try.checked) false ⟨#[], #[.slice none 0 0, .slice none 0 0, .agg #[.int .i64 0, .int .i64 0]], []⟩ 8 (by kernel_rfl) (by kernel_rfl) (by kernel_rfl) (by kernel_rfl)) ?_
  intro W base args ds gs before hval0 hW hcnd _
  have hval : ∀ (j : Nat) t v, Try.f3.params[j]? = some t → args[j]? = some v → Value.okWide Try.prog W .any base t v := hval0
  have hW' := hW
  obtain ⟨p, q, hA0, hV, rfl, hfz, hnd⟩ := hW
  have hA : DataW.TrodAll enc Try.prog W 0 (fun _ => true) true Try.f3.params.toList args.toList ds p := hA0
  rw [Try.params3] at hA hval
  obtain ⟨v0, vs0, d0, ds0, p0, q0, hargs, rfl, rfl, h0, r0⟩ := trodAll_cons hA
  obtain ⟨v1, vs1, d1, ds1, p1, q1, rfl, rfl, rfl, h1, r1⟩ := trodAll_cons r0
  obtain ⟨v2, vs2, d2, ds2, p2, q2, rfl, rfl, rfl, h2, r2⟩ := trodAll_cons r1
  obtain ⟨rfl, rfl, rfl⟩ := trodAll_nil r2
  obtain rfl : args = #[v0, v1, v2] := by cases args; simp_all
  obtain ⟨rfl, rfl⟩ := trodVars_none hV
  have k0 := h0
  have lt0 : ∀ x ∈ p0, x.block < W.heap.size := by obtain ⟨m, hm⟩ := k0; exact DataW.trod_lt m _ _ _ hm
  have k1 := h1
  have lt1 : ∀ x ∈ p1, x.block < W.heap.size := by obtain ⟨m, hm⟩ := k1; exact DataW.trod_lt m _ _ _ hm
  have k2 := h2
  have lt2 : ∀ x ∈ p2, x.block < W.heap.size := by obtain ⟨m, hm⟩ := k2; exact DataW.trod_lt m _ _ _ hm
  obtain ⟨x2, y2, rfl, w2⟩ := open_two (hval 2 24 v2 rfl rfl) h2
  obtain ⟨l, w0, w0r⟩ : ∃ l : List Vm.Mov, MovesAt W v0 l ∧ Vm.Rng l := by
    obtain ⟨a0, n0, c0, rfl⟩ := okWide_slice Try.underlying22 (hval 0 22 v0 rfl rfl)
    obtain ⟨m, hm⟩ := h0
    exact moves_open hm
  obtain ⟨s, w1⟩ : ∃ l, Ints W v1 l := by
    obtain ⟨a0, n0, c0, rfl⟩ := okWide_slice Try.underlying23 (hval 1 23 v1 rfl rfl)
    obtain ⟨m, hm⟩ := h1
    exact nums_open hm
  clear hA0 hval0
  refine (ordLaw_any W v0 v1 x2 y2 l s w0 w0r w1 w2).mono fun e W' ⟨he, bel⟩ => ?_
  subst he
  exact ⟨_, rfl, _, _, _, [], _, [], hW', trodAll_mk1 (shut_bool Try.underlying4 _), (trodAll_cons_mk (Below.trod laidOut (by kernel_rfl) (of_decide_eq_true (by kernel_rfl)) k0 bel lt0) (trodAll_cons_mk (Below.trod laidOut (by kernel_rfl) (of_decide_eq_true (by kernel_rfl)) k1 bel lt1) (trodAll_cons_mk (Below.trod laidOut (by kernel_rfl) (of_decide_eq_true (by kernel_rfl)) k2 bel lt2) trodAll_mk0))), rfl, bel.frame _, fun h => by cases h⟩

theorem over : Rows.movesOrdersRow.holds Try.pinned (OpenSpec.ofChange Rows.movesOrdersSpec) :=
  OpenClaim.holds_of_wide 3 Try.f3 rfl rfl rfl rfl rfl rfl rfl ⟨rfl, rfl, rfl, rfl, rfl⟩ rfl rfl rfl rfl rfl (by kernel_rfl) Try.func3 (by kernel_rfl)
    (of_decide_eq_true (by kernel_rfl)) (by unfold Func.isWrapper; first | (rw [if_pos (by decide +kernel)]; kernel_rfl) | (rw [if_neg (by decide +kernel)]; exact ⟨rfl, rfl⟩))
    (fun os started H enc _ => lifted os started H enc)

/-- ████ THE STATEMENT ████ -/
theorem proved : Rows.MovesOrdersSaid := over
#print axioms proved
end Go.Proofs.Ytdohaoomckhbgaa.movesOrders
