/- What is proved: whether one instruction, and one end, may be, and which places they take, make and spoil, are as the reference says (law PhysPieces): for any instruction, end and numbers of registers, slots and blocks the law answers true. Conditions: none beside those that the given form carries. -/
import Derived.Test.YtmbecjpooeofgaaRows
import Derived.Test.YtmbecjpooeofgaaQV
import Derived.WalkKit
import Derived.ProofKit
import Derived.OpenShut
import Derived.ShutString
import Derived.ChangeOld
import Derived.Below
namespace Go.Proofs.Ytmbecjpooeofgaa.physPieces
open Go.ChangeShapes Go.WideShapes Go.ChangeAt Go.RowKit
open Go.Maps Go.Proofs.Ytmbecjpooeofgaa.Mem Go.Proofs.Ytmbecjpooeofgaa.Kc Go.Proofs.Ytmbecjpooeofgaa.Br Go.Proofs.Ytmbecjpooeofgaa.Pl Go.Proofs.Ytmbecjpooeofgaa.Gr Go.Proofs.Ytmbecjpooeofgaa.Mw Go.Proofs.Ytmbecjpooeofgaa.Mc Go.Proofs.Ytmbecjpooeofgaa.Ph
set_option linter.unusedVariables false
set_option linter.constructorNameAsVariable false

theorem own : ownKnob Try.prog.godebug = none := by kernel_rfl
theorem laidOut : laidOutB Try.prog = true := by kernel_rfl
theorem cellsH : Try.prog.cellsOf 24 = 8 := by kernel_rfl
theorem cellsW : Try.prog.cellsOf 21 = 1 := by kernel_rfl
theorem cellsI : Try.prog.cellsOf 3 = 1 := by kernel_rfl
theorem cellsS : Try.prog.cellsOf 22 = 1 := by kernel_rfl
theorem cells3 : Try.prog.cellsOf 27 = 3 := by kernel_rfl
theorem cellsE : Try.prog.cellsOf 26 = 5 := by kernel_rfl
theorem nums_open {H : Type} {enc : TypeId × Value → H} {W : World} {base : Nat} {held : Bool} {fuel : Nat} {v : Value} {x : DataW H × List MemPlace}
    (h : DataW.trod enc Try.prog W base (fun _ => true) held fuel 22 [v] = some x) : ∃ l, Ints W v l := by
  rcases open_ints Try.underlying22 Try.underlying3 cellsI h with ⟨e, _⟩ | ⟨a, len, cap, zs, e, _, hl, hm, hz, _, hcell, _⟩
  · injection e with e _
    subst e
    exact ⟨[], none, 0, rfl, Nat.le_refl _, by unfold maxLen; omega, fun k hk => absurd hk (by simp)⟩
  · injection e with e _
    subst e
    simp only [if_true] at hz
    have e : (zs.take len).length = len := by rw [List.length_take]; omega
    refine ⟨zs.take len, some a, cap, by rw [e], by omega, hm, fun k hk => ⟨a, rfl, ?_⟩⟩
    have hk2 : k < zs.length := by omega
    rw [hcell k hk2, List.getElem_take, List.getD_eq_getElem?_getD, List.getElem?_eq_getElem hk2]; rfl
theorem array5 {α : Type} {cs : Array α} (h : cs.size = 5) : ∃ c0 c1 c2 c3 c4, cs = #[c0, c1, c2, c3, c4] := by
  obtain ⟨l⟩ := cs
  match l, h with
  | [c0, c1, c2, c3, c4], _ => exact ⟨c0, c1, c2, c3, c4, rfl⟩
set_option maxRecDepth 100000 in
/-- Three numbers that came in. -/
theorem open_three {H : Type} {enc : TypeId × Value → H} {W : World} {base : Nat} {sp : Nat → Bool} {held : Bool} {r : Reach} {b0 : Nat} {v : Value} {d : DataW H} {ps : List MemPlace}
    (hv : Value.okWide Try.prog W r b0 27 v) (hd : DataW.Trod enc Try.prog W base sp held 27 v d ps) : ∃ x y z : Int, v = .agg #[.int .i64 x, .int .i64 y, .int .i64 z] := by
  simp only [Value.okWide, Try.underlying27] at hv
  obtain ⟨xs, rfl, hn, _⟩ := hv
  rw [cells3] at hn
  obtain ⟨fuel, hf⟩ := hd
  cases fuel with
  | zero => simp [DataW.trod] at hf
  | succ m =>
    rw [DataW.trod_step] at hf
    unfold DataW.trodStep at hf
    simp only [Try.underlying27, Value.cells, cells3, cellsI] at hf
    obtain ⟨l⟩ := xs
    match l, hn with
    | [p, q, u], _ =>
      simp [List.range_succ, List.mapM_cons] at hf
      rcases e1 : DataW.trod enc Try.prog W base sp held m 3 [p] with _ | y1
      · rw [e1] at hf; simp at hf
      · rcases e2 : DataW.trod enc Try.prog W base sp held m 3 [q] with _ | y2
        · rw [e1, e2] at hf; simp at hf
        · rcases e3 : DataW.trod enc Try.prog W base sp held m 3 [u] with _ | y3
          · rw [e1, e2, e3] at hf; simp at hf
          · obtain ⟨x, hx, _⟩ := DataW.trod_int Try.underlying3 e1
            obtain ⟨y, hy, _⟩ := DataW.trod_int Try.underlying3 e2
            obtain ⟨z, hz, _⟩ := DataW.trod_int Try.underlying3 e3
            injection hx with hx
            injection hy with hy
            injection hz with hz
            exact ⟨x, y, z, by rw [hx, hy, hz]⟩
set_option maxRecDepth 100000 in
/-- An end that came in. -/
theorem open_end {H : Type} {enc : TypeId × Value → H} {W : World} {base : Nat} {held : Bool} {r : Reach} {b0 : Nat} {v : Value} {d : DataW H} {ps : List MemPlace}
    (hv : Value.okWide Try.prog W r b0 26 v) (hd : DataW.Trod enc Try.prog W base (fun _ => true) held 26 v d ps) :
    ∃ (e : PEnd) (E : Option Addr) (ek : Nat), v = .agg #[.int .i64 e.op, .int .i64 e.a, .int .i64 e.b, .slice E e.to.length ek, .int .i32 e.imm] ∧ Ints W (.slice E e.to.length ek) e.to := by
  obtain ⟨cs, rfl, hsz⟩ := okWide_struct Try.underlying26 hv
  obtain ⟨c0, c1, c2, c3, c4, rfl⟩ := array5 (hsz.trans cellsE)
  obtain ⟨fuel, hf⟩ := hd
  obtain ⟨xs, n, _, _, hl, hlen, hx⟩ := DataW.trod_struct Try.underlying26 hf
  match xs, hlen with
  | [y0, y1, y2, y3, y4], _ =>
    have h0 := hx 0 _ rfl
    have h1 := hx 1 _ rfl
    have h2 := hx 2 _ rfl
    have h3 := hx 3 _ rfl
    have h4 := hx 4 _ rfl
    simp [Value.cells, cellsI, cellsW, cellsS] at h0 h1 h2 h3 h4
    obtain ⟨q0, e0, _⟩ := DataW.trod_int Try.underlying3 h0
    obtain ⟨q1, e1, _⟩ := DataW.trod_int Try.underlying3 h1
    obtain ⟨q2, e2, _⟩ := DataW.trod_int Try.underlying3 h2
    obtain ⟨l3, w3⟩ := nums_open h3
    obtain ⟨q4, e4, _⟩ := DataW.trod_int Try.underlying21 h4
    injection e0 with e0 _
    injection e1 with e1 _
    injection e2 with e2 _
    injection e4 with e4 _
    have w3' := w3
    obtain ⟨E, ek, rfl, _⟩ := w3'
    exact ⟨⟨q0, q1, q2, l3, q4⟩, E, ek, by rw [e0, e1, e2, e4], w3⟩
theorem array8 {α : Type} {cs : Array α} (h : cs.size = 8) : ∃ c0 c1 c2 c3 c4 c5 c6 c7, cs = #[c0, c1, c2, c3, c4, c5, c6, c7] := by
  obtain ⟨l⟩ := cs
  match l, h with
  | [c0, c1, c2, c3, c4, c5, c6, c7], _ => exact ⟨c0, c1, c2, c3, c4, c5, c6, c7, rfl⟩
set_option maxRecDepth 100000 in
/-- An instruction that came in. -/
theorem open_mach {H : Type} {enc : TypeId × Value → H} {W : World} {base : Nat} {held : Bool} {r : Reach} {b0 : Nat} {v : Value} {d : DataW H} {ps : List MemPlace}
    (hv : Value.okWide Try.prog W r b0 24 v) (hd : DataW.Trod enc Try.prog W base (fun _ => true) held 24 v d ps) :
    ∃ (i : PMach) (A : Option Addr) (k : Nat), v = .agg #[.int .i64 i.op, .int .i64 i.d, .int .i64 i.e, .int .i64 i.a, .int .i64 i.b, .int .i64 i.c, .int .i32 i.imm, .slice A i.args.length k] ∧ Ints W (.slice A i.args.length k) i.args ∧ InW i.imm ∧ (InI i.a ∧ InI i.b ∧ InI i.c ∧ InI i.d ∧ InI i.e) := by
  obtain ⟨cs, rfl, hsz⟩ := okWide_struct Try.underlying24 hv
  obtain ⟨c0, c1, c2, c3, c4, c5, c6, c7, rfl⟩ := array8 (hsz.trans cellsH)
  obtain ⟨fuel, hf⟩ := hd
  obtain ⟨xs, n, _, _, hl, hlen, hx⟩ := DataW.trod_struct Try.underlying24 hf
  match xs, hlen with
  | [y0, y1, y2, y3, y4, y5, y6, y7], _ =>
    have h0 := hx 0 _ rfl
    have h1 := hx 1 _ rfl
    have h2 := hx 2 _ rfl
    have h3 := hx 3 _ rfl
    have h4 := hx 4 _ rfl
    have h5 := hx 5 _ rfl
    have h6 := hx 6 _ rfl
    have h7 := hx 7 _ rfl
    simp [Value.cells, cellsI, cellsW, cellsS] at h0 h1 h2 h3 h4 h5 h6 h7
    obtain ⟨q0, e0, _, wf0⟩ := DataW.trod_int Try.underlying3 h0
    obtain ⟨q1, e1, _, wf1⟩ := DataW.trod_int Try.underlying3 h1
    obtain ⟨q2, e2, _, wf2⟩ := DataW.trod_int Try.underlying3 h2
    obtain ⟨q3, e3, _, wf3⟩ := DataW.trod_int Try.underlying3 h3
    obtain ⟨q4, e4, _, wf4⟩ := DataW.trod_int Try.underlying3 h4
    obtain ⟨q5, e5, _, wf5⟩ := DataW.trod_int Try.underlying3 h5
    obtain ⟨q6, e6, _, wf6⟩ := DataW.trod_int Try.underlying21 h6
    obtain ⟨l7, w7⟩ := nums_open h7
    injection e0 with e0 _
    injection e1 with e1 _
    injection e2 with e2 _
    injection e3 with e3 _
    injection e4 with e4 _
    injection e5 with e5 _
    injection e6 with e6 _
    have w7' := w7
    obtain ⟨A, k, rfl, _⟩ := w7'
    exact ⟨⟨q0, q1, q2, q3, q4, q5, q6, l7⟩, A, k, by rw [e0, e1, e2, e3, e4, e5, e6], w7, bounds_i32 wf6, bounds_i64 wf3, bounds_i64 wf4, bounds_i64 wf5, bounds_i64 wf1, bounds_i64 wf2⟩

/-! ### THE ROW's STEP: WRITTEN OUT: LEAVE IT -/
set_option maxRecDepth 100000 in
theorem lifted (os : Os) (started : os.Started) (H : Type) (enc : TypeId × Value → H) :
    ReturnsInHanded {} Try.checked os 3 .any (Rows.physPiecesSpec.pre6 enc Try.prog Try.f3 Rows.physPiecesRow.domain false) (Rows.physPiecesSpec.post enc Try.prog Try.f3 false true false false) := by
  refine returnsInHanded_of_change (C := Try.checked) own started (by kernel_rfl) Try.func3
    (ChangeSpec.witness6 (enc := enc) (C := Try.checked) false ⟨#[], #[.agg #[.int .i64 0, .int .i64 0, .int .i64 0, .int .i64 0, .int .i64 0, .int .i64 0, .int .i32 0, .slice none 0 0], .agg #[.int .i64 0, .int .i64 0, .int .i64 0, .slice none 0 0, .int .i32 0], .agg #[.int .i64 0, .int .i64 0, .int .i64 0]], []⟩ 8 (by kernel_rfl) (by kernel_rfl) (by kernel_rfl) (by kernel_rfl)) ?_
  intro W base args ds gs before hval0 hW hcnd _
  have hval : ∀ (j : Nat) t v, Try.f3.params[j]? = some t → args[j]? = some v → Value.okWide Try.prog W .any base t v := hval0
  have hW' := hW
  obtain ⟨p, q, hA0, hV, rfl, hfz, hnd⟩ := hW
  have hA : DataW.TrodAll enc Try.prog W 0 (fun _ => true) true Try.f3.params.toList args.toList ds p := hA0
  rw [Try.params3] at hA hval
  obtain ⟨v0, vs0, d0, ds0, p0, q0, hargs, rfl, rfl, h0, r0⟩ := trodAll_cons hA
  obtain ⟨v1, vs1, d1, ds1, p1, q1, rfl, rfl, rfl, h1, r1⟩ := trodAll_cons r0
  obtain ⟨v2, vs2, d2, ds2, p2, q2, rfl, rfl, rfl, h2, r2⟩ := trodAll_cons r1
  obtain ⟨rfl, rfl, rfl⟩ := trodAll_nil r2
  obtain rfl : args = #[v0, v1, v2] := by cases args; simp_all
  obtain ⟨rfl, rfl⟩ := trodVars_none hV
  have k0 := h0
  have lt0 : ∀ x ∈ p0, x.block < W.heap.size := by obtain ⟨m, hm⟩ := k0; exact DataW.trod_lt m _ _ _ hm
  have k1 := h1
  have lt1 : ∀ x ∈ p1, x.block < W.heap.size := by obtain ⟨m, hm⟩ := k1; exact DataW.trod_lt m _ _ _ hm
  have k2 := h2
  have lt2 : ∀ x ∈ p2, x.block < W.heap.size := by obtain ⟨m, hm⟩ := k2; exact DataW.trod_lt m _ _ _ hm
  obtain ⟨i, A, k, rfl, w0, wi, wI⟩ := open_mach (hval 0 24 v0 rfl rfl) h0
  obtain ⟨en, E, ek, rfl, w1⟩ := open_end (hval 1 26 v1 rfl rfl) h1
  obtain ⟨n0, n1, n2, rfl⟩ := open_three (hval 2 27 v2 rfl rfl) h2
  clear hA0 hval0
  refine (pieces_any W i A k en E ek n0 n1 n2 w0 w1 wi).mono fun e W' ⟨he, bel⟩ => ?_
  subst he
  exact ⟨_, rfl, _, _, _, [], _, [], hW', trodAll_mk1 (shut_bool Try.underlying4 _), (trodAll_cons_mk (Below.trod laidOut (by kernel_rfl) (of_decide_eq_true (by kernel_rfl)) k0 bel lt0) (trodAll_cons_mk (Below.trod laidOut (by kernel_rfl) (of_decide_eq_true (by kernel_rfl)) k1 bel lt1) (trodAll_cons_mk (Below.trod laidOut (by kernel_rfl) (of_decide_eq_true (by kernel_rfl)) k2 bel lt2) trodAll_mk0))), rfl, bel.frame _, fun h => by cases h⟩

theorem over : Rows.physPiecesRow.holds Try.pinned (OpenSpec.ofChange Rows.physPiecesSpec) :=
  OpenClaim.holds_of_wide 3 Try.f3 rfl rfl rfl rfl rfl rfl rfl ⟨rfl, rfl, rfl, rfl, rfl⟩ rfl rfl rfl rfl rfl (by kernel_rfl) Try.func3 (by kernel_rfl)
    (of_decide_eq_true (by kernel_rfl)) (by unfold Func.isWrapper; first | (rw [if_pos (by decide +kernel)]; kernel_rfl) | (rw [if_neg (by decide +kernel)]; exact ⟨rfl, rfl⟩))
    (fun os started H enc _ => lifted os started H enc)

/-- ████ THE STATEMENT ████ -/
theorem proved : Rows.PhysPiecesSaid := over
#print axioms proved
end Go.Proofs.Ytmbecjpooeofgaa.physPieces
