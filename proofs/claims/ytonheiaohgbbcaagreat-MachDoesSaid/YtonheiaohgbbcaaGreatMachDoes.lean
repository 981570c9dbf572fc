/- What is proved: what any instruction does with registers and memory, which registers it takes and makes, which ones an end takes and where it goes, are as the reference says (law MachDoes): for any instruction, end, registers and memory the law answers true. Conditions: none beside those that the given form carries. -/
import Derived.Test.YtonheiaohgbbcaaGreatRows
import Derived.Test.YtonheiaohgbbcaaGreatOF
import Derived.WalkKit
import Derived.ProofKit
import Derived.OpenShut
import Derived.ShutString
import Derived.ChangeOld
import Derived.Below
namespace Go.Proofs.YtonheiaohgbbcaaGreat.machDoes
open Go.ChangeShapes Go.WideShapes Go.ChangeAt Go.RowKit
open Go.Maps Go.Proofs.YtonheiaohgbbcaaGreat.Mem Go.Proofs.YtonheiaohgbbcaaGreat.Kc Go.Proofs.YtonheiaohgbbcaaGreat.Br Go.Proofs.YtonheiaohgbbcaaGreat.Pl Go.Proofs.YtonheiaohgbbcaaGreat.Gr Go.Proofs.YtonheiaohgbbcaaGreat.Mw Go.Proofs.YtonheiaohgbbcaaGreat.Mc
set_option linter.unusedVariables false
set_option linter.constructorNameAsVariable false

theorem own : ownKnob Tryz.prog.godebug = none := by kernel_rfl
theorem laidOut : laidOutB Tryz.prog = true := by kernel_rfl
theorem cellsH : Tryz.prog.cellsOf 40 = 8 := by kernel_rfl
theorem cellsW : Tryz.prog.cellsOf 21 = 1 := by kernel_rfl
theorem cellsI : Tryz.prog.cellsOf 3 = 1 := by kernel_rfl
theorem cellsS : Tryz.prog.cellsOf 38 = 1 := by kernel_rfl
theorem cellsV : Tryz.prog.cellsOf 25 = 1 := by kernel_rfl
theorem cellsB : Tryz.prog.cellsOf 43 = 2 := by kernel_rfl
theorem cellsE : Tryz.prog.cellsOf 42 = 5 := by kernel_rfl
theorem words_open {H : Type} {enc : TypeId × Value → H} {W : World} {base : Nat} {held : Bool} {fuel : Nat} {v : Value} {x : DataW H × List MemPlace}
    (h : DataW.trod enc Tryz.prog W base (fun _ => true) held fuel 25 [v] = some x) : ∃ l, WordsAt W v l ∧ ∀ x ∈ l, InW x := by
  rcases open_ints Tryz.underlying25 Tryz.underlying21 cellsW h with ⟨e, _⟩ | ⟨a, len, cap, zs, e, _, hl, hm, hz, _, hcell, hwf⟩
  · injection e with e _
    subst e
    exact ⟨[], WordsAt.none_ W, fun x hx => absurd hx (by simp)⟩
  · injection e with e _
    subst e
    simp only [if_true] at hz
    have e : (zs.take len).length = len := by rw [List.length_take]; omega
    refine ⟨zs.take len, ⟨some a, cap, by rw [e], by omega, hm, fun k hk => ⟨a, rfl, ?_⟩⟩, fun x hx => bounds_i32 (hwf x (List.mem_of_mem_take hx))⟩
    have hk2 : k < zs.length := by omega
    rw [hcell k hk2, List.getElem_take, List.getD_eq_getElem?_getD, List.getElem?_eq_getElem hk2]; rfl
theorem nums_open {H : Type} {enc : TypeId × Value → H} {W : World} {base : Nat} {held : Bool} {fuel : Nat} {v : Value} {x : DataW H × List MemPlace}
    (h : DataW.trod enc Tryz.prog W base (fun _ => true) held fuel 38 [v] = some x) : ∃ l, Ints W v l := by
  rcases open_ints Tryz.underlying38 Tryz.underlying3 cellsI h with ⟨e, _⟩ | ⟨a, len, cap, zs, e, _, hl, hm, hz, _, hcell, _⟩
  · injection e with e _
    subst e
    exact ⟨[], none, 0, rfl, Nat.le_refl _, by unfold maxLen; omega, fun k hk => absurd hk (by simp)⟩
  · injection e with e _
    subst e
    simp only [if_true] at hz
    have e : (zs.take len).length = len := by rw [List.length_take]; omega
    refine ⟨zs.take len, some a, cap, by rw [e], by omega, hm, fun k hk => ⟨a, rfl, ?_⟩⟩
    have hk2 : k < zs.length := by omega
    rw [hcell k hk2, List.getElem_take, List.getD_eq_getElem?_getD, List.getElem?_eq_getElem hk2]; rfl
theorem array2 {α : Type} {cs : Array α} (h : cs.size = 2) : ∃ c0 c1, cs = #[c0, c1] := by
  obtain ⟨l⟩ := cs
  match l, h with
  | [c0, c1], _ => exact ⟨c0, c1, rfl⟩
theorem array5 {α : Type} {cs : Array α} (h : cs.size = 5) : ∃ c0 c1 c2 c3 c4, cs = #[c0, c1, c2, c3, c4] := by
  obtain ⟨l⟩ := cs
  match l, h with
  | [c0, c1, c2, c3, c4], _ => exact ⟨c0, c1, c2, c3, c4, rfl⟩
set_option maxRecDepth 100000 in
/-- Two slices of words that came in. -/
theorem open_both {H : Type} {enc : TypeId × Value → H} {W : World} {base : Nat} {held : Bool} {r : Reach} {b0 : Nat} {v : Value} {d : DataW H} {ps : List MemPlace}
    (hv : Value.okWide Tryz.prog W r b0 43 v) (hd : DataW.Trod enc Tryz.prog W base (fun _ => true) held 43 v d ps) :
    ∃ (rv mv : Value) (ra m : List Int), v = .agg #[rv, mv] ∧ WordsAt W rv ra ∧ (∀ x ∈ ra, InW x) ∧ WordsAt W mv m := by
  simp only [Value.okWide, Tryz.underlying43] at hv
  obtain ⟨cs, rfl, hn, _⟩ := hv
  rw [cellsB] at hn
  obtain ⟨c0, c1, rfl⟩ := array2 hn
  obtain ⟨fuel, hf⟩ := hd
  obtain ⟨xs, m, _, _, hl, hlen, hx⟩ := DataW.trod_array Tryz.underlying43 hf
  match xs, hlen with
  | [y0, y1], _ =>
    have h0 := hx 0 (by omega)
    have h1 := hx 1 (by omega)
    simp [Value.cells, cellsV] at h0 h1
    obtain ⟨l0, w0, u0⟩ := words_open h0
    obtain ⟨l1, w1, _⟩ := words_open h1
    exact ⟨c0, c1, l0, l1, rfl, w0, u0, w1⟩
set_option maxRecDepth 100000 in
/-- An end that came in. -/
theorem open_end {H : Type} {enc : TypeId × Value → H} {W : World} {base : Nat} {held : Bool} {r : Reach} {b0 : Nat} {v : Value} {d : DataW H} {ps : List MemPlace}
    (hv : Value.okWide Tryz.prog W r b0 42 v) (hd : DataW.Trod enc Tryz.prog W base (fun _ => true) held 42 v d ps) :
    ∃ (e : PEnd) (E : Option Addr) (n ek : Nat), v = .agg #[.int .i64 e.op, .int .i64 e.a, .int .i64 e.b, .slice E n ek, .int .i32 e.imm] ∧ n ≤ ek ∧ ek ≤ maxLen := by
  obtain ⟨cs, rfl, hsz⟩ := okWide_struct Tryz.underlying42 hv
  obtain ⟨c0, c1, c2, c3, c4, rfl⟩ := array5 (hsz.trans cellsE)
  obtain ⟨fuel, hf⟩ := hd
  obtain ⟨xs, n, _, _, hl, hlen, hx⟩ := DataW.trod_struct Tryz.underlying42 hf
  match xs, hlen with
  | [y0, y1, y2, y3, y4], _ =>
    have h0 := hx 0 _ rfl
    have h1 := hx 1 _ rfl
    have h2 := hx 2 _ rfl
    have h3 := hx 3 _ rfl
    have h4 := hx 4 _ rfl
    simp [Value.cells, cellsI, cellsW, cellsS] at h0 h1 h2 h3 h4
    obtain ⟨q0, e0, _⟩ := DataW.trod_int Tryz.underlying3 h0
    obtain ⟨q1, e1, _⟩ := DataW.trod_int Tryz.underlying3 h1
    obtain ⟨q2, e2, _⟩ := DataW.trod_int Tryz.underlying3 h2
    obtain ⟨l3, E, ek, e3, hn, hk, _⟩ := nums_open h3
    obtain ⟨q4, e4, _⟩ := DataW.trod_int Tryz.underlying21 h4
    injection e0 with e0 _
    injection e1 with e1 _
    injection e2 with e2 _
    injection e4 with e4 _
    exact ⟨⟨q0, q1, q2, l3, q4⟩, E, l3.length, ek, by rw [e0, e1, e2, e3, e4], hn, hk⟩
theorem array8 {α : Type} {cs : Array α} (h : cs.size = 8) : ∃ c0 c1 c2 c3 c4 c5 c6 c7, cs = #[c0, c1, c2, c3, c4, c5, c6, c7] := by
  obtain ⟨l⟩ := cs
  match l, h with
  | [c0, c1, c2, c3, c4, c5, c6, c7], _ => exact ⟨c0, c1, c2, c3, c4, c5, c6, c7, rfl⟩
set_option maxRecDepth 100000 in
/-- An instruction that came in. -/
theorem open_mach {H : Type} {enc : TypeId × Value → H} {W : World} {base : Nat} {held : Bool} {r : Reach} {b0 : Nat} {v : Value} {d : DataW H} {ps : List MemPlace}
    (hv : Value.okWide Tryz.prog W r b0 40 v) (hd : DataW.Trod enc Tryz.prog W base (fun _ => true) held 40 v d ps) :
    ∃ (i : PMach) (A : Option Addr) (k : Nat), v = .agg #[.int .i64 i.op, .int .i64 i.d, .int .i64 i.e, .int .i64 i.a, .int .i64 i.b, .int .i64 i.c, .int .i32 i.imm, .slice A i.args.length k] ∧ Ints W (.slice A i.args.length k) i.args ∧ InW i.imm ∧ (InI i.a ∧ InI i.b ∧ InI i.c ∧ InI i.d ∧ InI i.e) := by
  obtain ⟨cs, rfl, hsz⟩ := okWide_struct Tryz.underlying40 hv
  obtain ⟨c0, c1, c2, c3, c4, c5, c6, c7, rfl⟩ := array8 (hsz.trans cellsH)
  obtain ⟨fuel, hf⟩ := hd
  obtain ⟨xs, n, _, _, hl, hlen, hx⟩ := DataW.trod_struct Tryz.underlying40 hf
  match xs, hlen with
  | [y0, y1, y2, y3, y4, y5, y6, y7], _ =>
    have h0 := hx 0 _ rfl
    have h1 := hx 1 _ rfl
    have h2 := hx 2 _ rfl
    have h3 := hx 3 _ rfl
    have h4 := hx 4 _ rfl
    have h5 := hx 5 _ rfl
    have h6 := hx 6 _ rfl
    have h7 := hx 7 _ rfl
    simp [Value.cells, cellsI, cellsW, cellsS] at h0 h1 h2 h3 h4 h5 h6 h7
    obtain ⟨q0, e0, _, wf0⟩ := DataW.trod_int Tryz.underlying3 h0
    obtain ⟨q1, e1, _, wf1⟩ := DataW.trod_int Tryz.underlying3 h1
    obtain ⟨q2, e2, _, wf2⟩ := DataW.trod_int Tryz.underlying3 h2
    obtain ⟨q3, e3, _, wf3⟩ := DataW.trod_int Tryz.underlying3 h3
    obtain ⟨q4, e4, _, wf4⟩ := DataW.trod_int Tryz.underlying3 h4
    obtain ⟨q5, e5, _, wf5⟩ := DataW.trod_int Tryz.underlying3 h5
    obtain ⟨q6, e6, _, wf6⟩ := DataW.trod_int Tryz.underlying21 h6
    obtain ⟨l7, w7⟩ := nums_open h7
    injection e0 with e0 _
    injection e1 with e1 _
    injection e2 with e2 _
    injection e3 with e3 _
    injection e4 with e4 _
    injection e5 with e5 _
    injection e6 with e6 _
    have w7' := w7
    obtain ⟨A, k, rfl, _⟩ := w7'
    exact ⟨⟨q0, q1, q2, q3, q4, q5, q6, l7⟩, A, k, by rw [e0, e1, e2, e3, e4, e5, e6], w7, bounds_i32 wf6, bounds_i64 wf3, bounds_i64 wf4, bounds_i64 wf5, bounds_i64 wf1, bounds_i64 wf2⟩

/-! ### THE ROW's STEP: WRITTEN OUT: LEAVE IT -/
set_option maxRecDepth 100000 in
theorem lifted (os : Os) (started : os.Started) (H : Type) (enc : TypeId × Value → H) :
    ReturnsInHanded {} Tryz.checked os 4 .any (Rows.machDoesSpec.pre6 enc Tryz.prog Tryz.f4 Rows.machDoesRow.domain false) (Rows.machDoesSpec.post enc Tryz.prog Tryz.f4 false true false false) := by
  refine returnsInHanded_of_change (C := Tryz.checked) own started (by kernel_rfl) Tryz.func4
    (ChangeSpec.witness6 (enc := enc) (C := Tryz.checked) false ⟨#[], #[.agg #[.int .i64 0, .int .i64 0, .int .i64 0, .int .i64 0, .int .i64 0, .int .i64 0, .int .i32 0, .slice none 0 0], .agg #[.int .i64 0, .int .i64 0, .int .i64 0, .slice none 0 0, .int .i32 0], .agg #[.slice none 0 0, .slice none 0 0]], []⟩ 8 (by kernel_rfl) (by kernel_rfl) (by kernel_rfl) (by kernel_rfl)) ?_
  intro W base args ds gs before hval0 hW hcnd _
  have hval : ∀ (j : Nat) t v, Tryz.f4.params[j]? = some t → args[j]? = some v → Value.okWide Tryz.prog W .any base t v := hval0
  have hW' := hW
  obtain ⟨p, q, hA0, hV, rfl, hfz, hnd⟩ := hW
  have hA : DataW.TrodAll enc Tryz.prog W 0 (fun _ => true) true Tryz.f4.params.toList args.toList ds p := hA0
  rw [Tryz.params4] at hA hval
  obtain ⟨v0, vs0, d0, ds0, p0, q0, hargs, rfl, rfl, h0, r0⟩ := trodAll_cons hA
  obtain ⟨v1, vs1, d1, ds1, p1, q1, rfl, rfl, rfl, h1, r1⟩ := trodAll_cons r0
  obtain ⟨v2, vs2, d2, ds2, p2, q2, rfl, rfl, rfl, h2, r2⟩ := trodAll_cons r1
  obtain ⟨rfl, rfl, rfl⟩ := trodAll_nil r2
  obtain rfl : args = #[v0, v1, v2] := by cases args; simp_all
  obtain ⟨rfl, rfl⟩ := trodVars_none hV
  have k0 := h0
  have lt0 : ∀ x ∈ p0, x.block < W.heap.size := by obtain ⟨m, hm⟩ := k0; exact DataW.trod_lt m _ _ _ hm
  have k1 := h1
  have lt1 : ∀ x ∈ p1, x.block < W.heap.size := by obtain ⟨m, hm⟩ := k1; exact DataW.trod_lt m _ _ _ hm
  have k2 := h2
  have lt2 : ∀ x ∈ p2, x.block < W.heap.size := by obtain ⟨m, hm⟩ := k2; exact DataW.trod_lt m _ _ _ hm
  obtain ⟨i, A, k, rfl, w0, wi, wI⟩ := open_mach (hval 0 40 v0 rfl rfl) h0
  obtain ⟨en, E, n, ek, rfl, l16, l16b⟩ := open_end (hval 1 42 v1 rfl rfl) h1
  obtain ⟨rv, mv, ra, m, rfl, wr, wra, wm⟩ := open_both (hval 2 43 v2 rfl rfl) h2
  clear hA0 hval0
  refine (does_any W i A k en E n ek rv mv ra m w0 wI wi l16 l16b wr wra wm).mono fun e W' ⟨he, bel⟩ => ?_
  subst he
  exact ⟨_, rfl, _, _, _, [], _, [], hW', trodAll_mk1 (shut_bool Tryz.underlying4 _), (trodAll_cons_mk (Below.trod laidOut (by kernel_rfl) (of_decide_eq_true (by kernel_rfl)) k0 bel lt0) (trodAll_cons_mk (Below.trod laidOut (by kernel_rfl) (of_decide_eq_true (by kernel_rfl)) k1 bel lt1) (trodAll_cons_mk (Below.trod laidOut (by kernel_rfl) (of_decide_eq_true (by kernel_rfl)) k2 bel lt2) trodAll_mk0))), rfl, bel.frame _, fun h => by cases h⟩

theorem over : Rows.machDoesRow.holds Tryz.pinned (OpenSpec.ofChange Rows.machDoesSpec) :=
  OpenClaim.holds_of_wide 4 Tryz.f4 rfl rfl rfl rfl rfl rfl rfl ⟨rfl, rfl, rfl, rfl, rfl⟩ rfl rfl rfl rfl rfl (by kernel_rfl) Tryz.func4 (by kernel_rfl)
    (of_decide_eq_true (by kernel_rfl)) (by unfold Func.isWrapper; first | (rw [if_pos (by decide +kernel)]; kernel_rfl) | (rw [if_neg (by decide +kernel)]; exact ⟨rfl, rfl⟩))
    (fun os started H enc _ => lifted os started H enc)

/-- ████ THE STATEMENT ████ -/
theorem proved : Rows.MachDoesSaid := over
#print axioms proved
end Go.Proofs.YtonheiaohgbbcaaGreat.machDoes
