/- What is proved: outcomes are the same when they end alike, with the same memory and calls, however many steps they took (law InterpSame): for any two outcomes and any kind of change the law answers true. Conditions: none beside those that the given form carries. -/
import Derived.Test.YtcangooibfddmaaRows
import Derived.Test.YtcangooibfddmaaISameW
import Derived.WalkKit
import Derived.ProofKit
import Derived.OpenShut
import Derived.ShutString
import Derived.ChangeOld
import Derived.Below
import Derived.Deep.SlicePairs
import Derived.Lib.SmallJoins
namespace Go.Proofs.Ytcangooibfddmaa.interpSame
open Go.ChangeShapes Go.WideShapes Go.ChangeAt Go.RowKit Go.Maps Go.Deep Go.Proofs.Ytcangooibfddmaa.Mem Go.Proofs.Ytcangooibfddmaa.Kc Go.Proofs.Ytcangooibfddmaa.Br Go.Proofs.Ytcangooibfddmaa.Pl Go.Proofs.Ytcangooibfddmaa.Gr Go.Proofs.Ytcangooibfddmaa.Ic
set_option linter.unusedVariables false
set_option linter.constructorNameAsVariable false

theorem own : ownKnob Try.prog.godebug = none := by kernel_rfl
theorem laidOut : laidOutB Try.prog = true := by kernel_rfl
theorem cellsE : Try.prog.cellsOf 67 = 2 := by kernel_rfl
theorem cellsO : Try.prog.cellsOf 45 = 5 := by kernel_rfl
theorem cellsW : Try.prog.cellsOf 21 = 1 := by kernel_rfl
theorem cellsM : Try.prog.cellsOf 42 = 1 := by kernel_rfl
theorem cellsC : Try.prog.cellsOf 43 = 1 := by kernel_rfl
theorem cellsI : Try.prog.cellsOf 3 = 1 := by kernel_rfl
theorem words_open {H : Type} {enc : TypeId × Value → H} {W : World} {base : Nat} {held : Bool} {fuel : Nat} {v : Value} {x : DataW H × List MemPlace}
    (h : DataW.trod enc Try.prog W base (fun _ => true) held fuel 42 [v] = some x) : ∃ l, WordsAt W v l := by
  rcases open_ints Try.underlying42 Try.underlying21 cellsW h with ⟨e, _⟩ | ⟨a, len, cap, zs, e, _, hl, hm, hz, _, hcell, _⟩
  · injection e with e _
    subst e
    exact ⟨[], WordsAt.none_ W⟩
  · injection e with e _
    subst e
    simp only [if_true] at hz
    have e : (zs.take len).length = len := by rw [List.length_take]; omega
    refine ⟨zs.take len, some a, cap, by rw [e], by omega, hm, fun k hk => ⟨a, rfl, ?_⟩⟩
    have hk2 : k < zs.length := by omega
    rw [hcell k hk2, List.getElem_take, List.getD_eq_getElem?_getD, List.getElem?_eq_getElem hk2]; rfl
theorem plain_of {w : World} {a : Addr} {v : Value} (h : w.cell? a = some v) : a = ⟨a.block, a.off, none⟩ := by
  obtain ⟨b, o, s⟩ := a
  cases s with
  | none => rfl
  | some q =>
    exfalso
    simp only [World.cell?] at h
    split at h <;> simp at h
theorem plain_add (b o k : Nat) : (⟨b, o, none⟩ : Addr).add k = ⟨b, o + k, none⟩ := by
  unfold Addr.add
  by_cases h : k = 0
  · subst h; rfl
  · rw [if_neg h]
theorem events_open {H : Type} {enc : TypeId × Value → H} {W : World} {base : Nat} {held : Bool} {fuel : Nat} {v : Value} {x : DataW H × List MemPlace}
    (h : DataW.trod enc Try.prog W base (fun _ => true) held fuel 43 [v] = some x) : ∃ l, EvsAt W v l := by
  rcases open_slice_pairs Try.underlying43 Try.underlying67 cellsE rfl rfl cellsW cellsM h with ⟨e, _⟩ | ⟨a, len, cap, m, n, V0, V1, D0, D1, P0, P1, e, _, hl, hm, hmm, _, hx⟩
  · injection e with e _
    subst e
    exact ⟨[], rowAt_nil⟩
  · injection e with e _
    subst e
    simp only [if_true] at hmm
    rcases Nat.eq_zero_or_pos len with h0 | hp
    · subst h0
      exact ⟨[], some a, cap, 0, 0, rfl, hl, hm, fun hp => absurd hp (by simp), fun k hk => absurd hk (by simp)⟩
    · have hpl : a = ⟨a.block, a.off, none⟩ := by
        have h1 := (hx 0 (by omega)).1
        rw [Nat.zero_mul, show a.add 0 = a from rfl] at h1
        exact plain_of h1
      obtain ⟨b, o, s⟩ := a
      simp only at hpl
      injection hpl with _ _ hpl
      subst hpl
      have each : ∀ i, i < len → ∃ ev : Ev, EvAt W b (o + i * 2) ev := fun i hi => by
        obtain ⟨h1, h2, h3, h4⟩ := hx i (by omega)
        obtain ⟨c, hc, _⟩ := DataW.trod_int Try.underlying21 h3
        injection hc with hc _
        obtain ⟨l, hw⟩ := words_open h4
        rw [plain_add, hc] at h1
        rw [plain_add] at h2
        exact ⟨(c, l), h1, V1 i, h2, hw⟩
      obtain ⟨E, hE⟩ := choose_lt each
      have hll : ((List.range len).map E).length = len := by simp
      refine ⟨(List.range len).map E, some ⟨b, o, none⟩, cap, b, o, by rw [hll], by rw [hll]; exact hl, hm, fun _ => rfl, fun k hk => ?_⟩
      rw [hll] at hk
      rw [List.getElem_map, List.getElem_range]
      exact hE k hk
theorem array5 {α : Type} {cs : Array α} (h : cs.size = 5) : ∃ c0 c1 c2 c3 c4, cs = #[c0, c1, c2, c3, c4] := by
  obtain ⟨l⟩ := cs
  match l, h with
  | [c0, c1, c2, c3, c4], _ => exact ⟨c0, c1, c2, c3, c4, rfl⟩
set_option maxRecDepth 100000 in
/-- An outcome that came in. -/
theorem open_out {H : Type} {enc : TypeId × Value → H} {W : World} {base : Nat} {held : Bool} {r : Reach} {b0 : Nat} {v : Value} {d : DataW H} {ps : List MemPlace}
    (hv : Value.okWide Try.prog W r b0 45 v) (hd : DataW.Trod enc Try.prog W base (fun _ => true) held 45 v d ps) :
    ∃ (o : POut) (mv cv : Value), v = .agg #[.int .i64 o.how, .int .i32 o.val, mv, cv, .int .i64 o.steps] ∧ OutAt W mv cv o := by
  obtain ⟨cs, rfl, hsz⟩ := okWide_struct Try.underlying45 hv
  obtain ⟨c0, c1, c2, c3, c4, rfl⟩ := array5 (hsz.trans cellsO)
  obtain ⟨fuel, hf⟩ := hd
  obtain ⟨xs, n, _, _, hl, hlen, hx⟩ := DataW.trod_struct Try.underlying45 hf
  match xs, hlen with
  | [y0, y1, y2, y3, y4], _ =>
    have h0 := hx 0 _ rfl
    have h1 := hx 1 _ rfl
    have h2 := hx 2 _ rfl
    have h3 := hx 3 _ rfl
    have h4 := hx 4 _ rfl
    simp [Value.cells, cellsI, cellsW, cellsM, cellsC] at h0 h1 h2 h3 h4
    obtain ⟨q0, e0, _⟩ := DataW.trod_int Try.underlying3 h0
    obtain ⟨q1, e1, _⟩ := DataW.trod_int Try.underlying21 h1
    obtain ⟨l2, w2⟩ := words_open h2
    obtain ⟨l3, w3⟩ := events_open h3
    obtain ⟨q4, e4, _⟩ := DataW.trod_int Try.underlying3 h4
    injection e0 with e0 _
    injection e1 with e1 _
    injection e4 with e4 _
    exact ⟨⟨q0, q1, l2, l3, q4⟩, c2, c3, by rw [e0, e1, e4], ⟨w2, w3⟩⟩

/-! ### THE ROW's STEP: WRITTEN OUT: LEAVE IT -/
set_option maxRecDepth 100000 in
theorem lifted (os : Os) (started : os.Started) (H : Type) (enc : TypeId × Value → H) :
    ReturnsInHanded {} Try.checked os 11 .any (Rows.interpSameSpec.pre6 enc Try.prog Try.f11 Rows.interpSameRow.domain false) (Rows.interpSameSpec.post enc Try.prog Try.f11 false true false false) := by
  refine returnsInHanded_of_change (C := Try.checked) own started (by kernel_rfl) Try.func11
    (ChangeSpec.witness6 (enc := enc) (C := Try.checked) false ⟨#[], #[.agg #[.int .i64 0, .int .i32 0, .slice none 0 0, .slice none 0 0, .int .i64 0], .agg #[.int .i64 0, .int .i32 0, .slice none 0 0, .slice none 0 0, .int .i64 0], .int .u8 0], []⟩ 8 (by kernel_rfl) (by kernel_rfl) (by kernel_rfl) (by kernel_rfl)) ?_
  intro W base args ds gs before hval0 hW hcnd _
  have hval : ∀ (j : Nat) t v, Try.f11.params[j]? = some t → args[j]? = some v → Value.okWide Try.prog W .any base t v := hval0
  have hW' := hW
  obtain ⟨p, q, hA0, hV, rfl, hfz, hnd⟩ := hW
  have hA : DataW.TrodAll enc Try.prog W 0 (fun _ => true) true Try.f11.params.toList args.toList ds p := hA0
  rw [Try.params11] at hA hval
  obtain ⟨v0, vs0, d0, ds0, p0, q0, hargs, rfl, rfl, h0, r0⟩ := trodAll_cons hA
  obtain ⟨v1, vs1, d1, ds1, p1, q1, rfl, rfl, rfl, h1, r1⟩ := trodAll_cons r0
  obtain ⟨v2, vs2, d2, ds2, p2, q2, rfl, rfl, rfl, h2, r2⟩ := trodAll_cons r1
  obtain ⟨rfl, rfl, rfl⟩ := trodAll_nil r2
  obtain rfl : args = #[v0, v1, v2] := by cases args; simp_all
  obtain ⟨rfl, rfl⟩ := trodVars_none hV
  have k0 := h0
  have lt0 : ∀ x ∈ p0, x.block < W.heap.size := by obtain ⟨m, hm⟩ := k0; exact DataW.trod_lt m _ _ _ hm
  have k1 := h1
  have lt1 : ∀ x ∈ p1, x.block < W.heap.size := by obtain ⟨m, hm⟩ := k1; exact DataW.trod_lt m _ _ _ hm
  obtain ⟨o0, m0, c0, rfl, w0⟩ := open_out (hval 0 45 v0 rfl rfl) h0
  obtain ⟨o1, m1, c1, rfl, w1⟩ := open_out (hval 1 45 v1 rfl rfl) h1
  obtain ⟨a2, rfl, rfl, rfl, w2⟩ := open_int Try.underlying5 (hval 2 5 v2 rfl rfl) h2
  clear hA0 hval0
  have hb := bounds_u8 w2
  refine (sameLaw_any W m0 c0 m1 c1 o0 o1 a2 (by omega) w0 w1).mono fun e W' ⟨he, bel⟩ => ?_
  subst he
  exact ⟨_, rfl, _, _, _, [], _, [], hW', trodAll_mk1 (shut_bool Try.underlying4 _), (trodAll_cons_mk (Below.trod laidOut (by kernel_rfl) (of_decide_eq_true (by kernel_rfl)) k0 bel lt0) (trodAll_cons_mk (Below.trod laidOut (by kernel_rfl) (of_decide_eq_true (by kernel_rfl)) k1 bel lt1) (trodAll_cons_mk (shut_int Try.underlying5 w2) trodAll_mk0))), rfl, bel.frame _, fun h => by cases h⟩

theorem over : Rows.interpSameRow.holds Try.pinned (OpenSpec.ofChange Rows.interpSameSpec) :=
  OpenClaim.holds_of_wide 11 Try.f11 rfl rfl rfl rfl rfl rfl rfl ⟨rfl, rfl, rfl, rfl, rfl⟩ rfl rfl rfl rfl rfl (by kernel_rfl) Try.func11 (by kernel_rfl)
    (of_decide_eq_true (by kernel_rfl)) (by unfold Func.isWrapper; first | (rw [if_pos (by decide +kernel)]; kernel_rfl) | (rw [if_neg (by decide +kernel)]; exact ⟨rfl, rfl⟩))
    (fun os started H enc _ => lifted os started H enc)

/-- ████ THE STATEMENT ████ -/
theorem proved : Rows.InterpSameSaid := over
#print axioms proved
end Go.Proofs.Ytcangooibfddmaa.interpSame
