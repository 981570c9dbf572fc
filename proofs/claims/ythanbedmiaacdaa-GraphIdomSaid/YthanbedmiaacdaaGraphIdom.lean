/- What is proved: by chains of graph's Idom just those blocks are told that dominate, as the document says it (law GraphIdom): for every graph that is made of numbers, and every two numbers of blocks, the law answers true. Conditions: none beside those that the given row's own sentence names. -/
import Derived.Test.YthanbedmiaacdaaRows
import Derived.Test.YthanbedmiaacdaaDomAll
import Derived.Test.YthanbedmiaacdaaEdgeP
import Derived.WalkKit
import Derived.ProofKit
import Derived.OpenShut
import Derived.ShutString
import Derived.ChangeOld
import Derived.Below
namespace Go.Proofs.Ythanbedmiaacdaa.graphIdom
open Go.ChangeShapes Go.WideShapes Go.ChangeAt Go.RowKit
open Go.ChangeMaps (open_string shut_string)
set_option linter.unusedVariables false

theorem own : ownKnob Try.prog.godebug = none := by kernel_rfl
theorem laidOut : laidOutB Try.prog = true := by kernel_rfl

/-- WHAT THE WALK IS TOLD OF A SLICE OF INTEGERS THAT CAME IN: it is nil; or it leads to a row of 'cap' cells, the numbers 'zs' (the first 'len' are its elements, the rest its spare room), each fitting its kind. -/
def IsRow (k : IntKind) (w : World) (a : Option Addr) (len cap : Nat) (zs : List Int) : Prop :=
  (a = none ∧ len = 0 ∧ cap = 0 ∧ zs = []) ∨
  ∃ x, a = some x ∧ len ≤ cap ∧ cap ≤ maxLen ∧ zs.length = cap ∧ (∀ i, i < zs.length → w.cell? (x.add i) = some (.int k (zs.getD i 0))) ∧ ∀ n ∈ zs, (Lit.int k n).wf = true

open Go.Proofs.Ythanbedmiaacdaa.Gl Go.Proofs.Ythanbedmiaacdaa.Mem Go.Proofs.Ythanbedmiaacdaa.Gr Go.Proofs.Ythanbedmiaacdaa.Gn Go.Proofs.Ythanbedmiaacdaa.Gc

/-! ### STEP 1: THE WALK: the Go text returns true, AND WRITES NOTHING THAT WAS THERE: 'Below w.heap.size w w'' (Derived/Below.lean: '.refl', '.alloc', '.drew', '.setCell' at a new block, '.trans'). Open each 'IsRow' by 'rcases' AHEAD of 'go_enter'; part every test ahead of the walk. -/
set_option maxRecDepth 100000 in
set_option maxHeartbeats 1000000 in
theorem walk (a0 : Option Addr) (len0 cap0 : Nat) (z0 : List Int) (a1 : Int) (a2 : Int) (w : World) (w0 : IsRow .i64 w a0 len0 cap0 z0) (w1 : (Lit.int .i64 a1).wf = true) (w2 : (Lit.int .i64 a2).wf = true) :
    Calls Try.prog 6 #[.slice a0 len0 cap0, .int .i64 a1, .int .i64 a2] w fun e w' => e = .returned (.bool true) ∧ Below w.heap.size w w' := by
  have W0 := Lib.hid w0
  clear w0
  obtain ⟨hl0, hi0⟩ := row_ints W0.out (Nat.le_refl len0)
  have HI0 := Lib.hid hi0
  generalize z0.take len0 = s at *
  clear hl0 hi0 W0 w1 w2
  go_enter Try.func6, Try.ntmps6
  go_wp2_with fail
  refine (awake_any _).mono ?_
  rintro e v1 ⟨rfl, hb1⟩
  have HB1 := Lib.hid hb1
  have HI1 := Lib.hid (HI0.out.keep hb1)
  clear hb1 HI0
  go_wp2_with fail
  refine (made_any v1 _ s HI1.out).mono ?_
  rintro e v2 ⟨vg, rfl, hog, hb2⟩
  have hg2 := hog.grid
  have HG2 := Lib.hid hg2
  have HB2 := Lib.hid (HB1.out.trans (hb2.mono HB1.out.size))
  have hS := madeL_small s
  have HS := Lib.hid hS
  have hgl := hS.1
  have hg0 : 0 < (madeL s).length := by rw [madeL_len]; have := madeN_bd s; omega
  obtain ⟨Ag, cg, rfl, hrest⟩ := hg2
  generalize madeL s = g at *
  clear hog hb2 hS HB1 HI1 hrest
  go_wp2_with fail
  refine (idom_code v2 _ g HG2.out HS.out).mono ?_
  rintro e v3 ⟨vi, rfl, hoi, hb3⟩
  have HG3 := Lib.hid (HG2.out.keep hb3)
  have HB3 := Lib.hid (HB2.out.trans (hb3.mono HB2.out.size))
  have HI3 := Lib.hid hoi.ints
  clear hoi hb3 HB2 HG2
  have hgi : (0 : Int) < (g.length : Int) := by omega
  go_wp2_with fail
  refine (rest_any a1 (g.length : Int) hgi (by omega) _).mono ?_
  rintro e v4 ⟨rfl, rfl⟩
  have hx0 := Int.emod_nonneg a1 (show (g.length : Int) ≠ 0 by omega)
  have hx1 := Int.emod_lt_of_pos a1 hgi
  go_wp2_with fail
  refine (rest_any a2 (g.length : Int) hgi (by omega) _).mono ?_
  rintro e v5 ⟨rfl, rfl⟩
  have hy0 := Int.emod_nonneg a2 (show (g.length : Int) ≠ 0 by omega)
  have hy1 := Int.emod_lt_of_pos a2 hgi
  obtain ⟨x, hx⟩ := Int.eq_ofNat_of_zero_le hx0
  obtain ⟨y, hy⟩ := Int.eq_ofNat_of_zero_le hy0
  rw [hx] at hx1 ⊢
  rw [hy] at hy1 ⊢
  have hxl : x < g.length := by omega
  have hyl : y < g.length := by omega
  clear hx0 hy0 hx hy
  go_wp2_with fail
  refine (without_any _ _ g (-1) HG3.out (by omega)).mono ?_
  rintro e v6 ⟨rfl, hoa, hb6⟩
  have HG6 := Lib.hid (HG3.out.keep hb6)
  have HB6 := Lib.hid (HB3.out.trans (hb6.mono HB3.out.size))
  have HI6 := Lib.hid (HI3.out.keep hb6)
  have hwl := withoutL_len g (-1)
  have hcx := OwnBools.cell hoa (b := x) (by rw [hwl]; exact hxl)
  have hcy := OwnBools.cell hoa (b := y) (by rw [hwl]; exact hyl)
  have hdx := getD_at (l := withoutL g (-1)) (i := x) (by rw [hwl]; exact hxl) false
  have hdy := getD_at (l := withoutL g (-1)) (i := y) (by rw [hwl]; exact hyl) false
  rw [hwl]
  have HWX := Lib.hid (show (withoutL g (-1)).getD x false = true ↔ Gl.Way g (-1) x from without_iff)
  have HWY := Lib.hid (show (withoutL g (-1)).getD y false = true ↔ Gl.Way g (-1) y from without_iff)
  have HIL := Lib.hid (idom_len g)
  have HOUT := Lib.hid (fun hab h => dominates_out (a := x) (b := y) hg0 hxl hyl hab h)
  have HDOM := Lib.hid (fun ha hb => dominates_dom (a := x) (b := y) hg0 ha hb)
  rw [← hdx] at hcx
  rw [← hdy] at hcy
  clear hdx hdy hoa hb6 HB3 HG3 HI3
  generalize (withoutL g (-1)).getD x false = bx at *
  generalize (withoutL g (-1)).getD y false = by' at *
  generalize idomN (tidyN g) = l at *
  clear hwl
  cases bx <;> cases by'
  case true.true =>
    have hdd := HDOM.out (HWX.out.1 rfl) (HWY.out.1 rfl)
    have HDD := Lib.hid hdd
    clear hdd
    go_wp2_with fail
    refine (dom_any _ _ g x y HG6.out (by omega)).mono ?_
    rintro e v7 ⟨rfl, hb7⟩
    have HB7 := Lib.hid (HB6.out.trans (hb7.mono HB6.out.size))
    have HI7 := Lib.hid (HI6.out.keep hb7)
    clear hb7 hcx hcy
    generalize domB g (x : Int) (y : Int) = d at *
    go_wp2_with fail
    refine (dominates_code _ _ l x y HI7.out (by rw [HIL.out]; omega)).mono ?_
    rintro e v8 ⟨rfl, hb8⟩
    rw [HDD.out]
    have HB8 := Lib.hid (HB7.out.trans (hb8.mono HB7.out.size))
    clear hb8
    go_wp2
    go_ret
    exact ⟨rfl, HB8.out⟩
  all_goals
    have hno : ¬ Gl.Way g (-1) x ∨ ¬ Gl.Way g (-1) y := by
      first
        | exact Or.inl fun h => Bool.false_ne_true (HWX.out.2 h)
        | exact Or.inr fun h => Bool.false_ne_true (HWY.out.2 h)
    have HNO := Lib.hid hno
    clear hno
    by_cases hxy : x = y
    · have hxb : ((x : Int) == (y : Int)) = true := beq_iff_eq.2 (by omega)
      clear hxy
      go_wp2
      all_goals
        go_ret
        exact ⟨rfl, HB6.out⟩
    · have hxb : ((x : Int) == (y : Int)) = false := beq_eq_false_iff_ne.2 (by omega)
      have HF := Lib.hid (HOUT.out hxy HNO.out)
      clear hxy
      go_wp2_with fail
      refine (dominates_code _ _ l x y HI6.out (by rw [HIL.out]; omega)).mono ?_
      rintro e v8 ⟨rfl, hb8⟩
      rw [HF.out]
      have HB8 := Lib.hid (HB6.out.trans (hb8.mono HB6.out.size))
      clear hb8 hcx hcy
      go_wp2
      go_ret
      exact ⟨rfl, HB8.out⟩

/-! ### THE ROW's STEP: WRITTEN OUT: LEAVE IT -/
set_option maxRecDepth 100000 in
theorem lifted (os : Os) (started : os.Started) (H : Type) (enc : TypeId × Value → H) :
    ReturnsInHanded {} Try.checked os 6 .any (Rows.graphIdomSpec.pre6 enc Try.prog Try.f6 Rows.graphIdomRow.domain false) (Rows.graphIdomSpec.post enc Try.prog Try.f6 false true false false) := by
  refine returnsInHanded_of_change (C := Try.checked) own started (by kernel_rfl) Try.func6
    (ChangeSpec.witness6 (enc := enc) (C := Try.checked) false ⟨#[], #[.slice none 0 0, .int .i64 0, .int .i64 0], []⟩ 8 (by kernel_rfl) (by kernel_rfl) (by kernel_rfl) (by kernel_rfl)) ?_
  intro W base args ds gs before hval0 hW hcnd _
  have hval : ∀ (j : Nat) t v, Try.f6.params[j]? = some t → args[j]? = some v → Value.okWide Try.prog W .any base t v := hval0
  have hW' := hW
  obtain ⟨p, q, hA0, hV, rfl, hfz, hnd⟩ := hW
  have hA : DataW.TrodAll enc Try.prog W 0 (fun _ => true) true Try.f6.params.toList args.toList ds p := hA0
  rw [Try.params6] at hA hval
  obtain ⟨v0, vs0, d0, ds0, p0, q0, hargs, rfl, rfl, h0, r0⟩ := trodAll_cons hA
  obtain ⟨v1, vs1, d1, ds1, p1, q1, rfl, rfl, rfl, h1, r1⟩ := trodAll_cons r0
  obtain ⟨v2, vs2, d2, ds2, p2, q2, rfl, rfl, rfl, h2, r2⟩ := trodAll_cons r1
  obtain ⟨rfl, rfl, rfl⟩ := trodAll_nil r2
  obtain rfl : args = #[v0, v1, v2] := by cases args; simp_all
  obtain ⟨rfl, rfl⟩ := trodVars_none hV
  obtain ⟨a0, len0, cap0, rfl⟩ := okWide_slice Try.underlying23 (hval 0 23 v0 rfl rfl)
  have k0 := h0
  have lt0 : ∀ x ∈ p0, x.block < W.heap.size := by obtain ⟨m, hm⟩ := k0; exact DataW.trod_lt m _ _ _ hm
  obtain ⟨z0, w0⟩ : ∃ zs, IsRow .i64 W a0 len0 cap0 zs := by
    obtain ⟨fuel, hf⟩ := h0
    rcases open_ints Try.underlying23 Try.underlying3 (by kernel_rfl) hf with ⟨hcs, _⟩ | ⟨x, l, c, zs, hcs, _, hl, hm, hz, _, hcell, hwz⟩
    · simp [Value.cells] at hcs
      obtain ⟨rfl, rfl, rfl⟩ := hcs
      exact ⟨[], .inl ⟨rfl, rfl, rfl, rfl⟩⟩
    · simp [Value.cells] at hcs
      obtain ⟨rfl, rfl, rfl⟩ := hcs
      exact ⟨zs, .inr ⟨_, rfl, hl, hm, by simpa using hz, hcell, hwz⟩⟩
  obtain ⟨a1, rfl, rfl, rfl, w1⟩ := open_int Try.underlying3 (hval 1 3 v1 rfl rfl) h1
  obtain ⟨a2, rfl, rfl, rfl, w2⟩ := open_int Try.underlying3 (hval 2 3 v2 rfl rfl) h2
  clear hA0 hval0
  refine (walk a0 len0 cap0 z0 a1 a2 W w0 w1 w2).mono fun e W' ⟨he, bel⟩ => ?_
  subst he
  exact ⟨_, rfl, _, _, _, [], _, [], hW', trodAll_mk1 (shut_bool Try.underlying4 _), (trodAll_cons_mk (Below.trod laidOut (by kernel_rfl) (of_decide_eq_true (by kernel_rfl)) k0 bel lt0) (trodAll_cons_mk (shut_int Try.underlying3 w1) (trodAll_cons_mk (shut_int Try.underlying3 w2) trodAll_mk0))), rfl, bel.frame _, fun h => by cases h⟩

theorem over : Rows.graphIdomRow.holds Try.pinned (OpenSpec.ofChange Rows.graphIdomSpec) :=
  OpenClaim.holds_of_wide 6 Try.f6 rfl rfl rfl rfl rfl rfl rfl ⟨rfl, rfl, rfl, rfl, rfl⟩ rfl rfl rfl rfl rfl (by kernel_rfl) Try.func6 (by kernel_rfl)
    (of_decide_eq_true (by kernel_rfl)) (by unfold Func.isWrapper; first | (rw [if_pos (by decide +kernel)]; kernel_rfl) | (rw [if_neg (by decide +kernel)]; exact ⟨rfl, rfl⟩))
    (fun os started H enc _ => lifted os started H enc)

/-- ████ THE STATEMENT ████ -/
theorem proved : Rows.GraphIdomSaid := over
#print axioms proved
end Go.Proofs.Ythanbedmiaacdaa.graphIdom
