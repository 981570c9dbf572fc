/- What is proved: chains of numbers are followed by graph's Dominates as the document's own Dominates follows them (law GraphChains): for every row of numbers, cut at twelve, and every two numbers, as they stand and by their rests, the law answers true. Conditions: none beside those that the given row's own sentence names. -/
import Derived.Test.YthanbedmiaacdaaRows
import Derived.Test.YthanbedmiaacdaaLaws
import Derived.Deep.Cut
import Derived.WalkKit
import Derived.ProofKit
import Derived.OpenShut
import Derived.ShutString
import Derived.ChangeOld
import Derived.Below
namespace Go.Proofs.Ythanbedmiaacdaa.graphChains
open Go.ChangeShapes Go.WideShapes Go.ChangeAt Go.RowKit
open Go.ChangeMaps (open_string shut_string)
set_option linter.unusedVariables false

theorem own : ownKnob Try.prog.godebug = none := by kernel_rfl
theorem laidOut : laidOutB Try.prog = true := by kernel_rfl

/-- WHAT THE WALK IS TOLD OF A SLICE OF INTEGERS THAT CAME IN: it is nil; or it leads to a row of 'cap' cells, the numbers 'zs' (the first 'len' are its elements, the rest its spare room), each fitting its kind. -/
def IsRow (k : IntKind) (w : World) (a : Option Addr) (len cap : Nat) (zs : List Int) : Prop :=
  (a = none ∧ len = 0 ∧ cap = 0 ∧ zs = []) ∨
  ∃ x, a = some x ∧ len ≤ cap ∧ cap ≤ maxLen ∧ zs.length = cap ∧ (∀ i, i < zs.length → w.cell? (x.add i) = some (.int k (zs.getD i 0))) ∧ ∀ n ∈ zs, (Lit.int k n).wf = true

open Go.Proofs.Ythanbedmiaacdaa.Gl Go.Proofs.Ythanbedmiaacdaa.Mem Go.Proofs.Ythanbedmiaacdaa.Gr Go.Proofs.Ythanbedmiaacdaa.Gn Go.Proofs.Ythanbedmiaacdaa.Gc

/-! ### STEP 1: THE WALK: the Go text returns true, AND WRITES NOTHING THAT WAS THERE: 'Below w.heap.size w w'' (Derived/Below.lean: '.refl', '.alloc', '.drew', '.setCell' at a new block, '.trans'). Open each 'IsRow' by 'rcases' AHEAD of 'go_enter'; part every test ahead of the walk. -/
set_option maxRecDepth 100000 in
set_option maxHeartbeats 1000000 in
theorem walk (a0 : Option Addr) (len0 cap0 : Nat) (z0 : List Int) (a1 : Int) (a2 : Int) (w : World) (w0 : IsRow .i64 w a0 len0 cap0 z0) (w1 : (Lit.int .i64 a1).wf = true) (w2 : (Lit.int .i64 a2).wf = true) :
    Calls Try.prog 7 #[.slice a0 len0 cap0, .int .i64 a1, .int .i64 a2] w fun e w' => e = .returned (.bool true) ∧ Below w.heap.size w w' := by
  have W0 := Lib.hid w0
  have W1 := Lib.hid w1
  have W2 := Lib.hid w2
  clear w0 w1 w2
  go_enter Try.func7, Try.ntmps7
  go_wp2_with fail
  refine (awake_any _).mono ?_
  rintro e v1 ⟨rfl, hb1⟩
  have HB1 := Lib.hid hb1
  clear hb1
  go_upto_region 2 with (fail)
  go_cut [8] from 11 (fun s8 wx => ∃ k : Nat, s8 = .slice a0 k cap0 ∧ k ≤ 12 ∧ k ≤ len0 ∧ wx = v1)
  case first =>
    rcases W0.out with ⟨rfl, rfl, rfl, rfl⟩ | ⟨x, rfl, h1, h2, h3, h4, h5⟩
    · clear W0
      go_wp2
      go_meet
      case rel => exact ⟨0, rfl, by omega, by omega, rfl⟩
    · clear h4 h5 W0
      unfold maxLen at h2
      by_cases hl : len0 ≤ 12
      · go_wp2
        go_meet
        case rel => exact ⟨len0, by rw [show (min (len0 : Int) 12).toNat = len0 from by omega], by omega, by omega, rfl⟩
      · go_wp2
        go_meet
        case rel => exact ⟨12, by rw [show (min (len0 : Int) 12).toNat = 12 from by omega], by omega, by omega, rfl⟩
  case rest =>
    obtain ⟨k, rfl, hk1, hk2, rfl⟩ := hcut
    obtain ⟨hl, hi⟩ := row_ints W0.out hk2
    have HI1 := Lib.hid (hi.keep HB1.out)
    generalize z0.take k = l at *
    clear hi
    have HL := Lib.hid hl
    by_cases hk0 : k = 0
    · subst hk0
      obtain rfl : l = [] := List.length_eq_zero_iff.1 hl
      clear hl
      go_wp2_with fail
      refine (dominates_code _ _ [] a1 a2 HI1.out (by decide)).mono ?_
      rintro e v2 ⟨rfl, hb2⟩
      rw [dominates_nil]
      have HB2 := Lib.hid (HB1.out.trans (hb2.mono HB1.out.size))
      clear hb2
      go_wp2
      go_ret
      exact ⟨rfl, HB2.out⟩
    · have hk3 : (0 : Int) < (k : Int) := by omega
      have hkb : ((k : Int) == 0) = false := beq_eq_false_iff_ne.2 (by omega)
      clear hl
      go_wp2_with fail
      refine (rest_any a1 (k : Int) hk3 (by omega) _).mono ?_
      rintro e v2 ⟨rfl, rfl⟩
      go_wp2_with fail
      refine (rest_any a2 (k : Int) hk3 (by omega) _).mono ?_
      rintro e v3 ⟨rfl, rfl⟩
      have hx0 := Int.emod_nonneg a1 (show (k : Int) ≠ 0 by omega)
      have hx1 := Int.emod_lt_of_pos a1 hk3
      generalize a1 % (k : Int) = x at *
      generalize a2 % (k : Int) = y at *
      go_wp2_with fail
      refine (dominates_code _ _ l a1 a2 HI1.out (by rw [HL.out]; omega)).mono ?_
      rintro e v4 ⟨rfl, hb4⟩
      rw [dominates_same]
      have HB4 := Lib.hid (HB1.out.trans (hb4.mono HB1.out.size))
      have HI4 := Lib.hid (HI1.out.keep hb4)
      clear hb4 HB1 HI1
      go_wp2_with fail
      refine (rdominates_any _ _ l a1 a2 HI4.out (by rw [HL.out]; omega)).mono ?_
      rintro e v5 ⟨rfl, rfl⟩
      generalize dominatesL l a1 a2 = d at *
      go_wp2_with fail
      refine (dominates_code _ _ l x y HI4.out (by rw [HL.out]; omega)).mono ?_
      rintro e v6 ⟨rfl, hb6⟩
      rw [dominates_same]
      have HB6 := Lib.hid (HB4.out.trans (hb6.mono HB4.out.size))
      have HI6 := Lib.hid (HI4.out.keep hb6)
      clear hb6 HB4 HI4
      go_wp2_with fail
      refine (rdominates_any _ _ l x y HI6.out (by rw [HL.out]; omega)).mono ?_
      rintro e v7 ⟨rfl, rfl⟩
      generalize dominatesL l x y = d2 at *
      go_wp2_with fail
      refine (dominates_code _ _ l x x HI6.out (by rw [HL.out]; omega)).mono ?_
      rintro e v8 ⟨rfl, hb8⟩
      rw [dominates_self ⟨hx0, by rw [HL.out]; exact hx1⟩]
      have HB8 := Lib.hid (HB6.out.trans (hb8.mono HB6.out.size))
      clear hb8 HB6 HI6
      go_wp2
      go_ret
      exact ⟨rfl, HB8.out⟩

/-! ### THE ROW's STEP: WRITTEN OUT: LEAVE IT -/
set_option maxRecDepth 100000 in
theorem lifted (os : Os) (started : os.Started) (H : Type) (enc : TypeId × Value → H) :
    ReturnsInHanded {} Try.checked os 7 .any (Rows.graphChainsSpec.pre6 enc Try.prog Try.f7 Rows.graphChainsRow.domain false) (Rows.graphChainsSpec.post enc Try.prog Try.f7 false true false false) := by
  refine returnsInHanded_of_change (C := Try.checked) own started (by kernel_rfl) Try.func7
    (ChangeSpec.witness6 (enc := enc) (C := Try.checked) false ⟨#[], #[.slice none 0 0, .int .i64 0, .int .i64 0], []⟩ 8 (by kernel_rfl) (by kernel_rfl) (by kernel_rfl) (by kernel_rfl)) ?_
  intro W base args ds gs before hval0 hW hcnd _
  have hval : ∀ (j : Nat) t v, Try.f7.params[j]? = some t → args[j]? = some v → Value.okWide Try.prog W .any base t v := hval0
  have hW' := hW
  obtain ⟨p, q, hA0, hV, rfl, hfz, hnd⟩ := hW
  have hA : DataW.TrodAll enc Try.prog W 0 (fun _ => true) true Try.f7.params.toList args.toList ds p := hA0
  rw [Try.params7] at hA hval
  obtain ⟨v0, vs0, d0, ds0, p0, q0, hargs, rfl, rfl, h0, r0⟩ := trodAll_cons hA
  obtain ⟨v1, vs1, d1, ds1, p1, q1, rfl, rfl, rfl, h1, r1⟩ := trodAll_cons r0
  obtain ⟨v2, vs2, d2, ds2, p2, q2, rfl, rfl, rfl, h2, r2⟩ := trodAll_cons r1
  obtain ⟨rfl, rfl, rfl⟩ := trodAll_nil r2
  obtain rfl : args = #[v0, v1, v2] := by cases args; simp_all
  obtain ⟨rfl, rfl⟩ := trodVars_none hV
  obtain ⟨a0, len0, cap0, rfl⟩ := okWide_slice Try.underlying23 (hval 0 23 v0 rfl rfl)
  have k0 := h0
  have lt0 : ∀ x ∈ p0, x.block < W.heap.size := by obtain ⟨m, hm⟩ := k0; exact DataW.trod_lt m _ _ _ hm
  obtain ⟨z0, w0⟩ : ∃ zs, IsRow .i64 W a0 len0 cap0 zs := by
    obtain ⟨fuel, hf⟩ := h0
    rcases open_ints Try.underlying23 Try.underlying3 (by kernel_rfl) hf with ⟨hcs, _⟩ | ⟨x, l, c, zs, hcs, _, hl, hm, hz, _, hcell, hwz⟩
    · simp [Value.cells] at hcs
      obtain ⟨rfl, rfl, rfl⟩ := hcs
      exact ⟨[], .inl ⟨rfl, rfl, rfl, rfl⟩⟩
    · simp [Value.cells] at hcs
      obtain ⟨rfl, rfl, rfl⟩ := hcs
      exact ⟨zs, .inr ⟨_, rfl, hl, hm, by simpa using hz, hcell, hwz⟩⟩
  obtain ⟨a1, rfl, rfl, rfl, w1⟩ := open_int Try.underlying3 (hval 1 3 v1 rfl rfl) h1
  obtain ⟨a2, rfl, rfl, rfl, w2⟩ := open_int Try.underlying3 (hval 2 3 v2 rfl rfl) h2
  clear hA0 hval0
  refine (walk a0 len0 cap0 z0 a1 a2 W w0 w1 w2).mono fun e W' ⟨he, bel⟩ => ?_
  subst he
  exact ⟨_, rfl, _, _, _, [], _, [], hW', trodAll_mk1 (shut_bool Try.underlying4 _), (trodAll_cons_mk (Below.trod laidOut (by kernel_rfl) (of_decide_eq_true (by kernel_rfl)) k0 bel lt0) (trodAll_cons_mk (shut_int Try.underlying3 w1) (trodAll_cons_mk (shut_int Try.underlying3 w2) trodAll_mk0))), rfl, bel.frame _, fun h => by cases h⟩

theorem over : Rows.graphChainsRow.holds Try.pinned (OpenSpec.ofChange Rows.graphChainsSpec) :=
  OpenClaim.holds_of_wide 7 Try.f7 rfl rfl rfl rfl rfl rfl rfl ⟨rfl, rfl, rfl, rfl, rfl⟩ rfl rfl rfl rfl rfl (by kernel_rfl) Try.func7 (by kernel_rfl)
    (of_decide_eq_true (by kernel_rfl)) (by unfold Func.isWrapper; first | (rw [if_pos (by decide +kernel)]; kernel_rfl) | (rw [if_neg (by decide +kernel)]; exact ⟨rfl, rfl⟩))
    (fun os started H enc _ => lifted os started H enc)

/-- ████ THE STATEMENT ████ -/
theorem proved : Rows.GraphChainsSaid := over
#print axioms proved
end Go.Proofs.Ythanbedmiaacdaa.graphChains
