/- What is proved: what an order of moves does, one by one, is what its moves do all at once, to all places but scratch and spare ones (law MovesAlike): for every row of numbers, with a scratch register or without, and every word the law answers true. Conditions: none beside those that the given row's own sentence names. -/
import Derived.Test.YtacfkjkpfmpdmaaRows
import Derived.Test.YtacfkjkpfmpdmaaVAN
import Derived.WalkKit
import Derived.ProofKit
import Derived.OpenShut
import Derived.ShutString
import Derived.ChangeOld
import Derived.Below
namespace Go.Proofs.Ytacfkjkpfmpdmaa.movesAlike
open Go.ChangeShapes Go.WideShapes Go.ChangeAt Go.RowKit
open Go.ChangeMaps (open_string shut_string)
set_option linter.unusedVariables false

theorem own : ownKnob Try.prog.godebug = none := by kernel_rfl
theorem laidOut : laidOutB Try.prog = true := by kernel_rfl

/-- WHAT THE WALK IS TOLD OF A SLICE OF INTEGERS THAT CAME IN: it is nil; or it leads to a row of 'cap' cells, the numbers 'zs' (the first 'len' are its elements, the rest its spare room), each fitting its kind. -/
def IsRow (k : IntKind) (w : World) (a : Option Addr) (len cap : Nat) (zs : List Int) : Prop :=
  (a = none ∧ len = 0 ∧ cap = 0 ∧ zs = []) ∨
  ∃ x, a = some x ∧ len ≤ cap ∧ cap ≤ maxLen ∧ zs.length = cap ∧ (∀ i, i < zs.length → w.cell? (x.add i) = some (.int k (zs.getD i 0))) ∧ ∀ n ∈ zs, (Lit.int k n).wf = true

open Go.Maps Go.Proofs.Ytacfkjkpfmpdmaa.Mem Go.Proofs.Ytacfkjkpfmpdmaa.Br Go.Proofs.Ytacfkjkpfmpdmaa.Va Go.Proofs.Ytacfkjkpfmpdmaa.Vm

/-! ### STEP 1: THE WALK: the Go text returns true, AND WRITES NOTHING THAT WAS THERE: 'Below w.heap.size w w'' (Derived/Below.lean: '.refl', '.alloc', '.drew', '.setCell' at a new block, '.trans'). Open each 'IsRow' by 'rcases' AHEAD of 'go_enter'; part every test ahead of the walk. -/
set_option maxRecDepth 100000 in
set_option maxHeartbeats 4000000 in
theorem walk (a0 : Option Addr) (len0 cap0 : Nat) (z0 : List Int) (a1 : Bool) (a2 : Int) (w : World) (w0 : IsRow .i64 w a0 len0 cap0 z0) (w2 : (Lit.int .i32 a2).wf = true) :
    Calls Try.prog 5 #[.slice a0 len0 cap0, .bool a1, .int .i32 a2] w fun e w' => e = .returned (.bool true) ∧ Below w.heap.size w w' := by
  obtain ⟨hl0, hi0⟩ := row_ints w0 (Nat.le_refl len0)
  generalize hs : z0.take len0 = s at *
  have HI0 := Lib.hid hi0
  clear hs w0 hl0 hi0
  go_enter Try.func5, Try.ntmps5
  go_wp2_with fail
  refine (awake_any _).mono ?_
  rintro e v1 ⟨rfl, hb1⟩
  have HB1 := Lib.hid hb1
  have HI1 := Lib.hid (ints_keep HI0.out hb1)
  clear hb1 HI0
  go_wp2_with fail
  refine (made_any v1 _ s HI1.out).mono ?_
  rintro e v2 ⟨vl, rfl, hol, hb2⟩
  have HB2 := Lib.hid (HB1.out.trans (hb2.mono HB1.out.size))
  have HL2 := Lib.hid (MovesAt.of_own hol)
  have HPL := Lib.hid (fun m (hm : m ∈ madeM s) => made_plM hm)
  have HUN := Lib.hid (made_uni s)
  have HRN := Lib.hid (made_rng s)
  have hle := made_len s
  generalize madeM s = l at *
  clear hb2 hol HB1 HI1
  obtain ⟨sc, hsc, hsw⟩ : ∃ sc : Int, sc = (if a1 = true then 15 else -1) ∧ (sc = -1 ∨ sc = 15) := by cases a1 <;> simp
  have HF := Lib.hid (show faultN l sc 10 = 0 from fault_none HUN.out HPL.out hsw (Or.inr rfl))
  have HE := Lib.hid (show (orderN l sc 10).2 = 0 from order_fine HF.out (by omega))
  have HAL := Lib.hid (alike HUN.out HPL.out hsw)
  have HOK := Lib.hid (order_ok l sc 10)
  have HOL := Lib.hid (order_len (l := l) (by omega) sc 10)
  have HSC := Lib.hid hsc
  obtain ⟨xs, hxs⟩ : ∃ xs, (orderN l sc 10).1 = xs := ⟨_, rfl⟩
  rw [hxs] at HAL HOK HOL
  have HXS := Lib.hid hxs
  clear hxs
  cases a1
  all_goals
    obtain rfl := HSC.out
    simp only [Bool.false_eq_true, if_false, if_true] at HE HAL HXS HF
    clear hsc hsw HSC
    go_wp2_with fail
    refine (order_any v2 _ l _ 10 HL2.out (by omega) HRN.out).mono ?_
    rintro e v3 ⟨vc, rfl, hoc, hb⟩
    rw [HE.out]
    rw [HXS.out] at hoc
    have HC3 := Lib.hid (pms_of_own hoc HOK.out)
    have HB3 := Lib.hid (HB2.out.trans (hb.mono HB2.out.size))
    have HL3 := Lib.hid (MovesAt.keep HL2.out hb)
    clear hoc hb HE HF
    go_wp2_with fail
    refine (start_any v3 _).mono ?_
    rintro e v4 ⟨vp, p, rfl, hp40, hop, hb⟩
    have HP4 := Lib.hid (words_of_own hop)
    have HC4 := Lib.hid (PmsAt.keep HC3.out hb)
    have HB4 := Lib.hid (HB3.out.trans (hb.mono HB3.out.size))
    have HL4 := Lib.hid (MovesAt.keep HL3.out hb)
    clear hop hb HC3 HB3 HL3 HL2 HB2
    go_wp2_with fail
    refine (do_any v4 _ _ _ p HC4.out HP4.out (Nat.le_trans HOL.out (by omega)) (by omega)).mono ?_
    rintro e v5 ⟨va, rfl, hoa, hb⟩
    have HA5 := Lib.hid (words_of_own hoa)
    have HP5 := Lib.hid (words_keep HP4.out hb)
    have HB5 := Lib.hid (HB4.out.trans (hb.mono HB4.out.size))
    have HL5 := Lib.hid (MovesAt.keep HL4.out hb)
    clear hoa hb HC4 HP4 HB4 HL4
    go_wp2_with fail
    refine (after_any v5 _ _ l p HL5.out HP5.out (by omega) (by omega)).mono ?_
    rintro e v6 ⟨vb, rfl, hob, hb⟩
    have HBB6 := Lib.hid (words_of_own hob)
    have HA6 := Lib.hid (words_keep HA5.out hb)
    have HB6 := Lib.hid (HB5.out.trans (hb.mono HB5.out.size))
    have HEQ := Lib.hid (HAL.out p hp40)
    have hda : (doN xs p).length = 40 := by rw [doN_len]; exact hp40
    have hdb : (afterN l p).length = 40 := by unfold afterN; rw [afterN_len]; exact hp40
    clear hob hb HP5 HB5 HL5 HA5 HAL HOK HOL
    generalize doN xs p = a at *
    generalize afterN l p = b at *
    obtain ⟨aA, ac, rfl, a1', a2', -⟩ := id HA6.out
    obtain ⟨bA, bc, rfl, b1', b2', -⟩ := id HBB6.out
    unfold maxLen at a2' b2'
    rw [hda] at a1'
    rw [hdb] at b1'
    obtain ⟨aad, rfl, hac⟩ := words_at HA6.out (by omega)
    obtain ⟨bad, rfl, hbc⟩ := words_at HBB6.out (by omega)
    have HAC := Lib.hid hac
    have HBC := Lib.hid hbc
    clear hac hbc HA6 HBB6
    simp only [hda, hdb]
    have e40 : ((40 : Nat) : Int) = 40 := rfl
    go_wp2_with fail
    go_loopw [15] (fun i wr => ∃ k q : Nat, k ≤ 40 ∧ i = .int .i64 k ∧ wr = v6.drewN q) (fun i _ => 40 - (Go.RowKit.intOf i).toNat)
    case atStart => exact ⟨0, 0, Nat.zero_le _, rfl, rfl⟩
    case round =>
      obtain ⟨k, q, hk2, rfl, hw⟩ := hrel
      obtain ⟨wx, rfl⟩ : ∃ wx : World, wx = wr := ⟨_, rfl⟩
      have HWX := Lib.hid hw
      by_cases hlt : k < 40
      · have ca : wx.cell? (aad.add k) = some (.int .i32 (a[k]'(by omega))) := by rw [hw]; exact HAC.out k (by omega)
        have cb : wx.cell? (bad.add k) = some (.int .i32 (b[k]'(by omega))) := by rw [hw]; exact HBC.out k (by omega)
        have HE := Lib.hid (HEQ.out (k : Int))
        rw [atV_get (by omega), atV_get (by omega)] at HE
        clear hw
        generalize a[k]'(by omega) = x at *
        generalize b[k]'(by omega) = y at *
        by_cases hxy : x = y
        · subst hxy
          have hne : (x != x) = false := by simp
          go_wp2_with fail
          go_quiet (fail)
          go_wp2
          exact ⟨⟨k + 1, q + nq, by omega, by go_num, by rw [HWX.out]; simp [World.drewN, Nat.add_assoc]⟩, by simp [Go.RowKit.intOf]; omega⟩
        · have hne : (x != y) = true := by simpa using hxy
          have hcase : k = 26 ∨ k = 27 ∨ k = 15 := by
            rcases Decidable.em (k = 26 ∨ k = 27 ∨ k = 15) with h | h
            · exact h
            · exact absurd (HE.out ⟨by omega, by omega, fun _ => by omega⟩) hxy
          rcases hcase with hk | hk | hk
          · have n26 : ((k : Int) != 26) = false := by rw [hk]; rfl
            clear HE hk
            go_wp2_with fail
            go_quiet (fail)
            go_wp2
            exact ⟨⟨k + 1, q + nq, by omega, by go_num, by rw [HWX.out]; simp [World.drewN, Nat.add_assoc]⟩, by simp [Go.RowKit.intOf]; omega⟩
          · have n26 : ((k : Int) != 26) = true := by rw [hk]; rfl
            have n27 : ((k : Int) != 27) = false := by rw [hk]; rfl
            clear HE hk
            go_wp2_with fail
            go_quiet (fail)
            go_wp2
            exact ⟨⟨k + 1, q + nq, by omega, by go_num, by rw [HWX.out]; simp [World.drewN, Nat.add_assoc]⟩, by simp [Go.RowKit.intOf]; omega⟩
          · have n26 : ((k : Int) != 26) = true := by rw [hk]; rfl
            have n27 : ((k : Int) != 27) = true := by rw [hk]; rfl
            have n15 : ((k : Int) != 15) = false := by rw [hk]; rfl
            first
            | exact absurd (HE.out ⟨by omega, by omega, fun h => absurd h (by omega)⟩) hxy
            | (clear HE hk
               go_wp2_with fail
               go_quiet (fail)
               go_wp2
               exact ⟨⟨k + 1, q + nq, by omega, by go_num, by rw [HWX.out]; simp [World.drewN, Nat.add_assoc]⟩, by simp [Go.RowKit.intOf]; omega⟩)
      · obtain rfl : k = 40 := by omega
        have HBF := Lib.hid (show Below w.heap.size w wx by rw [hw]; exact below_drewN HB6.out _)
        clear hw
        go_wp2
        go_ret
        exact ⟨rfl, HBF.out⟩

/-! ### THE ROW's STEP: WRITTEN OUT: LEAVE IT -/
set_option maxRecDepth 100000 in
theorem lifted (os : Os) (started : os.Started) (H : Type) (enc : TypeId × Value → H) :
    ReturnsInHanded {} Try.checked os 5 .any (Rows.movesAlikeSpec.pre6 enc Try.prog Try.f5 Rows.movesAlikeRow.domain false) (Rows.movesAlikeSpec.post enc Try.prog Try.f5 false true false false) := by
  refine returnsInHanded_of_change (C := Try.checked) own started (by kernel_rfl) Try.func5
    (ChangeSpec.witness6 (enc := enc) (C := Try.checked) false ⟨#[], #[.slice none 0 0, .bool false, .int .i32 0], []⟩ 8 (by kernel_rfl) (by kernel_rfl) (by kernel_rfl) (by kernel_rfl)) ?_
  intro W base args ds gs before hval0 hW hcnd _
  have hval : ∀ (j : Nat) t v, Try.f5.params[j]? = some t → args[j]? = some v → Value.okWide Try.prog W .any base t v := hval0
  have hW' := hW
  obtain ⟨p, q, hA0, hV, rfl, hfz, hnd⟩ := hW
  have hA : DataW.TrodAll enc Try.prog W 0 (fun _ => true) true Try.f5.params.toList args.toList ds p := hA0
  rw [Try.params5] at hA hval
  obtain ⟨v0, vs0, d0, ds0, p0, q0, hargs, rfl, rfl, h0, r0⟩ := trodAll_cons hA
  obtain ⟨v1, vs1, d1, ds1, p1, q1, rfl, rfl, rfl, h1, r1⟩ := trodAll_cons r0
  obtain ⟨v2, vs2, d2, ds2, p2, q2, rfl, rfl, rfl, h2, r2⟩ := trodAll_cons r1
  obtain ⟨rfl, rfl, rfl⟩ := trodAll_nil r2
  obtain rfl : args = #[v0, v1, v2] := by cases args; simp_all
  obtain ⟨rfl, rfl⟩ := trodVars_none hV
  obtain ⟨a0, len0, cap0, rfl⟩ := okWide_slice Try.underlying23 (hval 0 23 v0 rfl rfl)
  have k0 := h0
  have lt0 : ∀ x ∈ p0, x.block < W.heap.size := by obtain ⟨m, hm⟩ := k0; exact DataW.trod_lt m _ _ _ hm
  obtain ⟨z0, w0⟩ : ∃ zs, IsRow .i64 W a0 len0 cap0 zs := by
    obtain ⟨fuel, hf⟩ := h0
    rcases open_ints Try.underlying23 Try.underlying3 (by kernel_rfl) hf with ⟨hcs, _⟩ | ⟨x, l, c, zs, hcs, _, hl, hm, hz, _, hcell, hwz⟩
    · simp [Value.cells] at hcs
      obtain ⟨rfl, rfl, rfl⟩ := hcs
      exact ⟨[], .inl ⟨rfl, rfl, rfl, rfl⟩⟩
    · simp [Value.cells] at hcs
      obtain ⟨rfl, rfl, rfl⟩ := hcs
      exact ⟨zs, .inr ⟨_, rfl, hl, hm, by simpa using hz, hcell, hwz⟩⟩
  obtain ⟨a1, rfl, rfl, rfl⟩ := open_bool Try.underlying4 (hval 1 4 v1 rfl rfl) h1
  obtain ⟨a2, rfl, rfl, rfl, w2⟩ := open_int Try.underlying21 (hval 2 21 v2 rfl rfl) h2
  clear hA0 hval0
  refine (walk a0 len0 cap0 z0 a1 a2 W w0 w2).mono fun e W' ⟨he, bel⟩ => ?_
  subst he
  exact ⟨_, rfl, _, _, _, [], _, [], hW', trodAll_mk1 (shut_bool Try.underlying4 _), (trodAll_cons_mk (Below.trod laidOut (by kernel_rfl) (of_decide_eq_true (by kernel_rfl)) k0 bel lt0) (trodAll_cons_mk (shut_bool Try.underlying4 _) (trodAll_cons_mk (shut_int Try.underlying21 w2) trodAll_mk0))), rfl, bel.frame _, fun h => by cases h⟩

theorem over : Rows.movesAlikeRow.holds Try.pinned (OpenSpec.ofChange Rows.movesAlikeSpec) :=
  OpenClaim.holds_of_wide 5 Try.f5 rfl rfl rfl rfl rfl rfl rfl ⟨rfl, rfl, rfl, rfl, rfl⟩ rfl rfl rfl rfl rfl (by kernel_rfl) Try.func5 (by kernel_rfl)
    (of_decide_eq_true (by kernel_rfl)) (by unfold Func.isWrapper; first | (rw [if_pos (by decide +kernel)]; kernel_rfl) | (rw [if_neg (by decide +kernel)]; exact ⟨rfl, rfl⟩))
    (fun os started H enc _ => lifted os started H enc)

/-- ████ THE STATEMENT ████ -/
theorem proved : Rows.MovesAlikeSaid := over
#print axioms proved
end Go.Proofs.Ytacfkjkpfmpdmaa.movesAlike
