/- What is proved: in which order moves are handed in plays no part in moves' Order (law MovesTurned): for every row of numbers, every number to turn by, with a scratch register or without, the law answers true. Conditions: none beside those that the given row's own sentence names. -/
import Derived.Test.YtacfkjkpfmpdmaaRows
import Derived.Test.YtacfkjkpfmpdmaaVAP
import Derived.WalkKit
import Derived.ProofKit
import Derived.OpenShut
import Derived.ShutString
import Derived.ChangeOld
import Derived.Below
namespace Go.Proofs.Ytacfkjkpfmpdmaa.movesTurned
open Go.ChangeShapes Go.WideShapes Go.ChangeAt Go.RowKit
open Go.ChangeMaps (open_string shut_string)
set_option linter.unusedVariables false

theorem own : ownKnob Try.prog.godebug = none := by kernel_rfl
theorem laidOut : laidOutB Try.prog = true := by kernel_rfl

/-- WHAT THE WALK IS TOLD OF A SLICE OF INTEGERS THAT CAME IN: it is nil; or it leads to a row of 'cap' cells, the numbers 'zs' (the first 'len' are its elements, the rest its spare room), each fitting its kind. -/
def IsRow (k : IntKind) (w : World) (a : Option Addr) (len cap : Nat) (zs : List Int) : Prop :=
  (a = none ∧ len = 0 ∧ cap = 0 ∧ zs = []) ∨
  ∃ x, a = some x ∧ len ≤ cap ∧ cap ≤ maxLen ∧ zs.length = cap ∧ (∀ i, i < zs.length → w.cell? (x.add i) = some (.int k (zs.getD i 0))) ∧ ∀ n ∈ zs, (Lit.int k n).wf = true

open Go.Maps Go.Proofs.Ytacfkjkpfmpdmaa.Mem Go.Proofs.Ytacfkjkpfmpdmaa.Br Go.Proofs.Ytacfkjkpfmpdmaa.Va Go.Proofs.Ytacfkjkpfmpdmaa.Vm

/-! ### STEP 1: THE WALK: the Go text returns true, AND WRITES NOTHING THAT WAS THERE: 'Below w.heap.size w w'' (Derived/Below.lean: '.refl', '.alloc', '.drew', '.setCell' at a new block, '.trans'). Open each 'IsRow' by 'rcases' AHEAD of 'go_enter'; part every test ahead of the walk. -/
set_option maxRecDepth 100000 in
set_option maxHeartbeats 4000000 in
theorem walk (a0 : Option Addr) (len0 cap0 : Nat) (z0 : List Int) (a1 : Int) (a2 : Bool) (w : World) (w0 : IsRow .i64 w a0 len0 cap0 z0) (w1 : (Lit.int .i64 a1).wf = true) :
    Calls Try.prog 10 #[.slice a0 len0 cap0, .int .i64 a1, .bool a2] w fun e w' => e = .returned (.bool true) ∧ Below w.heap.size w w' := by
  obtain ⟨hl0, hi0⟩ := row_ints w0 (Nat.le_refl len0)
  generalize hs : z0.take len0 = s at *
  have HI0 := Lib.hid hi0
  clear hs w0 hl0 hi0
  go_enter Try.func10, Try.ntmps10
  go_wp2_with fail
  refine (awake_any _).mono ?_
  rintro e v1 ⟨rfl, hb1⟩
  have HB1 := Lib.hid hb1
  have HI1 := Lib.hid (ints_keep HI0.out hb1)
  clear hb1 HI0
  go_wp2_with fail
  refine (made_any v1 _ s HI1.out).mono ?_
  rintro e v2 ⟨vl, rfl, hol, hb2⟩
  have HB2 := Lib.hid (HB1.out.trans (hb2.mono HB1.out.size))
  have HL2 := Lib.hid (MovesAt.of_own hol)
  have HPL := Lib.hid (fun m (hm : m ∈ madeM s) => made_plM hm)
  have HUN := Lib.hid (made_uni s)
  have HRN := Lib.hid (made_rng s)
  have hle := made_len s
  generalize madeM s = l at *
  clear hb2 hol HB1 HI1
  obtain ⟨lA, lc, lb0, lo0, rfl, l1, l2, -⟩ := id HL2.out
  unfold maxLen at l2
  by_cases h0 : l.length = 0
  · have e0 : ((l.length : Int) == 0) = true := by rw [h0]; rfl
    go_wp2_with fail
    go_ret
    exact ⟨rfl, HB2.out⟩
  · have e0 : ((l.length : Int) == 0) = false := beq_eq_false_iff_ne.2 (by omega)
    obtain ⟨g, o, rfl, -, hcs⟩ := moves_cells HL2.out (by omega)
    have HCS := Lib.hid hcs
    clear hcs
    obtain ⟨k, hk⟩ : ∃ k : Nat, a1 % (l.length : Int) = k := ⟨(a1 % (l.length : Int)).toNat, by have := Int.emod_nonneg a1 (show (l.length : Int) ≠ 0 by omega); omega⟩
    have hkl : k < l.length := by have := Int.emod_lt_of_pos a1 (show (0 : Int) < l.length by omega); omega
    have HKK := Lib.hid hk
    clear hk
    have hpm : l.Perm (l.drop k ++ l.take k) := (List.perm_append_comm.trans (by rw [List.take_append_drop])).symm
    have HRM := Lib.hid (show Vm.Rng (l.drop k ++ l.take k) from fun m hm => HRN.out m (hpm.mem_iff.2 hm))
    have HF := Lib.hid (show ∀ sc : Int, (sc = -1 ∨ sc = 15) → orderN l sc 10 = orderN (l.drop k ++ l.take k) sc 10 ∧ (orderN l sc 10).2 = 0 from fun sc hs => by
      have f1 := fault_none HUN.out HPL.out hs (Or.inr (rfl : (10 : Int) = 10))
      have f2 := fault_none (uni_perm HUN.out hpm) (fun m hm => HPL.out m (hpm.mem_iff.2 hm)) hs (Or.inr (rfl : (10 : Int) = 10))
      exact ⟨order_perm hpm HUN.out sc 10 f1 f2, order_fine f1 (by omega)⟩)
    clear hpm
    cases a2
    all_goals
      go_wp2_with fail
      refine (rest_any v2 _ _ (by omega) (by omega)).mono ?_
      rintro e w2 ⟨rfl, hw2⟩
      obtain rfl : v2 = w2 := hw2.symm
      rw [HKK.out]
      go_wp2_with fail
      refine region_heldT_wp (fun w' => True) [1, 2, 3, 5, 6, 7] [1, 2, 3, 5, 6, 7, 0, 4, 8, 9] 9 (by kernel_rfl) (by kernel_rfl) (by kernel_rfl) (by kernel_rfl) rfl (by intro c a d v w h; cases d <;> exact h) trivial ?_
      refine walkH_still _ ?q1 rfl rfl rfl ?qy1 ?_
      case qy1 => intro w hS; go_simp; first | done | with_reducible rfl
      simp only [Act.put]
      refine walkH_still _ ?q2 rfl rfl rfl ?qy2 ?_
      case qy2 => intro w hS; go_simp; first | done | with_reducible rfl
      simp only [Act.put]
      refine walkH_still _ (.slice (some ⟨g, o + k * 2, none⟩) (l.length - k) (lc - k)) rfl rfl rfl ?qy3 ?_
      case qy3 => intro w hS; go_simp; first | done | (rw [if_pos (by omega), if_neg (by omega)]) | (rw [if_pos (by omega)]) | (intro h; omega)
      simp only [Act.put]
      refine walkH_still _ ?q5 rfl rfl rfl ?qy5 ?_
      case qy5 => intro w hS; go_simp; first | done | with_reducible rfl
      simp only [Act.put]
      refine walkH_still _ ?q6 rfl rfl rfl ?qy6 ?_
      case qy6 => intro w hS; go_simp; first | done | with_reducible rfl
      simp only [Act.put]
      refine walkH_still _ (.slice (some ⟨g, o, none⟩) k lc) rfl rfl rfl ?qy7 ?_
      case qy7 => intro w hS; go_simp; first | done | (rw [if_pos (by omega), if_neg (by omega)]) | (rw [if_pos (by omega)]) | (intro h; omega)
      simp only [Act.put]
      obtain ⟨W1, hW1⟩ : ∃ W1, (v2.drew).alloc (.cells #[] 43) = W1 := ⟨_, rfl⟩
      have hb1 : Below v2.heap.size v2 W1 := by rw [← hW1]; exact ((Below.refl _ v2).drew).alloc (Nat.le_refl _) _
      have HE := Lib.hid (show OwnMv v2.heap.size W1 (.slice (some ⟨v2.heap.size, 0, none⟩) 0 0) [] by rw [← hW1]; exact empty_ownV v2.drew _ 2)
      have hz1 := hb1.size
      have HC1 := Lib.hid (show ∀ j u, ((l.drop k).flatMap cellsV)[j]? = some u → W1.cell? ((⟨g, o + k * 2, none⟩ : Addr).add j) = some u from fun j u hj => cell_keep hb1 (Nat.le_refl _) (HCS.out k l.length j u (by rw [List.take_of_length_le (by rw [List.length_drop]; omega)]; exact hj)))
      have HC2 := Lib.hid (show ∀ j u, ((l.take k).flatMap cellsV)[j]? = some u → v2.cell? ((⟨g, o, none⟩ : Addr).add j) = some u from fun j u hj => by
        have h := HCS.out 0 k j u (by rw [List.drop_zero]; exact hj)
        rw [Nat.zero_mul, Nat.add_zero] at h
        exact h)
      have HBW1 := Lib.hid hb1
      clear hb1
      try simp only [List.setIfInBounds_toArray, List.set_cons_zero, List.set_cons_succ]
      refine walkHd _ rfl rfl ?_
      go_wp2_with fail
      clear hW1
      refine behindH (Or.inl trivial) ?_
      try simp only [List.setIfInBounds_toArray, List.set_cons_zero, List.set_cons_succ]
      refine walkHd _ rfl rfl ?_
      refine wpList_mvs rfl _ _ rfl rfl v2.heap.size (.slice (some ⟨v2.heap.size, 0, none⟩) 0 0) [] (l.drop k) rfl HE.out ⟨g, o + k * 2, none⟩ (lc - k) (by rw [List.length_drop]; rfl) HC1.out (by rw [List.length_drop, List.length_nil]; omega) hz1 ?_
      intro v3 w3 ho3 hg3
      have HO3 := Lib.hid ho3
      have HBW3 := Lib.hid (HBW1.out.grown hg3 hz1 (fun j e => by cases e; exact Nat.le_refl _))
      have hz3 := HBW3.out.size
      clear ho3 hg3 HE HBW1
      go_wp2_with fail
      refine behindH (Or.inl trivial) ?_
      try simp only [List.setIfInBounds_toArray, List.set_cons_zero, List.set_cons_succ]
      refine walkHd _ rfl rfl ?_
      refine wpList_mvs rfl _ _ rfl rfl v2.heap.size v3 ([] ++ l.drop k) (l.take k) rfl HO3.out ⟨g, o, none⟩ lc (by rw [List.length_take, Nat.min_eq_left (by omega)]; rfl) (fun j u hj => cell_keep HBW3.out (Nat.le_refl _) (HC2.out j u hj)) (by rw [List.nil_append, List.length_drop, List.length_take]; omega) hz3 ?_
      intro v4 w4 ho4 hg4
      have HO4 := Lib.hid (show OwnMv v2.heap.size w4 v4 (l.drop k ++ l.take k) from ho4)
      have HBW4 := Lib.hid (HBW3.out.grown hg4 hz3 (fun j e => (World.ownsRow.lt HO3.out j e).1))
      clear ho4 hg4 HO3 HBW3
      go_wp2_with fail
      refine behindH (Or.inl trivial) ?_
      try simp only [List.setIfInBounds_toArray, List.set_cons_zero, List.set_cons_succ]
      refine walkHd _ rfl rfl ?_
      go_wp2_with fail
      refine behindH (Or.inr rfl) (walkH_nil ?_)
      go_wp2_with fail
      refine (order_any w4 _ l _ 10 (MovesAt.keep HL2.out HBW4.out) (by omega) HRN.out).mono ?_
      rintro e w5 ⟨v5, rfl, ho5, hb5⟩
      rw [(HF.out _ (by simp)).2]
      have HX5 := Lib.hid (MachAt.of_own ho5)
      have HM5 := Lib.hid (MovesAt.keep (MovesAt.of_own HO4.out) hb5)
      have HB5 := Lib.hid (HB2.out.trans ((HBW4.out.trans (hb5.mono HBW4.out.size)).mono HB2.out.size))
      clear ho5 hb5 HO4 HBW4
      go_wp2_with fail
      refine (order_any w5 _ (l.drop k ++ l.take k) _ 10 HM5.out (by rw [List.length_append, List.length_drop, List.length_take]; omega) HRM.out).mono ?_
      rintro e w6 ⟨v6, rfl, ho6, hb6⟩
      rw [← (HF.out _ (by simp)).1] at ho6 ⊢
      rw [(HF.out _ (by simp)).2]
      have HX6 := Lib.hid (MachAt.of_own ho6)
      have HY6 := Lib.hid (MachAt.keep HX5.out hb6)
      have HB6 := Lib.hid (HB5.out.trans (hb6.mono HB5.out.size))
      clear ho6 hb6 HX5 HM5 HB5
      go_wp2_with fail
      refine (same_any w6 _ _ _ _ HY6.out HX6.out (Nat.le_trans (order_len (by omega) _ _) (by omega))).mono ?_
      rintro e w7 ⟨rfl, hb7⟩
      rw [show ∀ xs, sameN xs xs = true from fun xs => by unfold sameN; exact decide_eq_true rfl]
      have HBF := Lib.hid (HB6.out.trans (hb7.mono HB6.out.size))
      clear hb7 HY6 HX6 HB6
      go_wp2
      go_ret
      exact ⟨rfl, HBF.out⟩

/-! ### THE ROW's STEP: WRITTEN OUT: LEAVE IT -/
set_option maxRecDepth 100000 in
theorem lifted (os : Os) (started : os.Started) (H : Type) (enc : TypeId × Value → H) :
    ReturnsInHanded {} Try.checked os 10 .any (Rows.movesTurnedSpec.pre6 enc Try.prog Try.f10 Rows.movesTurnedRow.domain false) (Rows.movesTurnedSpec.post enc Try.prog Try.f10 false true false false) := by
  refine returnsInHanded_of_change (C := Try.checked) own started (by kernel_rfl) Try.func10
    (ChangeSpec.witness6 (enc := enc) (C := Try.checked) false ⟨#[], #[.slice none 0 0, .int .i64 0, .bool false], []⟩ 8 (by kernel_rfl) (by kernel_rfl) (by kernel_rfl) (by kernel_rfl)) ?_
  intro W base args ds gs before hval0 hW hcnd _
  have hval : ∀ (j : Nat) t v, Try.f10.params[j]? = some t → args[j]? = some v → Value.okWide Try.prog W .any base t v := hval0
  have hW' := hW
  obtain ⟨p, q, hA0, hV, rfl, hfz, hnd⟩ := hW
  have hA : DataW.TrodAll enc Try.prog W 0 (fun _ => true) true Try.f10.params.toList args.toList ds p := hA0
  rw [Try.params10] at hA hval
  obtain ⟨v0, vs0, d0, ds0, p0, q0, hargs, rfl, rfl, h0, r0⟩ := trodAll_cons hA
  obtain ⟨v1, vs1, d1, ds1, p1, q1, rfl, rfl, rfl, h1, r1⟩ := trodAll_cons r0
  obtain ⟨v2, vs2, d2, ds2, p2, q2, rfl, rfl, rfl, h2, r2⟩ := trodAll_cons r1
  obtain ⟨rfl, rfl, rfl⟩ := trodAll_nil r2
  obtain rfl : args = #[v0, v1, v2] := by cases args; simp_all
  obtain ⟨rfl, rfl⟩ := trodVars_none hV
  obtain ⟨a0, len0, cap0, rfl⟩ := okWide_slice Try.underlying23 (hval 0 23 v0 rfl rfl)
  have k0 := h0
  have lt0 : ∀ x ∈ p0, x.block < W.heap.size := by obtain ⟨m, hm⟩ := k0; exact DataW.trod_lt m _ _ _ hm
  obtain ⟨z0, w0⟩ : ∃ zs, IsRow .i64 W a0 len0 cap0 zs := by
    obtain ⟨fuel, hf⟩ := h0
    rcases open_ints Try.underlying23 Try.underlying3 (by kernel_rfl) hf with ⟨hcs, _⟩ | ⟨x, l, c, zs, hcs, _, hl, hm, hz, _, hcell, hwz⟩
    · simp [Value.cells] at hcs
      obtain ⟨rfl, rfl, rfl⟩ := hcs
      exact ⟨[], .inl ⟨rfl, rfl, rfl, rfl⟩⟩
    · simp [Value.cells] at hcs
      obtain ⟨rfl, rfl, rfl⟩ := hcs
      exact ⟨zs, .inr ⟨_, rfl, hl, hm, by simpa using hz, hcell, hwz⟩⟩
  obtain ⟨a1, rfl, rfl, rfl, w1⟩ := open_int Try.underlying3 (hval 1 3 v1 rfl rfl) h1
  obtain ⟨a2, rfl, rfl, rfl⟩ := open_bool Try.underlying4 (hval 2 4 v2 rfl rfl) h2
  clear hA0 hval0
  refine (walk a0 len0 cap0 z0 a1 a2 W w0 w1).mono fun e W' ⟨he, bel⟩ => ?_
  subst he
  exact ⟨_, rfl, _, _, _, [], _, [], hW', trodAll_mk1 (shut_bool Try.underlying4 _), (trodAll_cons_mk (Below.trod laidOut (by kernel_rfl) (of_decide_eq_true (by kernel_rfl)) k0 bel lt0) (trodAll_cons_mk (shut_int Try.underlying3 w1) (trodAll_cons_mk (shut_bool Try.underlying4 _) trodAll_mk0))), rfl, bel.frame _, fun h => by cases h⟩

theorem over : Rows.movesTurnedRow.holds Try.pinned (OpenSpec.ofChange Rows.movesTurnedSpec) :=
  OpenClaim.holds_of_wide 10 Try.f10 rfl rfl rfl rfl rfl rfl rfl ⟨rfl, rfl, rfl, rfl, rfl⟩ rfl rfl rfl rfl rfl (by kernel_rfl) Try.func10 (by kernel_rfl)
    (of_decide_eq_true (by kernel_rfl)) (by unfold Func.isWrapper; first | (rw [if_pos (by decide +kernel)]; kernel_rfl) | (rw [if_neg (by decide +kernel)]; exact ⟨rfl, rfl⟩))
    (fun os started H enc _ => lifted os started H enc)

/-- ████ THE STATEMENT ████ -/
theorem proved : Rows.MovesTurnedSaid := over
#print axioms proved
end Go.Proofs.Ytacfkjkpfmpdmaa.movesTurned
