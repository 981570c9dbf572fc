/- What is proved: of registers alone an order has an instruction for each move that is one, and, for each circle, one more with a scratch register, one less without; there is no other Op than the move, and, without, the swap (law MovesFew): for every row of numbers the law answers true. Conditions: none beside those that the given row's own sentence names. -/
import Derived.Test.YtacfkjkpfmpdmaaRows
import Derived.Test.YtacfkjkpfmpdmaaVCU
import Derived.Test.YtacfkjkpfmpdmaaVCX
import Derived.WalkKit
import Derived.ProofKit
import Derived.OpenShut
import Derived.ShutString
import Derived.ChangeOld
import Derived.Below
namespace Go.Proofs.Ytacfkjkpfmpdmaa.movesFew
open Go.ChangeShapes Go.WideShapes Go.ChangeAt Go.RowKit
open Go.ChangeMaps (open_string shut_string)
set_option linter.unusedVariables false

theorem own : ownKnob Try.prog.godebug = none := by kernel_rfl
theorem laidOut : laidOutB Try.prog = true := by kernel_rfl

/-- WHAT THE WALK IS TOLD OF A SLICE OF INTEGERS THAT CAME IN: it is nil; or it leads to a row of 'cap' cells, the numbers 'zs' (the first 'len' are its elements, the rest its spare room), each fitting its kind. -/
def IsRow (k : IntKind) (w : World) (a : Option Addr) (len cap : Nat) (zs : List Int) : Prop :=
  (a = none ∧ len = 0 ∧ cap = 0 ∧ zs = []) ∨
  ∃ x, a = some x ∧ len ≤ cap ∧ cap ≤ maxLen ∧ zs.length = cap ∧ (∀ i, i < zs.length → w.cell? (x.add i) = some (.int k (zs.getD i 0))) ∧ ∀ n ∈ zs, (Lit.int k n).wf = true

open Go.Maps Go.Proofs.Ytacfkjkpfmpdmaa.Mem Go.Proofs.Ytacfkjkpfmpdmaa.Br Go.Proofs.Ytacfkjkpfmpdmaa.Va Go.Proofs.Ytacfkjkpfmpdmaa.Vm
def isReg2 (m : Vm.Mov) : Bool := decide (m.1 < 16) && decide (m.2 < 16)
def fewM (l : List Vm.Mov) : List Vm.Mov := l.filter isReg2
def notSelf (m : Vm.Mov) : Bool := !(m.1 == m.2)
theorem few_take {l : List Vm.Mov} {k : Nat} (h : k < l.length) : fewM (l.take (k + 1)) = fewM (l.take k) ++ (if isReg2 l[k] = true then [l[k]] else []) := by
  rw [List.take_succ_eq_append_getElem h]; unfold fewM; rw [List.filter_append]
  congr 1
  by_cases h2 : isReg2 l[k] = true
  · rw [if_pos h2, List.filter_cons_of_pos h2]; rfl
  · rw [if_neg h2, List.filter_cons_of_neg h2]; rfl

/-! ### STEP 1: THE WALK: the Go text returns true, AND WRITES NOTHING THAT WAS THERE: 'Below w.heap.size w w'' (Derived/Below.lean: '.refl', '.alloc', '.drew', '.setCell' at a new block, '.trans'). Open each 'IsRow' by 'rcases' AHEAD of 'go_enter'; part every test ahead of the walk. -/
set_option maxRecDepth 100000 in
set_option maxHeartbeats 4000000 in
theorem walk (a0 : Option Addr) (len0 cap0 : Nat) (z0 : List Int) (w : World) (w0 : IsRow .i64 w a0 len0 cap0 z0) :
    Calls Try.prog 7 #[.slice a0 len0 cap0] w fun e w' => e = .returned (.bool true) ∧ Below w.heap.size w w' := by
  obtain ⟨hl0, hi0⟩ := row_ints w0 (Nat.le_refl len0)
  generalize hs : z0.take len0 = s at *
  have HI0 := Lib.hid hi0
  clear hs w0 hl0 hi0
  obtain ⟨i0, hi, hz0, hz1, hz2⟩ := info_parts info_mv
  have HI := Lib.hid hi
  have HZ0 := Lib.hid hz0
  have HZ1 := Lib.hid hz1
  have HZ2 := Lib.hid hz2
  clear hi hz0 hz1 hz2
  go_enter Try.func7, Try.ntmps7
  go_wp2_with fail
  refine (awake_any _).mono ?_
  rintro e v1 ⟨rfl, hb1⟩
  have HB1 := Lib.hid hb1
  have HI1 := Lib.hid (ints_keep HI0.out hb1)
  clear hb1 HI0
  go_wp2_with fail
  refine (made_any v1 _ s HI1.out).mono ?_
  rintro e v2 ⟨vl, rfl, hol, hb2⟩
  have HB2 := Lib.hid (HB1.out.trans (hb2.mono HB1.out.size))
  have HL2 := Lib.hid (MovesAt.of_own hol)
  have HPL := Lib.hid (fun m (hm : m ∈ madeM s) => made_plM hm)
  have HUN := Lib.hid (made_uni s)
  have HRN := Lib.hid (made_rng s)
  have hle := made_len s
  generalize madeM s = l at *
  clear hb2 hol HB1 HI1
  obtain ⟨lA, lc, lb0, lo0, rfl, l1, l2, -⟩ := id HL2.out
  unfold maxLen at l2
  go_wp2_with fail
  go_loopw [5, 6, 7] (fun o nv iv wr => ∃ k q : Nat, k ≤ l.length ∧ OwnMv v2.heap.size wr o (fewM (l.take k)) ∧ nv = .int .i64 q ∧ q = ((fewM (l.take k)).filter notSelf).length ∧ q ≤ k ∧ iv = .int .i64 k ∧ Below v2.heap.size v2 wr) (fun _ _ iv _ => l.length - (Go.RowKit.intOf iv).toNat)
  case atStart => exact ⟨0, 0, Nat.zero_le _, World.ownsRow_nil _ _ _ _, rfl, rfl, Nat.le_refl _, rfl, Below.refl _ _⟩
  case round =>
    obtain ⟨k, q, hk, ho, rfl, hq, hqk, rfl, hb⟩ := hrel
    have HO := Lib.hid ho
    have HB := Lib.hid hb
    clear ho hb
    by_cases hlt : k < l.length
    · obtain ⟨A', c', gb, ob, e, -, -, hA, hc⟩ := HL2.out
      injection e with e1 e2 e3
      subst e1 e3
      obtain rfl : lA = some ⟨gb, ob, none⟩ := hA (by omega)
      have hmv := hc k hlt
      have HMV := Lib.hid hmv
      obtain ⟨c0, c1⟩ := MvAt.keep HB.out _ _ _ hmv
      have HT := Lib.hid (few_take hlt)
      have HLT := Lib.hid (show (fewM (l.take k)).length ≤ 20 from Nat.le_trans (List.length_filter_le _ _) (by rw [List.length_take]; omega))
      clear hc hA hmv
      generalize l[k] = y at *
      obtain ⟨y1, y2⟩ := y
      simp only at c0 c1
      have HQ := Lib.hid hq
      clear hq
      have hle1 : k + 1 ≤ l.length := hlt
      by_cases h1 : y1 < 16
      · by_cases h2 : y2 < 16
        · have HR := Lib.hid (show fewM (l.take (k + 1)) = fewM (l.take k) ++ [(y1, y2)] by rw [HT.out, if_pos (by simp [isReg2, h1, h2])])
          obtain ⟨W1, hW1⟩ : ∃ W1, wr.alloc (.cells #[.int .i64 y1, .int .i64 y2] 43) = W1 := ⟨_, rfl⟩
          have hb1 : Below wr.heap.size wr W1 := by rw [← hW1]; exact (Below.refl _ _).alloc (Nat.le_refl _) _
          have hs1 : Str W1 wr.heap.size 43 (cellsV (y1, y2)) := by rw [← hW1]; exact World.alloc_heap_new wr _
          have hz0 := HB.out.size
          have hz1 := hb1.size
          have hln := HLT.out
          have HO1 := Lib.hid (show OwnMv v2.heap.size W1 _ _ from own_same_row HO.out (fun g cur hg => hb1.block g (Array.getElem?_eq_some_iff.1 hg).1))
          have HBW := Lib.hid (HB.out.trans (hb1.mono HB.out.size))
          have HS1 := Lib.hid hs1
          clear hb1 hs1
          go_wp2_with (at_builtin; refine wpList_appendM rfl _ _ 22 rfl v2.heap.size 43 i0 (.agg #[.int .i64 0, .int .i64 0]) 2 16 Try.underlying22 HI.out HZ0.out HZ1.out HZ2.out rfl (by decide) _ (fewM (l.take k)).length ((fewM (l.take k)).flatMap cellsV) rfl HO1.out ⟨wr.heap.size, 0, none⟩ (cellsV (y1, y2)) rfl rfl ?news ?one (by omega) (by omega) (by omega) ?_)
          case news =>
            intro j u hj
            first
            | (rw [at_add0, HS1.out.cell j]; exact hj)
            | (rw [HS1.out.cell j]; exact hj)
          case one =>
            intro u hu
            simp only [cellsV, List.mem_cons, List.not_mem_nil, or_false] at hu
            rcases hu with rfl | rfl <;> rfl
          intro v' w5 ho5 hg5 _
          have HO5 := Lib.hid (show OwnMv v2.heap.size w5 v' (fewM (l.take (k + 1))) by unfold OwnMv; rw [HR.out, List.length_append, List.length_singleton, flat_snocV]; exact ho5)
          have hb5 := HBW.out.grown hg5 (by omega) (fun j e => (World.ownsRow.lt HO1.out j e).1)
          have HB5 := Lib.hid hb5
          obtain ⟨d0, d1⟩ := MvAt.keep hb5 _ _ _ HMV.out
          simp only at d0 d1
          clear ho5 hg5 hb5 hW1 c0 c1
          by_cases h3 : y1 = y2
          · have hne : (y1 != y2) = false := by rw [h3]; simp
            have HF := Lib.hid (show q = ((fewM (l.take (k + 1))).filter notSelf).length by rw [HR.out, List.filter_append, List.length_append, ← HQ.out]; simp [notSelf, h3])
            clear h3
            go_wp2_with fail
            go_quiet (fail)
            go_wp2
            exact ⟨⟨k + 1, q, hle1, HO5.out, rfl, HF.out, by omega, by go_num, below_drewN HB5.out _⟩, by simp [Go.RowKit.intOf]; omega⟩
          · have hne : (y1 != y2) = true := by simpa using h3
            have HF := Lib.hid (show q + 1 = ((fewM (l.take (k + 1))).filter notSelf).length by rw [HR.out, List.filter_append, List.length_append, ← HQ.out, List.filter_cons_of_pos (p := notSelf) (a := (y1, y2)) (by unfold notSelf; exact hne)]; rfl)
            clear h3
            go_wp2_with fail
            go_quiet (fail)
            go_wp2
            exact ⟨⟨k + 1, q + 1, hle1, HO5.out, by go_num, HF.out, by omega, by go_num, below_drewN HB5.out _⟩, by simp [Go.RowKit.intOf]; omega⟩
        · have HR := Lib.hid (show fewM (l.take (k + 1)) = fewM (l.take k) by rw [HT.out, if_neg (by simp [isReg2, h2]), List.append_nil])
          go_wp2_with fail
          exact ⟨⟨k + 1, q, hle1, by rw [HR.out]; exact HO.out, rfl, by rw [HR.out]; exact HQ.out, by omega, by go_num, HB.out⟩, by simp [Go.RowKit.intOf]; omega⟩
      · have HR := Lib.hid (show fewM (l.take (k + 1)) = fewM (l.take k) by rw [HT.out, if_neg (by simp [isReg2, h1]), List.append_nil])
        go_wp2_with fail
        exact ⟨⟨k + 1, q, hle1, by rw [HR.out]; exact HO.out, rfl, by rw [HR.out]; exact HQ.out, by omega, by go_num, HB.out⟩, by simp [Go.RowKit.intOf]; omega⟩
    · obtain rfl : k = l.length := by omega
      rw [List.take_length] at hq
      have ho := HO.out
      rw [List.take_length] at ho
      have HM := Lib.hid (MovesAt.of_own ho)
      have HB3 := Lib.hid (HB2.out.trans (HB.out.mono HB2.out.size))
      have hmem : ∀ m ∈ fewM l, m ∈ l ∧ m.1 < 16 ∧ m.2 < 16 := fun m hm => by
        unfold fewM at hm
        obtain ⟨h1, h2⟩ := List.mem_filter.1 hm
        exact ⟨h1, by simpa [isReg2] using h2⟩
      have HUF := Lib.hid (show Uni (fewM l) from HUN.out.filter _)
      have HRF := Lib.hid (show Vm.Rng (fewM l) from fun m hm => HRN.out m (hmem m hm).1)
      have hfl : (fewM l).length ≤ 20 := Nat.le_trans (List.length_filter_le _ _) hle
      obtain ⟨⟨xs, ex, lx, ox⟩, ys, ey, ly, oy⟩ := order_few HUF.out (fun m hm => HPL.out m (hmem m hm).1) (fun m hm => (hmem m hm).2)
      have hpq : q = (pendN (fewM l)).length := by rw [hq]; unfold pendN; rw [keptN_self HUF.out]; rfl
      rw [← hpq] at lx ly
      have HEX := Lib.hid ex
      have HEY := Lib.hid ey
      have HOX := Lib.hid ox
      have HOY := Lib.hid oy
      obtain ⟨vA, vc, rfl⟩ := own_form ho
      clear ho hq hpq hmem ex ey ox oy HO HB HB2 HL2
      generalize fewM l = fl at *
      go_wp2_with fail
      refine (circles_any wr _ fl HM.out (by omega) HUF.out).mono ?_
      rintro e v3 ⟨vg, rfl, hog, hb⟩
      have hgl : (circsN fl).length ≤ 20 := by have := circL_len fl (keysN fl).length; unfold circsN; omega
      obtain ⟨vs, hvs, -⟩ := hog
      obtain ⟨gA, gc, rfl⟩ := own_form hvs
      have HB4 := Lib.hid (HB3.out.trans (hb.mono HB3.out.size))
      have HM4 := Lib.hid (MovesAt.keep HM.out hb)
      clear hb hvs HM HB3
      generalize (circsN fl).length = cn at *
      go_wp2_with fail
      refine (order_any v3 _ fl 15 (-1) HM4.out (by omega) HRF.out).mono ?_
      rintro e v4 ⟨va, rfl, hoa, hb⟩
      rw [HEX.out] at hoa ⊢
      have HXA := Lib.hid (MachAt.of_own hoa)
      obtain ⟨aA, ac, rfl⟩ := own_form hoa
      have HB5 := Lib.hid (HB4.out.trans (hb.mono HB4.out.size))
      have HM5 := Lib.hid (MovesAt.keep HM4.out hb)
      clear hoa hb HM4 HB4
      go_wp2_with fail
      refine (order_any v4 _ fl (-1) (-1) HM5.out (by omega) HRF.out).mono ?_
      rintro e v5 ⟨vb, rfl, hob, hb⟩
      rw [HEY.out] at hob ⊢
      have HXB := Lib.hid (MachAt.of_own hob)
      obtain ⟨bA, bc, rfl⟩ := own_form hob
      have HXA5 := Lib.hid (MachAt.keep HXA.out hb)
      have HB6 := Lib.hid (HB5.out.trans (hb.mono HB5.out.size))
      clear hob hb HM5 HB5 HXA
      have hlx : ((xs.length : Int) == (q : Int) + (cn : Int)) = true := by simp; omega
      have hly : ((ys.length : Int) == (q : Int) - (cn : Int)) = true := by simp; omega
      obtain ⟨A1', c1', ga, oa, e, a1, a2, hA, hc⟩ := id HXA5.out
      obtain ⟨B1', d1', gb, ob, e', b1, b2, hA', hc'⟩ := id HXB.out
      injection e with e1 e2 e3
      injection e' with e1' e2' e3'
      subst e1 e3 e1' e3'
      unfold maxLen at a2 b2
      have HCA := Lib.hid hc
      have HCB := Lib.hid hc'
      have HAA := Lib.hid hA
      have HAB := Lib.hid hA'
      clear hc hc' hA hA' HXA5 HXB
      go_wp2_with fail
      go_loopw [13] (fun iv wr => ∃ i : Nat, i ≤ xs.length ∧ iv = .int .i64 i ∧ wr = v5) (fun iv _ => xs.length - (Go.RowKit.intOf iv).toNat)
      case atStart => exact ⟨0, Nat.zero_le _, rfl, rfl⟩
      case round =>
        obtain ⟨i, hi, rfl, hw⟩ := hrel
        obtain rfl : v5 = wr := hw.symm
        by_cases hil : i < xs.length
        · have c0 := (HCA.out i hil).1
          rw [HOX.out _ (List.getElem_mem hil)] at c0
          have ha := HAA.out (by omega)
          subst ha
          go_wp2_with fail
          exact ⟨⟨i + 1, hil, by go_num, trivial⟩, by simp [Go.RowKit.intOf]; omega⟩
        · obtain rfl : i = xs.length := by omega
          go_wp2_with fail
          go_loopw [14] (fun iv wr => ∃ j : Nat, j ≤ ys.length ∧ iv = .int .i64 j ∧ wr = v5) (fun iv _ => ys.length - (Go.RowKit.intOf iv).toNat)
          case atStart => exact ⟨0, Nat.zero_le _, rfl, rfl⟩
          case round =>
            obtain ⟨j, hj, rfl, hw⟩ := hrel
            obtain rfl : v5 = wr := hw.symm
            by_cases hjl : j < ys.length
            · have c0 := (HCB.out j hjl).1
              have ha := HAB.out (by omega)
              subst ha
              rcases HOY.out _ (List.getElem_mem hjl) with h | h
              · rw [h] at c0
                go_wp2_with fail
                exact ⟨⟨j + 1, hjl, by go_num, trivial⟩, by simp [Go.RowKit.intOf]; omega⟩
              · rw [h] at c0
                go_wp2_with fail
                exact ⟨⟨j + 1, hjl, by go_num, trivial⟩, by simp [Go.RowKit.intOf]; omega⟩
            · obtain rfl : j = ys.length := by omega
              go_wp2
              go_ret
              exact ⟨rfl, HB6.out⟩

/-! ### THE ROW's STEP: WRITTEN OUT: LEAVE IT -/
set_option maxRecDepth 100000 in
theorem lifted (os : Os) (started : os.Started) (H : Type) (enc : TypeId × Value → H) :
    ReturnsInHanded {} Try.checked os 7 .any (Rows.movesFewSpec.pre6 enc Try.prog Try.f7 Rows.movesFewRow.domain false) (Rows.movesFewSpec.post enc Try.prog Try.f7 false true false false) := by
  refine returnsInHanded_of_change (C := Try.checked) own started (by kernel_rfl) Try.func7
    (ChangeSpec.witness6 (enc := enc) (C := Try.checked) false ⟨#[], #[.slice none 0 0], []⟩ 8 (by kernel_rfl) (by kernel_rfl) (by kernel_rfl) (by kernel_rfl)) ?_
  intro W base args ds gs before hval0 hW hcnd _
  have hval : ∀ (j : Nat) t v, Try.f7.params[j]? = some t → args[j]? = some v → Value.okWide Try.prog W .any base t v := hval0
  have hW' := hW
  obtain ⟨p, q, hA0, hV, rfl, hfz, hnd⟩ := hW
  have hA : DataW.TrodAll enc Try.prog W 0 (fun _ => true) true Try.f7.params.toList args.toList ds p := hA0
  rw [Try.params7] at hA hval
  obtain ⟨v0, vs0, d0, ds0, p0, q0, hargs, rfl, rfl, h0, r0⟩ := trodAll_cons hA
  obtain ⟨rfl, rfl, rfl⟩ := trodAll_nil r0
  obtain rfl : args = #[v0] := by cases args; simp_all
  obtain ⟨rfl, rfl⟩ := trodVars_none hV
  obtain ⟨a0, len0, cap0, rfl⟩ := okWide_slice Try.underlying23 (hval 0 23 v0 rfl rfl)
  have k0 := h0
  have lt0 : ∀ x ∈ p0, x.block < W.heap.size := by obtain ⟨m, hm⟩ := k0; exact DataW.trod_lt m _ _ _ hm
  obtain ⟨z0, w0⟩ : ∃ zs, IsRow .i64 W a0 len0 cap0 zs := by
    obtain ⟨fuel, hf⟩ := h0
    rcases open_ints Try.underlying23 Try.underlying3 (by kernel_rfl) hf with ⟨hcs, _⟩ | ⟨x, l, c, zs, hcs, _, hl, hm, hz, _, hcell, hwz⟩
    · simp [Value.cells] at hcs
      obtain ⟨rfl, rfl, rfl⟩ := hcs
      exact ⟨[], .inl ⟨rfl, rfl, rfl, rfl⟩⟩
    · simp [Value.cells] at hcs
      obtain ⟨rfl, rfl, rfl⟩ := hcs
      exact ⟨zs, .inr ⟨_, rfl, hl, hm, by simpa using hz, hcell, hwz⟩⟩
  clear hA0 hval0
  refine (walk a0 len0 cap0 z0 W w0).mono fun e W' ⟨he, bel⟩ => ?_
  subst he
  exact ⟨_, rfl, _, _, _, [], _, [], hW', trodAll_mk1 (shut_bool Try.underlying4 _), (trodAll_cons_mk (Below.trod laidOut (by kernel_rfl) (of_decide_eq_true (by kernel_rfl)) k0 bel lt0) trodAll_mk0), rfl, bel.frame _, fun h => by cases h⟩

theorem over : Rows.movesFewRow.holds Try.pinned (OpenSpec.ofChange Rows.movesFewSpec) :=
  OpenClaim.holds_of_wide 7 Try.f7 rfl rfl rfl rfl rfl rfl rfl ⟨rfl, rfl, rfl, rfl, rfl⟩ rfl rfl rfl rfl rfl (by kernel_rfl) Try.func7 (by kernel_rfl)
    (of_decide_eq_true (by kernel_rfl)) (by unfold Func.isWrapper; first | (rw [if_pos (by decide +kernel)]; kernel_rfl) | (rw [if_neg (by decide +kernel)]; exact ⟨rfl, rfl⟩))
    (fun os started H enc _ => lifted os started H enc)

/-- ████ THE STATEMENT ████ -/
theorem proved : Rows.MovesFewSaid := over
#print axioms proved
end Go.Proofs.Ytacfkjkpfmpdmaa.movesFew
