/- What is proved: without spare slots, and without a scratch register, just those orders lack something that have a move from slot to slot, or a circle with a slot (law MovesLacks): for every row of numbers the law answers true. Conditions: none beside those that the given row's own sentence names. -/
import Derived.Test.YtacfkjkpfmpdmaaRows
import Derived.Test.YtacfkjkpfmpdmaaVCU
import Derived.Test.YtacfkjkpfmpdmaaVCV
import Derived.WalkKit
import Derived.ProofKit
import Derived.OpenShut
import Derived.ShutString
import Derived.ChangeOld
import Derived.Below
namespace Go.Proofs.Ytacfkjkpfmpdmaa.movesLacks
open Go.ChangeShapes Go.WideShapes Go.ChangeAt Go.RowKit
open Go.ChangeMaps (open_string shut_string)
set_option linter.unusedVariables false

theorem own : ownKnob Try.prog.godebug = none := by kernel_rfl
theorem laidOut : laidOutB Try.prog = true := by kernel_rfl

/-- WHAT THE WALK IS TOLD OF A SLICE OF INTEGERS THAT CAME IN: it is nil; or it leads to a row of 'cap' cells, the numbers 'zs' (the first 'len' are its elements, the rest its spare room), each fitting its kind. -/
def IsRow (k : IntKind) (w : World) (a : Option Addr) (len cap : Nat) (zs : List Int) : Prop :=
  (a = none ∧ len = 0 ∧ cap = 0 ∧ zs = []) ∨
  ∃ x, a = some x ∧ len ≤ cap ∧ cap ≤ maxLen ∧ zs.length = cap ∧ (∀ i, i < zs.length → w.cell? (x.add i) = some (.int k (zs.getD i 0))) ∧ ∀ n ∈ zs, (Lit.int k n).wf = true

open Go.Maps Go.Proofs.Ytacfkjkpfmpdmaa.Mem Go.Proofs.Ytacfkjkpfmpdmaa.Br Go.Proofs.Ytacfkjkpfmpdmaa.Va Go.Proofs.Ytacfkjkpfmpdmaa.Vm
def rowB (c : List Int) : Bool := c.any fun z => decide (16 ≤ z)
def gridB (g : List (List Int)) : Bool := g.any rowB
theorem lacks_take {l : List Vm.Mov} {k : Nat} (h : k < l.length) : lacksB (l.take (k + 1)) = (lacksB (l.take k) || (decide (16 ≤ l[k].1) && decide (16 ≤ l[k].2) && !(l[k].1 == l[k].2))) := by
  rw [List.take_succ_eq_append_getElem h]; unfold lacksB; rw [List.any_append]; simp
theorem row_take {c : List Int} {k : Nat} (h : k < c.length) : rowB (c.take (k + 1)) = (rowB (c.take k) || decide (16 ≤ c[k])) := by
  rw [List.take_succ_eq_append_getElem h]; unfold rowB; rw [List.any_append]; simp
theorem grid_take {g : List (List Int)} {k : Nat} (h : k < g.length) : gridB (g.take (k + 1)) = (gridB (g.take k) || rowB g[k]) := by
  rw [List.take_succ_eq_append_getElem h]; unfold gridB; rw [List.any_append]; simp

/-! ### STEP 1: THE WALK: the Go text returns true, AND WRITES NOTHING THAT WAS THERE: 'Below w.heap.size w w'' (Derived/Below.lean: '.refl', '.alloc', '.drew', '.setCell' at a new block, '.trans'). Open each 'IsRow' by 'rcases' AHEAD of 'go_enter'; part every test ahead of the walk. -/
set_option maxRecDepth 100000 in
set_option maxHeartbeats 4000000 in
theorem walk (a0 : Option Addr) (len0 cap0 : Nat) (z0 : List Int) (w : World) (w0 : IsRow .i64 w a0 len0 cap0 z0) :
    Calls Try.prog 11 #[.slice a0 len0 cap0] w fun e w' => e = .returned (.bool true) ∧ Below w.heap.size w w' := by
  obtain ⟨hl0, hi0⟩ := row_ints w0 (Nat.le_refl len0)
  generalize hs : z0.take len0 = s at *
  have HI0 := Lib.hid hi0
  clear hs w0 hl0 hi0
  go_enter Try.func11, Try.ntmps11
  go_wp2_with fail
  refine (awake_any _).mono ?_
  rintro e v1 ⟨rfl, hb1⟩
  have HB1 := Lib.hid hb1
  have HI1 := Lib.hid (ints_keep HI0.out hb1)
  clear hb1 HI0
  go_wp2_with fail
  refine (made_any v1 _ s HI1.out).mono ?_
  rintro e v2 ⟨vl, rfl, hol, hb2⟩
  have HB2 := Lib.hid (HB1.out.trans (hb2.mono HB1.out.size))
  have HL2 := Lib.hid (MovesAt.of_own hol)
  have HPL := Lib.hid (fun m (hm : m ∈ madeM s) => made_plM hm)
  have HUN := Lib.hid (made_uni s)
  have HRN := Lib.hid (made_rng s)
  have hle := made_len s
  generalize madeM s = l at *
  clear hb2 hol HB1 HI1
  obtain ⟨lA, lc, lb0, lo0, rfl, l1, l2, -⟩ := id HL2.out
  unfold maxLen at l2
  have HO1 := Lib.hid (order_lacks HUN.out HPL.out (sc := -1) (Or.inl rfl))
  have HO2 := Lib.hid (order_lacks HUN.out HPL.out (sc := 15) (Or.inr rfl))
  go_wp2_with fail
  go_loopw [5, 6] (fun lk iv wr => ∃ k : Nat, k ≤ l.length ∧ lk = .bool (lacksB (l.take k)) ∧ iv = .int .i64 k ∧ (∃ q : Nat, wr = v2.drewN q)) (fun _ iv _ => l.length - (Go.RowKit.intOf iv).toNat)
  case atStart => exact ⟨0, Nat.zero_le _, rfl, rfl, 0, rfl⟩
  case round =>
    obtain ⟨k, hk, rfl, rfl, q0, hw⟩ := hrel
    obtain ⟨wx, rfl⟩ : ∃ wx : World, wx = wr := ⟨_, rfl⟩
    have HWX := Lib.hid hw
    by_cases hlt : k < l.length
    · obtain ⟨A', c', gb, ob, e, -, -, hA, hc⟩ := HL2.out
      injection e with e1 e2 e3
      subst e1 e3
      obtain rfl : lA = some ⟨gb, ob, none⟩ := hA (by omega)
      obtain ⟨c0, c1⟩ := hc k hlt
      have HT := Lib.hid (lacks_take hlt)
      clear hc hA
      generalize l[k] = y at *
      obtain ⟨y1, y2⟩ := y
      simp only at c0 c1
      have c0 : wx.cell? ⟨gb, ob + k * 2, none⟩ = some (.int .i64 y1) := by rw [hw]; exact c0
      have c1 : wx.cell? ⟨gb, ob + k * 2 + 1, none⟩ = some (.int .i64 y2) := by rw [hw]; exact c1
      clear hw
      generalize lacksB (l.take k) = q at *
      have hle1 : k + 1 ≤ l.length := hlt
      cases q
      · by_cases h1 : 16 ≤ y1
        · by_cases h2 : 16 ≤ y2
          · by_cases h3 : y1 = y2
            · have hne : (y1 != y2) = false := by rw [h3]; simp
              have HR := Lib.hid (show lacksB (l.take (k + 1)) = false by rw [HT.out]; simp [h3])
              clear h3
              go_wp2_with fail
              go_quiet (fail)
              go_wp2
              exact ⟨⟨k + 1, hle1, by rw [HR.out], by go_num, q0 + nq, by rw [HWX.out]; simp [World.drewN, Nat.add_assoc]⟩, by simp [Go.RowKit.intOf]; omega⟩
            · have hne : (y1 != y2) = true := by simpa using h3
              have HR := Lib.hid (show lacksB (l.take (k + 1)) = true by rw [HT.out]; simp [h1, h2, h3])
              go_wp2_with fail
              go_quiet (fail)
              go_wp2
              exact ⟨⟨k + 1, hle1, by rw [HR.out], by go_num, q0 + nq, by rw [HWX.out]; simp [World.drewN, Nat.add_assoc]⟩, by simp [Go.RowKit.intOf]; omega⟩
          · have HR := Lib.hid (show lacksB (l.take (k + 1)) = false by rw [HT.out]; simp [h2])
            have d2 : decide (16 ≤ y2) = false := decide_eq_false h2
            have d3 : y2 < 16 := by omega
            clear h2
            go_wp2_with fail
            go_quiet (fail)
            go_wp2
            exact ⟨⟨k + 1, hle1, by rw [HR.out], by go_num, q0 + nq, by rw [HWX.out]; simp [World.drewN, Nat.add_assoc]⟩, by simp [Go.RowKit.intOf]; omega⟩
        · have HR := Lib.hid (show lacksB (l.take (k + 1)) = false by rw [HT.out]; simp [h1])
          have d2 : decide (16 ≤ y1) = false := decide_eq_false h1
          have d3 : y1 < 16 := by omega
          clear h1
          go_wp2_with fail
          go_quiet (fail)
          go_wp2
          exact ⟨⟨k + 1, hle1, by rw [HR.out], by go_num, q0 + nq, by rw [HWX.out]; simp [World.drewN, Nat.add_assoc]⟩, by simp [Go.RowKit.intOf]; omega⟩
      · have HR := Lib.hid (show lacksB (l.take (k + 1)) = true by rw [HT.out]; simp)
        go_wp2_with fail
        go_quiet (fail)
        go_wp2
        exact ⟨⟨k + 1, hle1, by rw [HR.out], by go_num, q0 + nq, by rw [HWX.out]; simp [World.drewN, Nat.add_assoc]⟩, by simp [Go.RowKit.intOf]; omega⟩
    · obtain rfl : k = l.length := by omega
      rw [List.take_length]
      have hbx : Below v2.heap.size v2 wx := by rw [hw]; exact below_drewN (Below.refl _ _) _
      have HLX := Lib.hid (MovesAt.keep HL2.out hbx)
      have HBX := Lib.hid (HB2.out.trans (hbx.mono HB2.out.size))
      clear hbx hw HL2 HB2
      go_wp2_with fail
      refine (circles_any wx _ l HLX.out (by omega) HUN.out).mono ?_
      rintro e v3 ⟨vg, rfl, hog, hb⟩
      have HG := Lib.hid hog.grid
      have HB3 := Lib.hid (HBX.out.trans (hb.mono HBX.out.size))
      have HL3 := Lib.hid (MovesAt.keep HLX.out hb)
      have HRB := Lib.hid (show roundB l = gridB (circsN l) from rfl)
      generalize circsN l = g at *
      rw [HRB.out] at HO1 HO2
      clear hog hb HLX HBX HRB
      obtain ⟨gA, gc, rfl, g1, g2, -⟩ := id HG.out
      unfold maxLen at g2
      go_wp2_with fail
      go_loopw [8, 9] (fun rv iv wr => ∃ i : Nat, i ≤ g.length ∧ rv = .bool (gridB (g.take i)) ∧ iv = .int .i64 i ∧ wr = v3) (fun _ iv _ => g.length - (Go.RowKit.intOf iv).toNat)
      case atStart => exact ⟨0, Nat.zero_le _, rfl, rfl, rfl⟩
      case round =>
        obtain ⟨i, hi, rfl, rfl, hw⟩ := hrel
        obtain rfl : v3 = wr := hw.symm
        by_cases hil : i < g.length
        · obtain ⟨A', c', e, -, -, hgc⟩ := HG.out
          injection e with e1 e2 e3
          subst e1 e3
          obtain ⟨gad, u, rfl, hcu, hu⟩ := hgc i hil
          have HGT := Lib.hid (grid_take hil)
          clear hgc
          generalize g[i] = c at *
          have HC := Lib.hid hu
          obtain ⟨cA, cc, rfl, k1, k2, -⟩ := hu
          unfold maxLen at k2
          generalize gridB (g.take i) = q at *
          go_wp2_with fail
          go_loopw [8, 10] (fun rv iv wr => ∃ j : Nat, j ≤ c.length ∧ rv = .bool (q || rowB (c.take j)) ∧ iv = .int .i64 j ∧ wr = v3) (fun _ iv _ => c.length - (Go.RowKit.intOf iv).toNat)
          case atStart => exact ⟨0, Nat.zero_le _, by rw [List.take_zero]; simp [rowB], rfl, rfl⟩
          case round =>
            obtain ⟨j, hj, rfl, rfl, hw⟩ := hrel
            obtain rfl : v3 = wr := hw.symm
            by_cases hjl : j < c.length
            · obtain ⟨A', c', e, -, -, hcc⟩ := HC.out
              injection e with e1 e2 e3
              subst e1 e3
              obtain ⟨cad, rfl, hz⟩ := hcc j hjl
              have HRT := Lib.hid (row_take hjl)
              clear hcc
              generalize c[j] = z at *
              have hj1 : j + 1 ≤ c.length := hjl
              cases hqq : (q || rowB (c.take j)) with
              | true =>
                have HR := Lib.hid (show (q || rowB (c.take (j + 1))) = true by rw [HRT.out, ← Bool.or_assoc, hqq]; rfl)
                clear hqq
                go_wp2_with fail
                exact ⟨⟨j + 1, hj1, by rw [HR.out], by go_num, trivial⟩, by simp [Go.RowKit.intOf]; omega⟩
              | false =>
                by_cases h16 : 16 ≤ z
                · have HR := Lib.hid (show (q || rowB (c.take (j + 1))) = true by rw [HRT.out, ← Bool.or_assoc, hqq]; simp [h16])
                  clear hqq
                  go_wp2_with fail
                  exact ⟨⟨j + 1, hj1, by rw [HR.out], by go_num, trivial⟩, by simp [Go.RowKit.intOf]; omega⟩
                · have HR := Lib.hid (show (q || rowB (c.take (j + 1))) = false by rw [HRT.out, ← Bool.or_assoc, hqq]; simp [h16])
                  clear hqq
                  go_wp2_with fail
                  exact ⟨⟨j + 1, hj1, by rw [HR.out], by go_num, trivial⟩, by simp [Go.RowKit.intOf]; omega⟩
            · obtain rfl : j = c.length := by omega
              have HE := Lib.hid (show (q || rowB (c.take c.length)) = gridB (g.take (i + 1)) by rw [List.take_length, HGT.out])
              rw [HE.out]
              go_wp2_with fail
              exact ⟨⟨i + 1, hil, rfl, by go_num, trivial⟩, by simp [Go.RowKit.intOf]; omega⟩
        · obtain rfl : i = g.length := by omega
          rw [List.take_length]
          generalize gridB g = RB at *
          generalize lacksB l = LB at *
          cases LB <;> cases RB
          all_goals
            first
            | (have HE1 := Lib.hid (HO1.out.trans (show _ = (43 : Int) from rfl)))
            | (have HE1 := Lib.hid (HO1.out.trans (show _ = (0 : Int) from rfl)))
            first
            | (have HE2 := Lib.hid (HO2.out.trans (show _ = (43 : Int) from rfl)))
            | (have HE2 := Lib.hid (HO2.out.trans (show _ = (0 : Int) from rfl)))
            clear HO1 HO2
            go_wp2_with fail
            refine (order_any v3 _ l (-1) (-1) HL3.out (by omega) HRN.out).mono ?_
            rintro e v4 ⟨va, rfl, hoa, hb⟩
            have HB4 := Lib.hid (HB3.out.trans (hb.mono HB3.out.size))
            have HL4 := Lib.hid (MovesAt.keep HL3.out hb)
            rw [HE1.out]
            clear hoa hb HB3 HL3 HG
            go_wp2_with fail
            refine (order_any v4 _ l 15 (-1) HL4.out (by omega) HRN.out).mono ?_
            rintro e v5 ⟨vb, rfl, hob, hb⟩
            have HB5 := Lib.hid (HB4.out.trans (hb.mono HB4.out.size))
            rw [HE2.out]
            clear hob hb HB4 HL4 HE1 HE2
            go_wp2
            go_ret
            exact ⟨rfl, HB5.out⟩

/-! ### THE ROW's STEP: WRITTEN OUT: LEAVE IT -/
set_option maxRecDepth 100000 in
theorem lifted (os : Os) (started : os.Started) (H : Type) (enc : TypeId × Value → H) :
    ReturnsInHanded {} Try.checked os 11 .any (Rows.movesLacksSpec.pre6 enc Try.prog Try.f11 Rows.movesLacksRow.domain false) (Rows.movesLacksSpec.post enc Try.prog Try.f11 false true false false) := by
  refine returnsInHanded_of_change (C := Try.checked) own started (by kernel_rfl) Try.func11
    (ChangeSpec.witness6 (enc := enc) (C := Try.checked) false ⟨#[], #[.slice none 0 0], []⟩ 8 (by kernel_rfl) (by kernel_rfl) (by kernel_rfl) (by kernel_rfl)) ?_
  intro W base args ds gs before hval0 hW hcnd _
  have hval : ∀ (j : Nat) t v, Try.f11.params[j]? = some t → args[j]? = some v → Value.okWide Try.prog W .any base t v := hval0
  have hW' := hW
  obtain ⟨p, q, hA0, hV, rfl, hfz, hnd⟩ := hW
  have hA : DataW.TrodAll enc Try.prog W 0 (fun _ => true) true Try.f11.params.toList args.toList ds p := hA0
  rw [Try.params11] at hA hval
  obtain ⟨v0, vs0, d0, ds0, p0, q0, hargs, rfl, rfl, h0, r0⟩ := trodAll_cons hA
  obtain ⟨rfl, rfl, rfl⟩ := trodAll_nil r0
  obtain rfl : args = #[v0] := by cases args; simp_all
  obtain ⟨rfl, rfl⟩ := trodVars_none hV
  obtain ⟨a0, len0, cap0, rfl⟩ := okWide_slice Try.underlying23 (hval 0 23 v0 rfl rfl)
  have k0 := h0
  have lt0 : ∀ x ∈ p0, x.block < W.heap.size := by obtain ⟨m, hm⟩ := k0; exact DataW.trod_lt m _ _ _ hm
  obtain ⟨z0, w0⟩ : ∃ zs, IsRow .i64 W a0 len0 cap0 zs := by
    obtain ⟨fuel, hf⟩ := h0
    rcases open_ints Try.underlying23 Try.underlying3 (by kernel_rfl) hf with ⟨hcs, _⟩ | ⟨x, l, c, zs, hcs, _, hl, hm, hz, _, hcell, hwz⟩
    · simp [Value.cells] at hcs
      obtain ⟨rfl, rfl, rfl⟩ := hcs
      exact ⟨[], .inl ⟨rfl, rfl, rfl, rfl⟩⟩
    · simp [Value.cells] at hcs
      obtain ⟨rfl, rfl, rfl⟩ := hcs
      exact ⟨zs, .inr ⟨_, rfl, hl, hm, by simpa using hz, hcell, hwz⟩⟩
  clear hA0 hval0
  refine (walk a0 len0 cap0 z0 W w0).mono fun e W' ⟨he, bel⟩ => ?_
  subst he
  exact ⟨_, rfl, _, _, _, [], _, [], hW', trodAll_mk1 (shut_bool Try.underlying4 _), (trodAll_cons_mk (Below.trod laidOut (by kernel_rfl) (of_decide_eq_true (by kernel_rfl)) k0 bel lt0) trodAll_mk0), rfl, bel.frame _, fun h => by cases h⟩

theorem over : Rows.movesLacksRow.holds Try.pinned (OpenSpec.ofChange Rows.movesLacksSpec) :=
  OpenClaim.holds_of_wide 11 Try.f11 rfl rfl rfl rfl rfl rfl rfl ⟨rfl, rfl, rfl, rfl, rfl⟩ rfl rfl rfl rfl rfl (by kernel_rfl) Try.func11 (by kernel_rfl)
    (of_decide_eq_true (by kernel_rfl)) (by unfold Func.isWrapper; first | (rw [if_pos (by decide +kernel)]; kernel_rfl) | (rw [if_neg (by decide +kernel)]; exact ⟨rfl, rfl⟩))
    (fun os started H enc _ => lifted os started H enc)

/-- ████ THE STATEMENT ████ -/
theorem proved : Rows.MovesLacksSaid := over
#print axioms proved
end Go.Proofs.Ytacfkjkpfmpdmaa.movesLacks
