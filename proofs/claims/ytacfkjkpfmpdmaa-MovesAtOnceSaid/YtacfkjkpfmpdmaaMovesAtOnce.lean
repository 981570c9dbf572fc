/- What is proved: After does a row of moves all at once (law MovesAtOnce): for every row of numbers and every word the law answers true. Conditions: none beside those that the given row's own sentence names. -/
import Derived.Test.YtacfkjkpfmpdmaaRows
import Derived.Test.YtacfkjkpfmpdmaaVLB
import Derived.WalkKit
import Derived.ProofKit
import Derived.OpenShut
import Derived.ShutString
import Derived.ChangeOld
import Derived.Below
namespace Go.Proofs.Ytacfkjkpfmpdmaa.movesAtOnce
open Go.ChangeShapes Go.WideShapes Go.ChangeAt Go.RowKit
open Go.ChangeMaps (open_string shut_string)
set_option linter.unusedVariables false

theorem own : ownKnob Try.prog.godebug = none := by kernel_rfl
theorem laidOut : laidOutB Try.prog = true := by kernel_rfl

/-- WHAT THE WALK IS TOLD OF A SLICE OF INTEGERS THAT CAME IN: it is nil; or it leads to a row of 'cap' cells, the numbers 'zs' (the first 'len' are its elements, the rest its spare room), each fitting its kind. -/
def IsRow (k : IntKind) (w : World) (a : Option Addr) (len cap : Nat) (zs : List Int) : Prop :=
  (a = none ∧ len = 0 ∧ cap = 0 ∧ zs = []) ∨
  ∃ x, a = some x ∧ len ≤ cap ∧ cap ≤ maxLen ∧ zs.length = cap ∧ (∀ i, i < zs.length → w.cell? (x.add i) = some (.int k (zs.getD i 0))) ∧ ∀ n ∈ zs, (Lit.int k n).wf = true

open Go.Maps Go.Proofs.Ytacfkjkpfmpdmaa.Mem Go.Proofs.Ytacfkjkpfmpdmaa.Br Go.Proofs.Ytacfkjkpfmpdmaa.Va Go.Proofs.Ytacfkjkpfmpdmaa.Vm

/-! ### STEP 1: THE WALK: the Go text returns true, AND WRITES NOTHING THAT WAS THERE: 'Below w.heap.size w w'' (Derived/Below.lean: '.refl', '.alloc', '.drew', '.setCell' at a new block, '.trans'). Open each 'IsRow' by 'rcases' AHEAD of 'go_enter'; part every test ahead of the walk. -/
set_option maxRecDepth 100000 in
set_option maxHeartbeats 4000000 in
theorem walk (a0 : Option Addr) (len0 cap0 : Nat) (z0 : List Int) (a1 : Int) (w : World) (w0 : IsRow .i64 w a0 len0 cap0 z0) (w1 : (Lit.int .i32 a1).wf = true) :
    Calls Try.prog 6 #[.slice a0 len0 cap0, .int .i32 a1] w fun e w' => e = .returned (.bool true) ∧ Below w.heap.size w w' := by
  obtain ⟨hl0, hi0⟩ := row_ints w0 (Nat.le_refl len0)
  generalize hs : z0.take len0 = s at *
  have HI0 := Lib.hid hi0
  clear hs w0 hl0 hi0
  have hmm := @run_makeMap Try.prog
  go_enter Try.func6, Try.ntmps6
  go_wp2_with fail
  refine (awake_any _).mono ?_
  rintro e v1 ⟨rfl, hb1⟩
  have HB1 := Lib.hid hb1
  have HI1 := Lib.hid (ints_keep HI0.out hb1)
  clear hb1 HI0
  go_wp2_with fail
  refine (made_any v1 _ s HI1.out).mono ?_
  rintro e v2 ⟨vl, rfl, hol, hb2⟩
  have HB2 := Lib.hid (HB1.out.trans (hb2.mono HB1.out.size))
  have HL2 := Lib.hid (MovesAt.of_own hol)
  have HPL := Lib.hid (fun m (hm : m ∈ madeM s) => made_pl hm)
  have HUN := Lib.hid (made_uni s)
  have HLE := Lib.hid (made_len s)
  generalize madeM s = l at *
  clear hb2 hol HB1 HI1
  go_wp2_with fail
  refine (start_any v2 _).mono ?_
  rintro e v3 ⟨vp, p, rfl, hp40, hop, hb⟩
  have HB3 := Lib.hid (HB2.out.trans (hb.mono HB2.out.size))
  have HL3 := Lib.hid (MovesAt.keep HL2.out hb)
  have HP3 := Lib.hid (words_of_own hop)
  clear hb hop HL2 HB2
  go_wp2_with fail
  refine (after_any v3 _ _ l p HL3.out HP3.out (by have := HLE.out; omega) (by omega)).mono ?_
  rintro e v4 ⟨va, rfl, hoa, hb⟩
  have HB4 := Lib.hid (HB3.out.trans (hb.mono HB3.out.size))
  have HL4 := Lib.hid (MovesAt.keep HL3.out hb)
  have HP4 := Lib.hid (words_keep HP3.out hb)
  have HA4 := Lib.hid (words_of_own hoa)
  have hal : (afterN l p).length = 40 := by unfold afterN; rw [afterN_len]; exact hp40
  have HAT := Lib.hid (fun b => after_at p l p HUN.out (fun m hm => by rw [hp40]; have := HPL.out m hm; exact hasB_yes (by omega) (by omega)) b)
  have HAT' : Hid (∀ b, (isTo l b = false → atV (afterN l p) b = atV p b) ∧ ∀ m ∈ l, m.1 = b → atV (afterN l p) b = atV p m.2) := HAT
  generalize afterN l p = a at *
  clear hb hoa HB3 HL3 HP3 HAT
  obtain ⟨lA, lc, lb0, lo0, rfl, l1, l2, -⟩ := id HL4.out
  obtain ⟨pA, pc, rfl, p1, p2, -⟩ := id HP4.out
  obtain ⟨aA, ac, rfl, a1', a2', -⟩ := id HA4.out
  unfold maxLen at l2 p2 a2'
  rw [hp40] at p1
  rw [hal] at a1'
  have e40 : ((40 : Nat) : Int) = 40 := rfl
  simp only [hp40, hal]
  obtain ⟨W0, hW0⟩ : ∃ W0, v4.alloc (.map #[] 0) = W0 := ⟨_, rfl⟩
  have hb0 : Below v4.heap.size v4 W0 := by rw [← hW0]; exact (Below.refl _ _).alloc (Nat.le_refl _) _
  have hs0 : BolAt W0 v4.heap.size 0 (fun _ => false) := by rw [← hW0]; exact BolAt.made v4
  have HS := Lib.hid (show BolAt W0 v4.heap.size 0 (isTo (l.take 0)) ∧ Below v4.heap.size v4 W0 from ⟨hs0, hb0⟩)
  clear hs0 hb0
  obtain ⟨pad, rfl, hpc⟩ := words_at HP4.out (by omega)
  obtain ⟨aad, rfl, hac⟩ := words_at HA4.out (by omega)
  have HPC := Lib.hid hpc
  have HAC := Lib.hid hac
  clear hpc hac
  go_wp2_with fail
  clear hW0
  go_loopw [10] (fun i wr => ∃ k : Nat, k ≤ l.length ∧ i = .int .i64 k ∧ BolAt wr v4.heap.size k (isTo (l.take k)) ∧ Below v4.heap.size v4 wr) (fun i _ => l.length - (Go.RowKit.intOf i).toNat)
  case atStart => exact ⟨0, Nat.zero_le _, rfl, HS.out⟩
  case round =>
    obtain ⟨k, hk, rfl, hS⟩ := hrel
    have HQ := Lib.hid hS
    clear hS HS
    by_cases hlt : k < l.length
    · obtain ⟨A', c', gb, ob, e, -, -, hA, hc⟩ := HL4.out
      injection e with e1 e2 e3
      subst e1 e3
      obtain rfl : lA = some ⟨gb, ob, none⟩ := hA (by omega)
      obtain ⟨c0, c1⟩ := MvAt.keep (w := v4) (w' := wr) HQ.out.2 _ _ _ (hc k hlt)
      have hmem := List.getElem_mem hlt
      have hpl := HPL.out _ hmem
      have HE := Lib.hid ((HAT'.out l[k].1).2 l[k] hmem rfl)
      have HTK := Lib.hid (fun b => isTo_take hlt b)
      clear hc hA hmem
      generalize l[k] = y at *
      obtain ⟨y1, y2⟩ := y
      simp only at hpl c0 c1
      obtain ⟨t, rfl⟩ : ∃ t : Nat, y1 = t := ⟨y1.toNat, by omega⟩
      obtain ⟨f, rfl⟩ : ∃ f : Nat, y2 = f := ⟨y2.toNat, by omega⟩
      have ca := cell_keep HQ.out.2 (Nat.le_refl _) (HAC.out t (by omega))
      have cp := cell_keep HQ.out.2 (Nat.le_refl _) (HPC.out f (by omega))
      have hee : a[t]'(by omega) = p[f]'(by omega) := by
        have h := HE.out
        simp only at h
        rw [atV_get (by omega), atV_get (by omega)] at h
        exact h
      rw [hee] at ca
      clear hee HE
      generalize p[f]'(by omega) = x at *
      go_wp2_with fail
      go_quiet (fail)
      obtain ⟨w2, r2, hf2, hg2⟩ := (HQ.out.1.same (w' := wr.drewN nq) rfl).put (by have := HLE.out; omega) (x := (t : Int)) (by unfold InI; omega)
      have HS' := Lib.hid (show BolAt w2 v4.heap.size (k + 1) (isTo (l.take (k + 1))) ∧ Below v4.heap.size v4 w2 from ⟨by
        rw [show isTo (l.take (k + 1)) = addB (isTo (l.take k)) (t : Int) from funext fun b => HTK.out b]; exact hf2, (below_drewN HQ.out.2 _).grown hg2 (by have := HQ.out.2.size; exact this) (fun j e => by cases e; exact Nat.le_refl _)⟩)
      clear hf2 hg2
      go_wp2
      exact ⟨⟨k + 1, by omega, by go_num, HS'.out⟩, by simp [Go.RowKit.intOf]; omega⟩
    · obtain rfl : k = l.length := by omega
      obtain ⟨wo, rfl⟩ : ∃ wo : World, wo = wr := ⟨_, rfl⟩
      have HM := Lib.hid (show BolAt wo v4.heap.size l.length (isTo l) by have := HQ.out.1; rwa [List.take_length] at this)
      have HBW := Lib.hid (HB4.out.trans (HQ.out.2.mono HB4.out.size))
      go_wp2_with fail
      go_loopw [11] (fun i wr => ∃ k q : Nat, k ≤ 40 ∧ i = .int .i64 k ∧ wr = wo.drewN q) (fun i _ => 40 - (Go.RowKit.intOf i).toNat)
      case atStart => exact ⟨0, 0, Nat.zero_le _, rfl, rfl⟩
      case round =>
        obtain ⟨k, q, hk2, rfl, hw⟩ := hrel
        obtain ⟨wx, rfl⟩ : ∃ wx : World, wx = wr := ⟨_, rfl⟩
        have HWX := Lib.hid hw
        by_cases hlt2 : k < 40
        · have ca := cell_keep HQ.out.2 (Nat.le_refl _) (HAC.out k (by omega))
          have cp := cell_keep HQ.out.2 (Nat.le_refl _) (HPC.out k (by omega))
          have ca : wx.cell? (aad.add k) = some (.int .i32 (a[k]'(by omega))) := by rw [hw]; exact ca
          have cp : wx.cell? (pad.add k) = some (.int .i32 (p[k]'(by omega))) := by rw [hw]; exact cp
          have hlook := fun q : Nat => BolAt.get (HM.out.same (w' := wx.drewN q) (by rw [hw]; rfl)) (x := (k : Int)) (by unfold InI; omega)
          have HE := Lib.hid ((HAT'.out k).1)
          rw [atV_get (by omega), atV_get (by omega)] at HE
          clear hw
          generalize a[k]'(by omega) = x at *
          generalize p[k]'(by omega) = y at *
          cases hto : isTo l (k : Int) with
          | true =>
            simp only [hto] at hlook
            go_wp2_with fail
            go_quiet (fail)
            go_wp2
            exact ⟨⟨k + 1, q + nq, by omega, by go_num, by rw [HWX.out]; simp [World.drewN, Nat.add_assoc]⟩, by simp [Go.RowKit.intOf]; omega⟩
          | false =>
            simp only [hto] at hlook
            obtain rfl : x = y := HE.out hto
            go_wp2_with fail
            go_quiet (fail)
            go_wp2
            exact ⟨⟨k + 1, q + nq, by omega, by go_num, by rw [HWX.out]; simp [World.drewN, Nat.add_assoc]⟩, by simp [Go.RowKit.intOf]; omega⟩
        · obtain rfl : k = 40 := by omega
          have HBF := Lib.hid (show Below w.heap.size w wx by rw [hw]; exact below_drewN HBW.out _)
          clear hw
          go_wp2
          go_ret
          exact ⟨rfl, HBF.out⟩

/-! ### THE ROW's STEP: WRITTEN OUT: LEAVE IT -/
set_option maxRecDepth 100000 in
theorem lifted (os : Os) (started : os.Started) (H : Type) (enc : TypeId × Value → H) :
    ReturnsInHanded {} Try.checked os 6 .any (Rows.movesAtOnceSpec.pre6 enc Try.prog Try.f6 Rows.movesAtOnceRow.domain false) (Rows.movesAtOnceSpec.post enc Try.prog Try.f6 false true false false) := by
  refine returnsInHanded_of_change (C := Try.checked) own started (by kernel_rfl) Try.func6
    (ChangeSpec.witness6 (enc := enc) (C := Try.checked) false ⟨#[], #[.slice none 0 0, .int .i32 0], []⟩ 8 (by kernel_rfl) (by kernel_rfl) (by kernel_rfl) (by kernel_rfl)) ?_
  intro W base args ds gs before hval0 hW hcnd _
  have hval : ∀ (j : Nat) t v, Try.f6.params[j]? = some t → args[j]? = some v → Value.okWide Try.prog W .any base t v := hval0
  have hW' := hW
  obtain ⟨p, q, hA0, hV, rfl, hfz, hnd⟩ := hW
  have hA : DataW.TrodAll enc Try.prog W 0 (fun _ => true) true Try.f6.params.toList args.toList ds p := hA0
  rw [Try.params6] at hA hval
  obtain ⟨v0, vs0, d0, ds0, p0, q0, hargs, rfl, rfl, h0, r0⟩ := trodAll_cons hA
  obtain ⟨v1, vs1, d1, ds1, p1, q1, rfl, rfl, rfl, h1, r1⟩ := trodAll_cons r0
  obtain ⟨rfl, rfl, rfl⟩ := trodAll_nil r1
  obtain rfl : args = #[v0, v1] := by cases args; simp_all
  obtain ⟨rfl, rfl⟩ := trodVars_none hV
  obtain ⟨a0, len0, cap0, rfl⟩ := okWide_slice Try.underlying23 (hval 0 23 v0 rfl rfl)
  have k0 := h0
  have lt0 : ∀ x ∈ p0, x.block < W.heap.size := by obtain ⟨m, hm⟩ := k0; exact DataW.trod_lt m _ _ _ hm
  obtain ⟨z0, w0⟩ : ∃ zs, IsRow .i64 W a0 len0 cap0 zs := by
    obtain ⟨fuel, hf⟩ := h0
    rcases open_ints Try.underlying23 Try.underlying3 (by kernel_rfl) hf with ⟨hcs, _⟩ | ⟨x, l, c, zs, hcs, _, hl, hm, hz, _, hcell, hwz⟩
    · simp [Value.cells] at hcs
      obtain ⟨rfl, rfl, rfl⟩ := hcs
      exact ⟨[], .inl ⟨rfl, rfl, rfl, rfl⟩⟩
    · simp [Value.cells] at hcs
      obtain ⟨rfl, rfl, rfl⟩ := hcs
      exact ⟨zs, .inr ⟨_, rfl, hl, hm, by simpa using hz, hcell, hwz⟩⟩
  obtain ⟨a1, rfl, rfl, rfl, w1⟩ := open_int Try.underlying21 (hval 1 21 v1 rfl rfl) h1
  clear hA0 hval0
  refine (walk a0 len0 cap0 z0 a1 W w0 w1).mono fun e W' ⟨he, bel⟩ => ?_
  subst he
  exact ⟨_, rfl, _, _, _, [], _, [], hW', trodAll_mk1 (shut_bool Try.underlying4 _), (trodAll_cons_mk (Below.trod laidOut (by kernel_rfl) (of_decide_eq_true (by kernel_rfl)) k0 bel lt0) (trodAll_cons_mk (shut_int Try.underlying21 w1) trodAll_mk0)), rfl, bel.frame _, fun h => by cases h⟩

theorem over : Rows.movesAtOnceRow.holds Try.pinned (OpenSpec.ofChange Rows.movesAtOnceSpec) :=
  OpenClaim.holds_of_wide 6 Try.f6 rfl rfl rfl rfl rfl rfl rfl ⟨rfl, rfl, rfl, rfl, rfl⟩ rfl rfl rfl rfl rfl (by kernel_rfl) Try.func6 (by kernel_rfl)
    (of_decide_eq_true (by kernel_rfl)) (by unfold Func.isWrapper; first | (rw [if_pos (by decide +kernel)]; kernel_rfl) | (rw [if_neg (by decide +kernel)]; exact ⟨rfl, rfl⟩))
    (fun os started H enc _ => lifted os started H enc)

/-- ████ THE STATEMENT ████ -/
theorem proved : Rows.MovesAtOnceSaid := over
#print axioms proved
end Go.Proofs.Ytacfkjkpfmpdmaa.movesAtOnce
