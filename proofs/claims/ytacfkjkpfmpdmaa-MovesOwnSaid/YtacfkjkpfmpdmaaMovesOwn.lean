/- What is proved: what moves' Order, After and Do tell is one's own; what was handed in stays as it was (law MovesOwn): for every row of numbers and every row of words the law answers true. Conditions: none beside those that the given row's own sentence names. -/
import Derived.Test.YtacfkjkpfmpdmaaRows
import Derived.Test.YtacfkjkpfmpdmaaVLW
import Derived.Test.YtacfkjkpfmpdmaaVE
import Derived.WalkKit
import Derived.ProofKit
import Derived.OpenShut
import Derived.ShutString
import Derived.ChangeOld
import Derived.Below
namespace Go.Proofs.Ytacfkjkpfmpdmaa.movesOwn
open Go.ChangeShapes Go.WideShapes Go.ChangeAt Go.RowKit
open Go.ChangeMaps (open_string shut_string)
set_option linter.unusedVariables false

theorem own : ownKnob Try.prog.godebug = none := by kernel_rfl
theorem laidOut : laidOutB Try.prog = true := by kernel_rfl

/-- WHAT THE WALK IS TOLD OF A SLICE OF INTEGERS THAT CAME IN: it is nil; or it leads to a row of 'cap' cells, the numbers 'zs' (the first 'len' are its elements, the rest its spare room), each fitting its kind. -/
def IsRow (k : IntKind) (w : World) (a : Option Addr) (len cap : Nat) (zs : List Int) : Prop :=
  (a = none ∧ len = 0 ∧ cap = 0 ∧ zs = []) ∨
  ∃ x, a = some x ∧ len ≤ cap ∧ cap ≤ maxLen ∧ zs.length = cap ∧ (∀ i, i < zs.length → w.cell? (x.add i) = some (.int k (zs.getD i 0))) ∧ ∀ n ∈ zs, (Lit.int k n).wf = true

open Go.Maps Go.Proofs.Ytacfkjkpfmpdmaa.Mem Go.Proofs.Ytacfkjkpfmpdmaa.Br Go.Proofs.Ytacfkjkpfmpdmaa.Va Go.Proofs.Ytacfkjkpfmpdmaa.Vm

/-! ### STEP 1: THE WALK: the Go text returns true, AND WRITES NOTHING THAT WAS THERE: 'Below w.heap.size w w'' (Derived/Below.lean: '.refl', '.alloc', '.drew', '.setCell' at a new block, '.trans'). Open each 'IsRow' by 'rcases' AHEAD of 'go_enter'; part every test ahead of the walk. -/
set_option maxRecDepth 100000 in
set_option maxHeartbeats 4000000 in
theorem walk (a0 : Option Addr) (len0 cap0 : Nat) (z0 : List Int) (a1 : Option Addr) (len1 cap1 : Nat) (z1 : List Int) (w : World) (w0 : IsRow .i64 w a0 len0 cap0 z0) (w1 : IsRow .i32 w a1 len1 cap1 z1) :
    Calls Try.prog 12 #[.slice a0 len0 cap0, .slice a1 len1 cap1] w fun e w' => e = .returned (.bool true) ∧ Below w.heap.size w w' := by
  obtain ⟨hl0, hi0⟩ := row_ints w0 (Nat.le_refl len0)
  generalize hs : z0.take len0 = s at *
  have HI0 := Lib.hid hi0
  have hle : min len1 40 ≤ len1 := Nat.min_le_left _ _
  obtain ⟨hp0, hp1, hp2, hp3⟩ := row_wordsV w1 hle
  generalize hps : z1.take (min len1 40) = p at *
  have HP0 := Lib.hid hp3
  unfold maxLen at hp2
  have hpl : p.length ≤ 40 := by omega
  have hmin : (min (len1 : Int) 40).toNat = min len1 40 := by omega
  have HMIN := Lib.hid hmin
  clear hs hps w0 w1 hl0 hi0 hp3 hmin
  go_enter Try.func12, Try.ntmps12
  go_wp2_with fail
  refine (awake_any _).mono ?_
  rintro e v1 ⟨rfl, hb1⟩
  have HB1 := Lib.hid hb1
  have HI1 := Lib.hid (ints_keep HI0.out hb1)
  have HP1 := Lib.hid (words_keep HP0.out hb1)
  clear hb1 HI0 HP0
  go_wp2_with fail
  refine (made_any v1 _ s HI1.out).mono ?_
  rintro e v2 ⟨vl, rfl, hol, hb2⟩
  have HB2 := Lib.hid (HB1.out.trans (hb2.mono HB1.out.size))
  have HI2 := Lib.hid (ints_keep HI1.out hb2)
  have HP2 := Lib.hid (words_keep HP1.out hb2)
  have HL2 := Lib.hid (MovesAt.of_own hol)
  clear hb2 hol HI1 HP1 HB1
  go_upto_region 4 with (fail)
  rw [HMIN.out]
  obtain ⟨W1, hW1⟩ : ∃ W1, v2.alloc (.cells #[] 21) = W1 := ⟨_, rfl⟩
  have hb3 : Below v2.heap.size v2 W1 := by rw [← hW1]; exact (Below.refl _ _).alloc (Nat.le_refl _) _
  have HE := Lib.hid (show OwnWords v2.heap.size W1 (.slice (some ⟨v2.heap.size, 0, none⟩) 0 0) [] by rw [← hW1]; exact empty_ownV v2 _ 1)
  have HP3 := Lib.hid (words_keep HP2.out hb3)
  have HI3 := Lib.hid (ints_keep HI2.out hb3)
  have HL3 := Lib.hid (MovesAt.keep HL2.out hb3)
  have HB3 := Lib.hid (HB2.out.trans (hb3.mono HB2.out.size))
  have hz3 := hb3.size
  clear hb3
  go_wp2_with (at_builtin; refine wpList_own0 rfl _ _ rfl rfl v2.heap.size (.slice (some ⟨v2.heap.size, 0, none⟩) 0 0) p rfl HE.out HP3.out (by omega) (by omega) ?_; intro vq v3 hq3 hg3)
  have hb4 : Below v2.heap.size W1 v3 := (Below.refl _ _).grown hg3 hz3 (fun j e => by cases e; exact Nat.le_refl _)
  have hb5 : Below v2.heap.size v2 v3 := (show Below v2.heap.size v2 W1 by rw [← hW1]; exact (Below.refl _ _).alloc (Nat.le_refl _) _).trans hb4
  have HB4 := Lib.hid (HB2.out.trans (hb5.mono HB2.out.size))
  have HP4 := Lib.hid (words_keep HP2.out hb5)
  have HI4 := Lib.hid (ints_keep HI2.out hb5)
  have HL4 := Lib.hid (MovesAt.keep HL2.out hb5)
  have HQ4 := Lib.hid (words_of_own hq3)
  obtain ⟨qA, qc, rfl⟩ := own_form hq3
  clear hb4 hb5 hg3 hq3 HE HP3 HI3 HL3 HB3 HP2 HI2 HL2 HB2 hz3 hW1
  have HLE := Lib.hid (made_len s)
  have hmr := made_rng s
  go_wp2_with fail
  refine (order_any v3 _ (madeM s) 15 10 HL4.out (by have := HLE.out; omega) hmr).mono ?_
  clear hmr
  rintro e v4 ⟨vc, rfl, hoc, hb⟩
  have HOK := Lib.hid (order_ok (madeM s) 15 10)
  have HOL := Lib.hid (order_len (l := madeM s) (by have := HLE.out; omega) 15 10)
  generalize (orderN (madeM s) 15 10).1 = xs at *
  generalize (orderN (madeM s) 15 10).2 = er at *
  generalize hms : madeM s = l at *
  have HMS := Lib.hid hms
  clear hms
  have HC5 := Lib.hid (pms_of_own hoc HOK.out)
  have HB5 := Lib.hid (HB4.out.trans (hb.mono HB4.out.size))
  have HP5 := Lib.hid (words_keep HP4.out hb)
  have HI5 := Lib.hid (ints_keep HI4.out hb)
  have HL5 := Lib.hid (MovesAt.keep HL4.out hb)
  have HQ5 := Lib.hid (words_keep HQ4.out hb)
  clear hoc hb HB4 HP4 HI4 HL4 HQ4 HOK
  go_wp2_with fail
  refine (after_any v4 _ _ l p HL5.out HP5.out (by have := HLE.out; omega) (by omega)).mono ?_
  rintro e v5 ⟨va, rfl, hoa, hb⟩
  have HA6 := Lib.hid hoa
  have HB6 := Lib.hid (HB5.out.trans (hb.mono HB5.out.size))
  have HP6 := Lib.hid (words_keep HP5.out hb)
  have HI6 := Lib.hid (ints_keep HI5.out hb)
  have HL6 := Lib.hid (MovesAt.keep HL5.out hb)
  have HQ6 := Lib.hid (words_keep HQ5.out hb)
  have HC6 := Lib.hid (PmsAt.keep HC5.out hb)
  have hz6 := hb.size
  have HT6 := Lib.hid hb
  clear hoa hb HC5
  go_wp2_with fail
  refine (do_any v5 _ _ xs p HC6.out HP6.out (by have := HOL.out; omega) (by omega)).mono ?_
  rintro e v6 ⟨vb, rfl, hob, hb⟩
  have HT7 := Lib.hid (show Below v4.heap.size v4 v6 from HT6.out.trans (hb.mono hz6))
  have HA7 := Lib.hid (own_same_row HA6.out (fun g cur hg => hb.block g (Array.getElem?_eq_some_iff.1 hg).1))
  have HAL := Lib.hid (show ∀ g, va.ownBlock = some g → v4.heap.size ≤ g ∧ g < v5.heap.size from fun g hg => World.ownsRow.lt HA6.out g hg)
  have HBL := Lib.hid (show ∀ g, vb.ownBlock = some g → v5.heap.size ≤ g from fun g hg => (World.ownsRow.lt hob g hg).1)
  have HO7 := Lib.hid hob
  have hz7 := hb.size
  have h45 := hz6
  generalize afterN l p = la at *
  generalize doN xs p = lb at *
  obtain ⟨Aa, ca, rfl⟩ := own_form HA7.out
  obtain ⟨Ab, cb, rfl⟩ := own_form hob
  have hac := (show la.length ≤ ca ∧ ca ≤ maxLen from own_cap HA7.out)
  have hbc := (show lb.length ≤ cb ∧ cb ≤ maxLen from own_cap hob)
  unfold maxLen at hac hbc
  clear hob hb hz6 HB6 HP6 HI6 HL6 HQ6 HC6 HA6 HT6
  go_wp2_with fail
  go_loopw [13] (fun i wr => ∃ (k : Nat) (l' : List Int), k ≤ la.length ∧ i = .int .i64 k ∧ l'.length = la.length ∧ OwnWords v4.heap.size wr (.slice Aa la.length ca) l' ∧ v6.grownBy wr (Value.slice Aa la.length ca).ownBlock) (fun i _ => la.length - (intOf i).toNat)
  case atStart => exact ⟨0, la, Nat.zero_le _, rfl, rfl, HA7.out, grown_refl _ _⟩
  case round =>
    obtain ⟨k, l', hk, rfl, hl', ho, hg⟩ := hrel
    have HO := Lib.hid ho
    have HG := Lib.hid hg
    clear hg
    by_cases hlt : k < la.length
    · obtain ⟨g, rfl, hgB⟩ := own_at' ho (by omega)
      obtain ⟨c0, f0⟩ := OwnWords.cellK ho (k := k) (by omega)
      obtain ⟨s1, s2⟩ := own_store ho (k := k) 7
      have HS1 := Lib.hid s1
      have HS2 := Lib.hid (World.grownBy.trans HG.out s2)
      clear ho s1 s2
      generalize l'[k] = y at *
      go_wp2_with fail
      exact ⟨⟨k + 1, _, by omega, by go_num, by rw [List.length_set]; exact hl', HS1.out, HS2.out⟩, by simp [intOf]; omega⟩
    · obtain rfl : k = la.length := by omega
      have hg := HG.out
      obtain ⟨wo, rfl⟩ : ∃ wo : World, wo = wr := ⟨_, rfl⟩
      have HT8 := Lib.hid (HT7.out.trans (show Below v4.heap.size v6 wo from (Below.refl _ _).grown hg (by omega) (fun j e => (HAL.out j e).1)))
      have hzw := hg.size
      have HO8 := Lib.hid (show OwnWords v5.heap.size wo (.slice Ab lb.length cb) lb from own_same_kv HO7.out (fun g hg2 => hg.block g (World.ownsRow.lt HO7.out g hg2).2 (fun e => by have h1 := (HAL.out g e.symm).2; have h2 := HBL.out g hg2; omega)))
      clear ho hg HO HG HA7 HO7 HT7 HAL
      go_wp2_with fail
      go_loopw [14] (fun i wr => ∃ (k : Nat) (l' : List Int), k ≤ lb.length ∧ i = .int .i64 k ∧ l'.length = lb.length ∧ OwnWords v5.heap.size wr (.slice Ab lb.length cb) l' ∧ wo.grownBy wr (Value.slice Ab lb.length cb).ownBlock) (fun i _ => lb.length - (intOf i).toNat)
      case atStart => exact ⟨0, lb, Nat.zero_le _, rfl, rfl, HO8.out, grown_refl _ _⟩
      case round =>
        obtain ⟨k, l', hk, rfl, hl', ho, hg⟩ := hrel
        have HO := Lib.hid ho
        have HG := Lib.hid hg
        clear hg
        by_cases hlt : k < lb.length
        · obtain ⟨g, rfl, hgB⟩ := own_at' ho (by omega)
          obtain ⟨c0, f0⟩ := OwnWords.cellK ho (k := k) (by omega)
          obtain ⟨s1, s2⟩ := own_store ho (k := k) 9
          have HS1 := Lib.hid s1
          have HS2 := Lib.hid (World.grownBy.trans HG.out s2)
          clear ho s1 s2
          generalize l'[k] = y at *
          go_wp2_with fail
          exact ⟨⟨k + 1, _, by omega, by go_num, by rw [List.length_set]; exact hl', HS1.out, HS2.out⟩, by simp [intOf]; omega⟩
        · obtain rfl : k = lb.length := by omega
          have hg := HG.out
          have hbz := HT8.out.trans (show Below v4.heap.size wo wr from (Below.refl _ _).grown hg (by have := HT8.out.size; omega) (fun j e => by have := HBL.out j e; omega))
          have HP9 := Lib.hid (words_keep HP5.out hbz)
          have HQ9 := Lib.hid (show WordsAt wr (.slice qA (min len1 40) qc) p by rw [← hp0]; exact words_keep HQ5.out hbz)
          have HI9 := Lib.hid (ints_keep HI5.out hbz)
          have HL9 := Lib.hid (MovesAt.keep HL5.out hbz)
          have HB9 := Lib.hid (HB5.out.trans (hbz.mono HB5.out.size))
          clear hbz hg ho HO HG HT8 HO8 HBL HP5 HQ5 HI5 HL5 HB5
          go_wp2_with fail
          refine (words_any _ _ _ p p HP9.out HQ9.out).mono ?_
          rintro e v9 ⟨rfl, nq, hnq⟩
          have hbq : Below wr.heap.size wr v9 := by rw [hnq]; exact below_drewN (Below.refl _ _) _
          have HI10 := Lib.hid (ints_keep HI9.out hbq)
          have HL10 := Lib.hid (MovesAt.keep HL9.out hbq)
          have HB10 := Lib.hid (HB9.out.trans (hbq.mono HB9.out.size))
          rw [show decide (p = p) = true from decide_eq_true rfl]
          clear hbq hnq HP9 HQ9 HI9 HL9 HB9
          go_wp2_with fail
          refine (made_any v9 _ s HI10.out).mono ?_
          rintro e v10 ⟨vw, rfl, how, hb⟩
          rw [HMS.out] at how
          have HB11 := Lib.hid (HB10.out.trans (hb.mono HB10.out.size))
          have HL11 := Lib.hid (MovesAt.keep HL10.out hb)
          have HW11 := Lib.hid (MovesAt.of_own how)
          obtain ⟨lA, lc, lb0, lo0, rfl, l1, l2, -⟩ := id HL11.out
          obtain ⟨wA, wc, wb0, wo0, rfl, m1, m2, -⟩ := id HW11.out
          unfold maxLen at l2 m2
          clear how hb HL10 HI10 HB10 hac hbc hzw hz7 h45 hl' hk hlt
          go_wp2_with fail
          go_loopw [17] (fun i wr => ∃ k q : Nat, k ≤ l.length ∧ i = .int .i64 k ∧ wr = v10.drewN q) (fun i _ => l.length - (intOf i).toNat)
          case atStart => exact ⟨0, 0, Nat.zero_le _, rfl, rfl⟩
          case round =>
            obtain ⟨k, q, hk, rfl, hw⟩ := hrel
            obtain ⟨wx, rfl⟩ : ∃ wx : World, wx = wr := ⟨_, rfl⟩
            have HWX := Lib.hid hw
            by_cases hlt : k < l.length
            · obtain ⟨A', c', ga, oa, e, -, -, hA, hc⟩ := HL11.out
              injection e with e1 e2 e3
              subst e1 e3
              obtain rfl : lA = some ⟨ga, oa, none⟩ := hA (by omega)
              obtain ⟨A', c', gb, ob, e, -, -, hA', hc'⟩ := HW11.out
              injection e with e1 e2 e3
              subst e1 e3
              obtain rfl : wA = some ⟨gb, ob, none⟩ := hA' (by omega)
              obtain ⟨c0, c1⟩ := hc k hlt
              obtain ⟨d0, d1⟩ := hc' k hlt
              generalize l[k] = y at *
              obtain ⟨y1, y2⟩ := y
              have c0 : wx.cell? ⟨ga, oa + k * 2, none⟩ = some (.int .i64 y1) := by rw [hw]; exact c0
              have c1 : wx.cell? ⟨ga, oa + k * 2 + 1, none⟩ = some (.int .i64 y2) := by rw [hw]; exact c1
              have d0 : wx.cell? ⟨gb, ob + k * 2, none⟩ = some (.int .i64 y1) := by rw [hw]; exact d0
              have d1 : wx.cell? ⟨gb, ob + k * 2 + 1, none⟩ = some (.int .i64 y2) := by rw [hw]; exact d1
              clear hw hc hc' hA hA'
              go_wp2_with fail
              go_quiet (fail)
              go_wp2
              exact ⟨⟨k + 1, q + nq, by omega, by go_num, by rw [HWX.out]; simp [World.drewN, Nat.add_assoc]⟩, by simp [intOf]; omega⟩
            · obtain rfl : k = l.length := by omega
              have HBF := Lib.hid (show Below w.heap.size w wx by rw [hw]; exact below_drewN HB11.out _)
              clear hw
              go_wp2
              go_ret
              exact ⟨rfl, HBF.out⟩

/-! ### THE ROW's STEP: WRITTEN OUT: LEAVE IT -/
set_option maxRecDepth 100000 in
theorem lifted (os : Os) (started : os.Started) (H : Type) (enc : TypeId × Value → H) :
    ReturnsInHanded {} Try.checked os 12 .any (Rows.movesOwnSpec.pre6 enc Try.prog Try.f12 Rows.movesOwnRow.domain false) (Rows.movesOwnSpec.post enc Try.prog Try.f12 false true false false) := by
  refine returnsInHanded_of_change (C := Try.checked) own started (by kernel_rfl) Try.func12
    (ChangeSpec.witness6 (enc := enc) (C := Try.checked) false ⟨#[], #[.slice none 0 0, .slice none 0 0], []⟩ 8 (by kernel_rfl) (by kernel_rfl) (by kernel_rfl) (by kernel_rfl)) ?_
  intro W base args ds gs before hval0 hW hcnd _
  have hval : ∀ (j : Nat) t v, Try.f12.params[j]? = some t → args[j]? = some v → Value.okWide Try.prog W .any base t v := hval0
  have hW' := hW
  obtain ⟨p, q, hA0, hV, rfl, hfz, hnd⟩ := hW
  have hA : DataW.TrodAll enc Try.prog W 0 (fun _ => true) true Try.f12.params.toList args.toList ds p := hA0
  rw [Try.params12] at hA hval
  obtain ⟨v0, vs0, d0, ds0, p0, q0, hargs, rfl, rfl, h0, r0⟩ := trodAll_cons hA
  obtain ⟨v1, vs1, d1, ds1, p1, q1, rfl, rfl, rfl, h1, r1⟩ := trodAll_cons r0
  obtain ⟨rfl, rfl, rfl⟩ := trodAll_nil r1
  obtain rfl : args = #[v0, v1] := by cases args; simp_all
  obtain ⟨rfl, rfl⟩ := trodVars_none hV
  obtain ⟨a0, len0, cap0, rfl⟩ := okWide_slice Try.underlying23 (hval 0 23 v0 rfl rfl)
  have k0 := h0
  have lt0 : ∀ x ∈ p0, x.block < W.heap.size := by obtain ⟨m, hm⟩ := k0; exact DataW.trod_lt m _ _ _ hm
  obtain ⟨z0, w0⟩ : ∃ zs, IsRow .i64 W a0 len0 cap0 zs := by
    obtain ⟨fuel, hf⟩ := h0
    rcases open_ints Try.underlying23 Try.underlying3 (by kernel_rfl) hf with ⟨hcs, _⟩ | ⟨x, l, c, zs, hcs, _, hl, hm, hz, _, hcell, hwz⟩
    · simp [Value.cells] at hcs
      obtain ⟨rfl, rfl, rfl⟩ := hcs
      exact ⟨[], .inl ⟨rfl, rfl, rfl, rfl⟩⟩
    · simp [Value.cells] at hcs
      obtain ⟨rfl, rfl, rfl⟩ := hcs
      exact ⟨zs, .inr ⟨_, rfl, hl, hm, by simpa using hz, hcell, hwz⟩⟩
  obtain ⟨a1, len1, cap1, rfl⟩ := okWide_slice Try.underlying31 (hval 1 31 v1 rfl rfl)
  have k1 := h1
  have lt1 : ∀ x ∈ p1, x.block < W.heap.size := by obtain ⟨m, hm⟩ := k1; exact DataW.trod_lt m _ _ _ hm
  obtain ⟨z1, w1⟩ : ∃ zs, IsRow .i32 W a1 len1 cap1 zs := by
    obtain ⟨fuel, hf⟩ := h1
    rcases open_ints Try.underlying31 Try.underlying21 (by kernel_rfl) hf with ⟨hcs, _⟩ | ⟨x, l, c, zs, hcs, _, hl, hm, hz, _, hcell, hwz⟩
    · simp [Value.cells] at hcs
      obtain ⟨rfl, rfl, rfl⟩ := hcs
      exact ⟨[], .inl ⟨rfl, rfl, rfl, rfl⟩⟩
    · simp [Value.cells] at hcs
      obtain ⟨rfl, rfl, rfl⟩ := hcs
      exact ⟨zs, .inr ⟨_, rfl, hl, hm, by simpa using hz, hcell, hwz⟩⟩
  clear hA0 hval0
  refine (walk a0 len0 cap0 z0 a1 len1 cap1 z1 W w0 w1).mono fun e W' ⟨he, bel⟩ => ?_
  subst he
  exact ⟨_, rfl, _, _, _, [], _, [], hW', trodAll_mk1 (shut_bool Try.underlying4 _), (trodAll_cons_mk (Below.trod laidOut (by kernel_rfl) (of_decide_eq_true (by kernel_rfl)) k0 bel lt0) (trodAll_cons_mk (Below.trod laidOut (by kernel_rfl) (of_decide_eq_true (by kernel_rfl)) k1 bel lt1) trodAll_mk0)), rfl, bel.frame _, fun h => by cases h⟩

theorem over : Rows.movesOwnRow.holds Try.pinned (OpenSpec.ofChange Rows.movesOwnSpec) :=
  OpenClaim.holds_of_wide 12 Try.f12 rfl rfl rfl rfl rfl rfl rfl ⟨rfl, rfl, rfl, rfl, rfl⟩ rfl rfl rfl rfl rfl (by kernel_rfl) Try.func12 (by kernel_rfl)
    (of_decide_eq_true (by kernel_rfl)) (by unfold Func.isWrapper; first | (rw [if_pos (by decide +kernel)]; kernel_rfl) | (rw [if_neg (by decide +kernel)]; exact ⟨rfl, rfl⟩))
    (fun os started H enc _ => lifted os started H enc)

/-- ████ THE STATEMENT ████ -/
theorem proved : Rows.MovesOwnSaid := over
#print axioms proved
end Go.Proofs.Ytacfkjkpfmpdmaa.movesOwn
