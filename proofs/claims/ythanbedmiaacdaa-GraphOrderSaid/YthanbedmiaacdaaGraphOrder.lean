/- What is proved: in graph's Order of a graph made of numbers all reached blocks stand, each once, block 0 first, each other one behind one from which an edge goes to it, and none dominates what stands ahead of it (law GraphOrder): for every row of numbers the law answers true. Conditions: none beside those that the given row's own sentence names. -/
import Derived.Test.YthanbedmiaacdaaRows
import Derived.Test.YthanbedmiaacdaaDfsW
import Derived.Test.YthanbedmiaacdaaHeaders
import Derived.Deep.QuietTactic
import Derived.BigQuiet
import Derived.WalkKit
import Derived.ProofKit
import Derived.OpenShut
import Derived.ShutString
import Derived.ChangeOld
import Derived.Below
namespace Go.Proofs.Ythanbedmiaacdaa.graphOrder
open Go.ChangeShapes Go.WideShapes Go.ChangeAt Go.RowKit
open Go.ChangeMaps (open_string shut_string)
set_option linter.unusedVariables false

theorem own : ownKnob Try.prog.godebug = none := by kernel_rfl
theorem laidOut : laidOutB Try.prog = true := by kernel_rfl

/-- WHAT THE WALK IS TOLD OF A SLICE OF INTEGERS THAT CAME IN: it is nil; or it leads to a row of 'cap' cells, the numbers 'zs' (the first 'len' are its elements, the rest its spare room), each fitting its kind. -/
def IsRow (k : IntKind) (w : World) (a : Option Addr) (len cap : Nat) (zs : List Int) : Prop :=
  (a = none ∧ len = 0 ∧ cap = 0 ∧ zs = []) ∨
  ∃ x, a = some x ∧ len ≤ cap ∧ cap ≤ maxLen ∧ zs.length = cap ∧ (∀ i, i < zs.length → w.cell? (x.add i) = some (.int k (zs.getD i 0))) ∧ ∀ n ∈ zs, (Lit.int k n).wf = true

open Go.Proofs.Ythanbedmiaacdaa.Gl Go.Proofs.Ythanbedmiaacdaa.Mem Go.Proofs.Ythanbedmiaacdaa.Gr Go.Proofs.Ythanbedmiaacdaa.Gn Go.Proofs.Ythanbedmiaacdaa.Gc
/-- How many are marked among the first k. -/
def cntT (l : List Bool) (k : Nat) : Nat := ((List.range k).filter fun i => l.getD i false).length
theorem cntT_hit {l : List Bool} {k : Nat} (h : l.getD k false = true) : cntT l (k + 1) = cntT l k + 1 := by
  unfold cntT; rw [List.range_succ, List.filter_append, List.length_append, List.filter_cons, if_pos h]; rfl
theorem cntT_miss {l : List Bool} {k : Nat} (h : l.getD k false = false) : cntT l (k + 1) = cntT l k := by
  unfold cntT; rw [List.range_succ, List.filter_append, List.length_append, List.filter_cons, if_neg (by rw [h]; simp)]; rfl
theorem cntT_le (l : List Bool) (k : Nat) : cntT l k ≤ k := by
  have := List.length_filter_le (fun i => l.getD i false) (List.range k)
  rw [List.length_range] at this; exact this
/-- What is told of the part of an order ahead of a place. -/
def someE (g : List (List Int)) (r : List Nat) (i k : Nat) : Bool := (i == 0) || (List.range k).any fun j => edgeB g (r.getD j 0 : Nat) (r.getD i 0 : Nat)
theorem someE_succ (g : List (List Int)) (r : List Nat) (i k : Nat) : someE g r i (k + 1) = (someE g r i k || edgeB g (r.getD k 0 : Nat) (r.getD i 0 : Nat)) := by
  unfold someE; rw [List.range_succ, List.any_append]; simp [Bool.or_assoc]
theorem more_draws {v u : World} {n : Nat} (h : u = v.drewN n) (m : Nat) : ∃ k, u.drewN m = v.drewN k := ⟨n + m, by rw [h, World.drewN_drewN]⟩
theorem someE_zero (g : List (List Int)) (r : List Nat) (i : Nat) : someE g r i 0 = ((i : Int) == 0) := by
  unfold someE
  rw [List.range_zero, List.any_nil, Bool.or_false, Bool.eq_iff_iff, beq_iff_eq, beq_iff_eq]
  omega

/-! ### STEP 1: THE WALK: the Go text returns true, AND WRITES NOTHING THAT WAS THERE: 'Below w.heap.size w w'' (Derived/Below.lean: '.refl', '.alloc', '.drew', '.setCell' at a new block, '.trans'). Open each 'IsRow' by 'rcases' AHEAD of 'go_enter'; part every test ahead of the walk. -/
set_option maxRecDepth 100000 in
set_option maxHeartbeats 1000000 in
theorem walk (a0 : Option Addr) (len0 cap0 : Nat) (z0 : List Int) (w : World) (w0 : IsRow .i64 w a0 len0 cap0 z0) :
    Calls Try.prog 5 #[.slice a0 len0 cap0] w fun e w' => e = .returned (.bool true) ∧ Below w.heap.size w w' := by
  have W0 := Lib.hid w0
  clear w0
  obtain ⟨hl0, hi0⟩ := row_ints W0.out (Nat.le_refl len0)
  have HI0 := Lib.hid hi0
  generalize z0.take len0 = s at *
  clear hl0 hi0 W0
  go_enter Try.func5, Try.ntmps5
  go_wp2_with fail
  refine (awake_any _).mono ?_
  rintro e v1 ⟨rfl, hb1⟩
  have HB1 := Lib.hid hb1
  have HI1 := Lib.hid (HI0.out.keep hb1)
  clear hb1 HI0
  go_wp2_with fail
  refine (made_any v1 _ s HI1.out).mono ?_
  rintro e v2 ⟨vg, rfl, hog, hb2⟩
  have hg2 := hog.grid
  have HG2 := Lib.hid hg2
  have HB2 := Lib.hid (HB1.out.trans (hb2.mono HB1.out.size))
  have hS := madeL_small s
  have HS := Lib.hid hS
  have hgl := hS.1
  have hg0 : 0 < (madeL s).length := by rw [madeL_len]; have := madeN_bd s; omega
  obtain ⟨Ag, cg, rfl, hrest⟩ := hg2
  generalize madeL s = g at *
  clear hog hb2 hS HB1 HI1 hrest
  go_wp2_with fail
  refine (order_code v2 _ g HG2.out HS.out).mono ?_
  rintro e v3 ⟨vl, rfl, hol, hb3⟩
  have HG3 := Lib.hid (HG2.out.keep hb3)
  have HB3 := Lib.hid (HB2.out.trans (hb3.mono HB2.out.size))
  have HOL := Lib.hid hol.ints
  clear hol hb3 HB2 HG2
  go_wp2_with fail
  refine (table_any v3 _ g HG3.out (by omega)).mono ?_
  rintro e v4 ⟨vt, rfl, hot, hb4⟩
  have HG4 := Lib.hid (HG3.out.keep hb4)
  have HB4 := Lib.hid (HB3.out.trans (hb4.mono HB3.out.size))
  have HOL4 := Lib.hid (HOL.out.keep hb4)
  obtain ⟨At, ct, rfl⟩ := OwnBoolGrid.form hot
  obtain ⟨p, rfl⟩ := OwnBoolGrid.at_ hot (by rw [tableL_len]; exact hg0)
  rw [tableL_len] at hot ⊢
  have HOT := Lib.hid hot
  clear hot hb4 HB3 HG3 HOL
  go_wp2_with fail
  refine (without_any v4 _ g (-1) HG4.out (by omega)).mono ?_
  rintro e v5 ⟨rfl, hoa, hb5⟩
  have HG5 := Lib.hid (HG4.out.keep hb5)
  have HB5 := Lib.hid (HB4.out.trans (hb5.mono HB4.out.size))
  have HOL5 := Lib.hid (HOL4.out.keep hb5)
  have HOT5 := Lib.hid (HOT.out.below hb5)
  have hwl := withoutL_len g (-1)
  have HOA := Lib.hid hoa
  have hD := walkN_dfs (tidyN_ok g) (by rw [tidyN_len]; exact hg0)
  have HLC := Lib.hid (show (orderN (tidyN g)).length = cntT (withoutL g (-1)) g.length from by
    unfold orderN cntT; rw [List.length_reverse]; exact left_count hD hg0)
  have HD := Lib.hid hD
  clear hoa hb5 HB4 HG4 HOL4 HOT hD
  obtain ⟨Al, cl, rfl, hl1, hl2, hl3⟩ := HOL5.out
  rw [li_len] at hl1 ⊢
  have HL := Lib.hid hl3
  unfold maxLen at hl2
  clear hl3 HOL5
  have HLL := Lib.hid (show ∀ k (hk : k < (orderN (tidyN g)).length), (orderN (tidyN g)).getD k 0 = (orderN (tidyN g))[k] from fun k hk => getD_at hk 0)
  obtain ⟨L, hLe⟩ : ∃ L, (orderN (tidyN g)).length = L := ⟨_, rfl⟩
  have HLE := Lib.hid hLe
  rw [hLe] at hl1 ⊢
  rw [hwl]
  clear hLe
  generalize hal : withoutL g (-1) = al at *
  have HAL := Lib.hid hal
  clear hal
  have hL0 : 0 < L := by
    obtain ⟨hi, _⟩ := rev_zero HD.out
    rw [← HLE.out]; exact hi
  obtain ⟨ad, rfl, hq⟩ := HL.out 0 (by rw [li_len, HLE.out]; exact hL0)
  clear hq
  have HC := Lib.hid (show ∀ k, k < L → v5.cell? (ad.add k) = some (.int .i64 ((orderN (tidyN g)).getD k 0 : Nat)) from fun k hk => by
    have hk' : k < (orderN (tidyN g)).length := by rw [HLE.out]; exact hk
    obtain ⟨ad', e, hc⟩ := HL.out k (by rw [li_len]; exact hk')
    injection e with e
    subst e
    rw [li_at hk'] at hc
    rw [HLL.out k hk']; exact hc)
  have HR0 := Lib.hid (show (orderN (tidyN g)).getD 0 0 = 0 from by
    obtain ⟨hi, e⟩ := rev_zero HD.out
    rw [HLL.out 0 hi]; exact e)
  have HRL := Lib.hid (show ∀ k, k < L → (orderN (tidyN g)).getD k 0 < g.length from fun k hk => by
    have hk' : k < (orderN (tidyN g)).length := by rw [HLE.out]; exact hk
    obtain ⟨c, hc, e⟩ := rev_came HD.out hk'
    rw [HLL.out k hk', show (orderN (tidyN g))[k] = _ from e.symm]
    have := (HD.out.know.came c hc).1
    rw [tidyN_len] at this; exact this)
  have HRN := Lib.hid (show ∀ k i, k < i → i < L → (orderN (tidyN g)).getD k 0 ≠ (orderN (tidyN g)).getD i 0 ∧ domB g ((orderN (tidyN g)).getD i 0 : Nat) ((orderN (tidyN g)).getD k 0 : Nat) = false from fun k i hki hi => by
    have hi' : i < (orderN (tidyN g)).length := by rw [HLE.out]; exact hi
    have hk' : k < (orderN (tidyN g)).length := by omega
    rw [HLL.out k hk', HLL.out i hi']
    exact ⟨rev_ne HD.out hki hi', rev_dom HD.out hg0 hki hi'⟩)
  have HRS := Lib.hid (show ∀ i, i < L → someE g (orderN (tidyN g)) i i = true from fun i hi => by
    have hi' : i < (orderN (tidyN g)).length := by rw [HLE.out]; exact hi
    unfold someE
    by_cases h0 : i = 0
    · subst h0; rfl
    · obtain ⟨k, hk, he⟩ := rev_edge HD.out (by omega) hi'
      rw [Bool.or_eq_true, List.any_eq_true]
      refine Or.inr ⟨k, List.mem_range.2 hk, ?_⟩
      have hk' : k < (orderN (tidyN g)).length := by omega
      rw [HLL.out k hk', HLL.out i hi']
      exact he)
  have HCT := Lib.hid (show cntT al g.length = L from by rw [← HLC.out, HLE.out])
  generalize orderN (tidyN g) = r at *
  clear HL HLL HLE HLC HD
  go_upto_region 7 with (fail)
  go_wp2_with fail
  go_loopw [9, 8] (fun i c wr => ∃ k : Nat, k ≤ g.length ∧ i = .int .i64 k ∧ c = .int .i64 (cntT al k : Nat) ∧ wr = v5) (fun i _ _ => g.length - (intOf i).toNat)
  case atStart => exact ⟨0, by omega, rfl, rfl, rfl⟩
  case round =>
    obtain ⟨k, hk, rfl, rfl, hwr⟩ := hrel
    obtain rfl : v5 = wr := hwr.symm
    have hcl := cntT_le al k
    by_cases hlt : k < g.length
    · have hca := OwnBools.cell HOA.out (b := k) (by rw [hwl]; exact hlt)
      have hgd := getD_at (l := al) (i := k) (by rw [hwl]; exact hlt) false
      cases hx : al[k]'(by rw [hwl]; exact hlt) with
      | true =>
        rw [hx] at hca
        have HK := Lib.hid (cntT_hit (hgd.trans hx))
        clear hgd hx
        go_wp2
        go_roundw
        case rel => exact ⟨k + 1, by omega, by go_num, by rw [HK.out]; go_num, trivial⟩
        case measure => simp [intOf]; omega
      | false =>
        rw [hx] at hca
        have HK := Lib.hid (cntT_miss (hgd.trans hx))
        clear hgd hx
        go_wp2
        go_roundw
        case rel => exact ⟨k + 1, by omega, by go_num, by rw [HK.out], trivial⟩
        case measure => simp [intOf]; omega
    · obtain rfl : k = g.length := by omega
      have hz0 : v5.cell? ad = some (.int .i64 0) := by have := HC.out 0 hL0; rw [HR0.out, show ad.add 0 = ad from by simp [Addr.add]] at this; exact this
      rw [HCT.out] at *
      have hLb : ((L : Int) == 0) = false := beq_eq_false_iff_ne.2 (by omega)
      have hLe : ((L : Int) != (L : Int)) = false := by simp
      clear hcl
      go_wp2_with fail
      clear hz0
      go_loopw [10] (fun i wr => ∃ j : Nat, j ≤ L ∧ i = .int .i64 j ∧ ∃ n, wr = v5.drewN n) (fun i _ => L - (intOf i).toNat)
      case atStart => exact ⟨0, by omega, rfl, 0, rfl⟩
      case round =>
        obtain ⟨j, hj, rfl, n, hwn⟩ := hrel
        obtain ⟨wo, rfl⟩ : ∃ wo : World, wo = wr := ⟨_, rfl⟩
        have HWN := Lib.hid hwn
        by_cases hlj : j < L
        · have hcj : wo.cell? (ad.add j) = some (.int .i64 (r.getD j 0 : Nat)) := by rw [hwn]; exact HC.out j hlj
          have hxl := HRL.out j hlj
          obtain ⟨x, hx⟩ : ∃ x, r.getD j 0 = x := ⟨_, rfl⟩
          rw [hx] at hcj hxl
          have HX := Lib.hid hx
          have hxj : (x : Int) < (g.length : Int) := by omega
          have hx0 : (0 : Int) ≤ (x : Int) := by omega
          clear hwn hx
          go_upto_region 19 with (fail)
          go_wp2_with fail
          go_loopw [12, 11] (fun a b wr => ∃ k : Nat, k ≤ j ∧ a = .int .i64 k ∧ b = .bool (someE g r j k) ∧ ∃ n, wr = v5.drewN n) (fun a _ _ => j - (intOf a).toNat)
          case atStart => exact ⟨0, by omega, rfl, by rw [someE_zero], n, HWN.out⟩
          case round =>
            obtain ⟨k, hk', rfl, rfl, n2, hwn⟩ := hrel
            obtain ⟨wi, rfl⟩ : ∃ wi : World, wi = wr := ⟨_, rfl⟩
            by_cases hkj : k < j
            · have hkL : k < L := by omega
              have hck : wi.cell? (ad.add k) = some (.int .i64 (r.getD k 0 : Nat)) := by rw [hwn]; exact HC.out k hkL
              have hcj : wi.cell? (ad.add j) = some (.int .i64 (x : Nat)) := by rw [hwn, ← HX.out]; exact HC.out j hlj
              obtain ⟨y, hy⟩ : ∃ y, r.getD k 0 = y := ⟨_, rfl⟩
              rw [hy] at hck
              have HY := Lib.hid hy
              have HGW := Lib.hid (show Grid wi _ g by rw [hwn]; exact HG5.out.drewN n2)
              have HSE := Lib.hid (show someE g r j (k + 1) = (someE g r j k || edgeB g (y : Nat) (x : Nat)) by rw [someE_succ, HY.out, HX.out])
              have hrn := HRN.out k j hkj hlj
              rw [HX.out, hy] at hrn
              have hyl : y < g.length := by rw [← hy]; exact HRL.out k hkL
              obtain ⟨q, ht1, ht2⟩ := table_cells HOT5.out hxl hyl
              rw [hrn.2] at ht2
              have ht1 : wi.cell? ⟨p, x, none⟩ = some (.slice (some ⟨q, 0, none⟩) g.length g.length) := by rw [hwn]; exact ht1
              have ht2 : wi.cell? ⟨q, y, none⟩ = some (.bool false) := by rw [hwn]; exact ht2
              have hyx : ((y : Int) == (x : Int)) = false := beq_eq_false_iff_ne.2 (by have := hrn.1; omega)
              have hyl2 : (y : Int) < (g.length : Int) := by omega
              have HWI := Lib.hid hwn
              clear hwn hy hrn
              cases hsb : someE g r j k <;> cases heb : edgeB g (y : Int) (x : Int)
              all_goals
                rw [hsb, heb] at HSE
                clear hsb
                go_wp2_with fail
                go_quiet ((go_at_call 22; exact Calls.quiet_of_same (edge_any _ _ g (y : Int) (x : Int) HGW.out)))
                go_wp2_with fail
                go_quiet (fail)
                go_wp2
                go_roundw
                case rel => exact ⟨k + 1, by omega, by go_num, by rw [HSE.out]; rfl, more_draws HWI.out _⟩
                case measure => simp [intOf]; omega
            · obtain rfl : k = j := by omega
              have HS2 := Lib.hid (HRS.out k hlj)
              have hb := HS2.out
              go_wp2
              go_roundw
              case rel => exact ⟨k + 1, by omega, by go_num, n2, rfl⟩
              case measure => simp [intOf]; omega
        · obtain rfl : j = L := by omega
          have HBF := Lib.hid (show Below w.heap.size w wo by rw [hwn]; exact below_drewN HB5.out n)
          clear hwn
          go_wp2
          go_ret
          exact ⟨rfl, HBF.out⟩

/-! ### THE ROW's STEP: WRITTEN OUT: LEAVE IT -/
set_option maxRecDepth 100000 in
theorem lifted (os : Os) (started : os.Started) (H : Type) (enc : TypeId × Value → H) :
    ReturnsInHanded {} Try.checked os 5 .any (Rows.graphOrderSpec.pre6 enc Try.prog Try.f5 Rows.graphOrderRow.domain false) (Rows.graphOrderSpec.post enc Try.prog Try.f5 false true false false) := by
  refine returnsInHanded_of_change (C := Try.checked) own started (by kernel_rfl) Try.func5
    (ChangeSpec.witness6 (enc := enc) (C := Try.checked) false ⟨#[], #[.slice none 0 0], []⟩ 8 (by kernel_rfl) (by kernel_rfl) (by kernel_rfl) (by kernel_rfl)) ?_
  intro W base args ds gs before hval0 hW hcnd _
  have hval : ∀ (j : Nat) t v, Try.f5.params[j]? = some t → args[j]? = some v → Value.okWide Try.prog W .any base t v := hval0
  have hW' := hW
  obtain ⟨p, q, hA0, hV, rfl, hfz, hnd⟩ := hW
  have hA : DataW.TrodAll enc Try.prog W 0 (fun _ => true) true Try.f5.params.toList args.toList ds p := hA0
  rw [Try.params5] at hA hval
  obtain ⟨v0, vs0, d0, ds0, p0, q0, hargs, rfl, rfl, h0, r0⟩ := trodAll_cons hA
  obtain ⟨rfl, rfl, rfl⟩ := trodAll_nil r0
  obtain rfl : args = #[v0] := by cases args; simp_all
  obtain ⟨rfl, rfl⟩ := trodVars_none hV
  obtain ⟨a0, len0, cap0, rfl⟩ := okWide_slice Try.underlying23 (hval 0 23 v0 rfl rfl)
  have k0 := h0
  have lt0 : ∀ x ∈ p0, x.block < W.heap.size := by obtain ⟨m, hm⟩ := k0; exact DataW.trod_lt m _ _ _ hm
  obtain ⟨z0, w0⟩ : ∃ zs, IsRow .i64 W a0 len0 cap0 zs := by
    obtain ⟨fuel, hf⟩ := h0
    rcases open_ints Try.underlying23 Try.underlying3 (by kernel_rfl) hf with ⟨hcs, _⟩ | ⟨x, l, c, zs, hcs, _, hl, hm, hz, _, hcell, hwz⟩
    · simp [Value.cells] at hcs
      obtain ⟨rfl, rfl, rfl⟩ := hcs
      exact ⟨[], .inl ⟨rfl, rfl, rfl, rfl⟩⟩
    · simp [Value.cells] at hcs
      obtain ⟨rfl, rfl, rfl⟩ := hcs
      exact ⟨zs, .inr ⟨_, rfl, hl, hm, by simpa using hz, hcell, hwz⟩⟩
  clear hA0 hval0
  refine (walk a0 len0 cap0 z0 W w0).mono fun e W' ⟨he, bel⟩ => ?_
  subst he
  exact ⟨_, rfl, _, _, _, [], _, [], hW', trodAll_mk1 (shut_bool Try.underlying4 _), (trodAll_cons_mk (Below.trod laidOut (by kernel_rfl) (of_decide_eq_true (by kernel_rfl)) k0 bel lt0) trodAll_mk0), rfl, bel.frame _, fun h => by cases h⟩

theorem over : Rows.graphOrderRow.holds Try.pinned (OpenSpec.ofChange Rows.graphOrderSpec) :=
  OpenClaim.holds_of_wide 5 Try.f5 rfl rfl rfl rfl rfl rfl rfl ⟨rfl, rfl, rfl, rfl, rfl⟩ rfl rfl rfl rfl rfl (by kernel_rfl) Try.func5 (by kernel_rfl)
    (of_decide_eq_true (by kernel_rfl)) (by unfold Func.isWrapper; first | (rw [if_pos (by decide +kernel)]; kernel_rfl) | (rw [if_neg (by decide +kernel)]; exact ⟨rfl, rfl⟩))
    (fun os started H enc _ => lifted os started H enc)

/-- ████ THE STATEMENT ████ -/
theorem proved : Rows.GraphOrderSaid := over
#print axioms proved
end Go.Proofs.Ythanbedmiaacdaa.graphOrder
