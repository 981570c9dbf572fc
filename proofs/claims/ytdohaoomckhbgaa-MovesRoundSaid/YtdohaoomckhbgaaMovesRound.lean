/- What is proved: moves that go round come back: a circle done as often as it has places changes nothing (law MovesRound): for every row of numbers and every word the law answers true. Conditions: none beside those that the given row's own sentence names. -/
import Derived.Test.YtdohaoomckhbgaaRows
import Derived.Test.YtdohaoomckhbgaaVDE
import Derived.Test.YtdohaoomckhbgaaVAP
import Derived.WalkKit
import Derived.ProofKit
import Derived.OpenShut
import Derived.ShutString
import Derived.ChangeOld
import Derived.Below
namespace Go.Proofs.Ytdohaoomckhbgaa.movesRound
open Go.ChangeShapes Go.WideShapes Go.ChangeAt Go.RowKit
open Go.ChangeMaps (open_string shut_string)
set_option linter.unusedVariables false

theorem own : ownKnob Try.prog.godebug = none := by kernel_rfl
theorem laidOut : laidOutB Try.prog = true := by kernel_rfl

/-- WHAT THE WALK IS TOLD OF A SLICE OF INTEGERS THAT CAME IN: it is nil; or it leads to a row of 'cap' cells, the numbers 'zs' (the first 'len' are its elements, the rest its spare room), each fitting its kind. -/
def IsRow (k : IntKind) (w : World) (a : Option Addr) (len cap : Nat) (zs : List Int) : Prop :=
  (a = none ∧ len = 0 ∧ cap = 0 ∧ zs = []) ∨
  ∃ x, a = some x ∧ len ≤ cap ∧ cap ≤ maxLen ∧ zs.length = cap ∧ (∀ i, i < zs.length → w.cell? (x.add i) = some (.int k (zs.getD i 0))) ∧ ∀ n ∈ zs, (Lit.int k n).wf = true

open Go.Maps Go.Proofs.Ytdohaoomckhbgaa.Mem Go.Proofs.Ytdohaoomckhbgaa.Br Go.Proofs.Ytdohaoomckhbgaa.Va Go.Proofs.Ytdohaoomckhbgaa.Vm

/-! ### STEP 1: THE WALK: the Go text returns true, AND WRITES NOTHING THAT WAS THERE: 'Below w.heap.size w w'' (Derived/Below.lean: '.refl', '.alloc', '.drew', '.setCell' at a new block, '.trans'). Open each 'IsRow' by 'rcases' AHEAD of 'go_enter'; part every test ahead of the walk. -/
set_option maxRecDepth 100000 in
set_option maxHeartbeats 4000000 in
theorem walk (a0 : Option Addr) (len0 cap0 : Nat) (z0 : List Int) (a1 : Int) (w : World) (w0 : IsRow .i64 w a0 len0 cap0 z0) (w1 : (Lit.int .i32 a1).wf = true) :
    Calls Try.prog 9 #[.slice a0 len0 cap0, .int .i32 a1] w fun e w' => e = .returned (.bool true) ∧ Below w.heap.size w w' := by
  obtain ⟨hl0, hi0⟩ := row_ints w0 (Nat.le_refl len0)
  generalize hs : z0.take len0 = s at *
  have HI0 := Lib.hid hi0
  clear hs w0 hl0 hi0
  obtain ⟨i0, hi, hz0, hz1, hz2⟩ := info_parts info_mv
  have HI := Lib.hid hi
  have HZ0 := Lib.hid hz0
  have HZ1 := Lib.hid hz1
  have HZ2 := Lib.hid hz2
  clear hi hz0 hz1 hz2
  go_enter Try.func9, Try.ntmps9
  go_wp2_with fail
  refine (awake_any _).mono ?_
  rintro e v1 ⟨rfl, hb1⟩
  have HB1 := Lib.hid hb1
  have HI1 := Lib.hid (ints_keep HI0.out hb1)
  clear hb1 HI0
  go_wp2_with fail
  refine (made_any v1 _ s HI1.out).mono ?_
  rintro e v2 ⟨vl, rfl, hol, hb2⟩
  have HB2 := Lib.hid (HB1.out.trans (hb2.mono HB1.out.size))
  have HL2 := Lib.hid (MovesAt.of_own hol)
  have HPL := Lib.hid (fun m (hm : m ∈ madeM s) => made_plM hm)
  have HUN := Lib.hid (made_uni s)
  have HRN := Lib.hid (made_rng s)
  have hle := made_len s
  generalize madeM s = l at *
  clear hb2 hol HB1 HI1
  have HGO := Lib.hid (goes_greedy l.length (pendN l) (pendN_len l))
  generalize (greedyN l.length (pendN l)).1 = es at *
  generalize (greedyN l.length (pendN l)).2 = R at *
  have HGT := Lib.hid (progC_get HUN.out HPL.out HGO.out)
  obtain ⟨hgl, hrl⟩ := progC_len_le HGO.out
  go_wp2_with fail
  refine (circC_any v2 _ l es R HL2.out (by omega) HRN.out HGO.out).mono ?_
  rintro e v3 ⟨vg, rfl, hog, hb⟩
  have HG := Lib.hid hog
  have HB3 := Lib.hid (HB2.out.trans (hb.mono HB2.out.size))
  clear hb hog HL2 HB2 HUN HPL HRN HGO
  generalize progC R = g at *
  obtain ⟨gA, gc, rfl, g1, g2, -⟩ := id HG.out.grid
  unfold maxLen at g2
  go_wp2_with fail
  go_loopw [7] (fun iv wr => ∃ i : Nat, i ≤ g.length ∧ iv = .int .i64 i ∧ Below v3.heap.size v3 wr) (fun iv _ => g.length - (Go.RowKit.intOf iv).toNat)
  case atStart => exact ⟨0, Nat.zero_le _, rfl, Below.refl _ _⟩
  case round =>
    obtain ⟨i, hi, rfl, hb⟩ := hrel
    obtain ⟨wo, rfl⟩ : ∃ wo : World, wo = wr := ⟨_, rfl⟩
    have HBo := Lib.hid hb
    clear hb
    by_cases hil : i < g.length
    · obtain ⟨x, N, hgi, hC, hN2, hNR, hpj⟩ := HGT.out i hil
      have HC := Lib.hid hC
      have HPJ := Lib.hid hpj
      obtain ⟨A', c', e, -, -, hgc⟩ := HG.out.grid
      injection e with e1 e2 e3
      subst e1 e3
      obtain ⟨gad, u, rfl, hcu, hu⟩ := hgc i hil
      rw [hgi] at hu
      clear hgc hgi hC hpj
      obtain ⟨cA, cc, rfl, k1, k2, k3⟩ := hu
      rw [orb_len] at k1 hcu
      have HCU := Lib.hid hcu
      have HK := Lib.hid (show ∀ (wr : World), Below v3.heap.size v3 wr → ∀ k y, (orb (srcD R) x N)[k]? = some y → ∃ ad, cA = some ad ∧ wr.cell? (ad.add k) = some (.int .i64 y) from fun wr hb k y hy => by
        obtain ⟨h1, h2⟩ := List.getElem?_eq_some_iff.1 hy
        obtain ⟨ad, e, hc⟩ := k3 k h1
        exact ⟨ad, e, by rw [← h2]; exact cell_keep hb (Nat.le_refl _) hc⟩)
      have HCG := Lib.hid (show ∀ (wr : World), Below v3.heap.size v3 wr → wr.cell? (gad.add i) = some (.slice cA N cc) from fun wr hb => cell_keep hb (Nat.le_refl _) hcu)
      unfold maxLen at k2
      obtain ⟨cad, rfl⟩ : ∃ ad, cA = some ad := by
        obtain ⟨ad, e, _⟩ := HK.out v3 (Below.refl _ _) 0 _ (orb_get (by omega)); exact ⟨ad, e⟩
      clear k3 hcu HCU
      have c0 := HCG.out wo HBo.out
      go_wp2_with fail
      clear c0
      go_loopw [8, 9] (fun mv kv wr => ∃ k : Nat, k ≤ N ∧ OwnMv v3.heap.size wr mv (circ (srcD R) x k) ∧ kv = .int .i64 k ∧ Below v3.heap.size v3 wr) (fun _ kv _ => N - (Go.RowKit.intOf kv).toNat)
      case atStart => exact ⟨0, Nat.zero_le _, World.ownsRow_nil _ _ _ _, rfl, HBo.out⟩
      case round =>
        obtain ⟨k, hk, ho, rfl, hb⟩ := hrel
        obtain ⟨wp, rfl⟩ : ∃ wp : World, wp = wr := ⟨_, rfl⟩
        have c0 := HCG.out wp hb
        have HO := Lib.hid ho
        have HB := Lib.hid hb
        clear ho hb
        by_cases hlt : k < N
        · obtain ⟨j, hj, hjm, hjo⟩ := orb_wrap HC.out hlt
          obtain ⟨_, e, d0⟩ := HK.out wp HB.out k _ (orb_get hlt)
          cases e
          obtain ⟨_, e, d1⟩ := HK.out wp HB.out j _ hjo
          cases e
          have HCS := Lib.hid (circ_succ (srcD R) x k)
          have hcl : (circ (srcD R) x k).length = k := circ_len _ _ _
          have HY0 := Lib.hid (orb_get (f := srcD R) (x := x) hlt)
          have HY1 := Lib.hid hjo
          generalize it (srcD R) x k = y at *
          generalize it (srcD R) x (k + 1) = z at *
          have hk1 : k + 1 ≤ N := hlt
          clear hjo
          have HWR := Lib.hid (show IntKind.i64.wrap ((k : Int) + 1) = (k : Int) + 1 from IntWalk.i64_in _ (by omega))
          go_wp2_with fail
          refine region_heldT_wp (fun w' => w'.cell? (gad.add i) = some (.slice (some cad) N cc) ∧ w'.cell? (cad.add k) = some (.int .i64 y) ∧ w'.cell? (cad.add j) = some (.int .i64 z)) [0, 1, 2, 3, 4, 5, 6, 7, 8, 9, 10, 11, 12, 13, 14, 15, 16, 17, 18, 19, 20, 21, 22] [0, 1, 2, 3, 4, 5, 6, 7, 8, 9, 10, 11, 12, 13, 14, 15, 16, 17, 18, 19, 20, 21, 22, 23, 24, 25] 25 (by kernel_rfl) (by kernel_rfl) (by kernel_rfl) (by kernel_rfl) rfl (by intro c a d v w h; cases d <;> exact h) ⟨c0, d0, d1⟩ ?_
          refine walkH_still _ ?b0 rfl rfl rfl ?by0 ?_
          case by0 => intro w hS; go_simp; first | done | with_reducible rfl
          simp only [Act.put]
          refine walkH_still _ ?b1 rfl rfl rfl ?by1 ?_
          case by1 => intro w hS; go_simp; first | done | with_reducible rfl
          simp only [Act.put]
          refine walkH_still _ ?b2 rfl rfl rfl ?by2 ?_
          case by2 => intro w hS; go_simp; first | done | with_reducible rfl
          simp only [Act.put]
          refine walkH_still _ ?b3 rfl rfl rfl ?by3 ?_
          case by3 => intro w hS; go_simp; first | done | with_reducible rfl
          simp only [Act.put]
          refine walkH_still _ ?b4 rfl rfl rfl ?by4 ?_
          case by4 => intro w hS; go_simp; first | done | with_reducible rfl
          simp only [Act.put]
          refine walkH_still _ ?b5 rfl rfl rfl ?by5 ?_
          case by5 => intro w hS; go_simp; first | done | with_reducible rfl
          simp only [Act.put]
          refine walkH_still _ ?b6 rfl rfl rfl ?by6 ?_
          case by6 => intro w hS; go_simp; first | done | with_reducible rfl
          simp only [Act.put]
          refine walkH_still _ ?b7 rfl rfl rfl ?by7 ?_
          case by7 => intro w hS; go_simp; first | done | with_reducible rfl
          simp only [Act.put]
          refine walkH_still _ ?b8 rfl rfl rfl ?by8 ?_
          case by8 => intro w hS; go_simp; first | done | with_reducible rfl
          simp only [Act.put]
          refine walkH_still _ ?b9 rfl rfl rfl ?by9 ?_
          case by9 => intro w hS; go_simp; first | done | with_reducible rfl
          simp only [Act.put]
          refine walkH_still _ ?b10 rfl rfl rfl ?by10 ?_
          case by10 => intro w hS; go_simp; first | done | with_reducible rfl
          simp only [Act.put]
          refine walkH_still _ ?b11 rfl rfl rfl ?by11 ?_
          case by11 => intro w hS; go_simp; first | done | with_reducible rfl
          simp only [Act.put]
          refine walkH_still _ ?b12 rfl rfl rfl ?by12 ?_
          case by12 => intro w hS; go_simp; first | done | with_reducible rfl
          simp only [Act.put]
          refine walkH_still _ ?b13 rfl rfl rfl ?by13 ?_
          case by13 => intro w hS; go_simp; first | done | with_reducible rfl
          simp only [Act.put]
          refine walkH_still _ ?b14 rfl rfl rfl ?by14 ?_
          case by14 => intro w hS; go_simp; first | done | with_reducible rfl
          simp only [Act.put]
          refine walkH_still _ ?b15 rfl rfl rfl ?by15 ?_
          case by15 => intro w hS; go_simp; first | done | with_reducible rfl
          simp only [Act.put]
          refine walkH_still _ ?b16 rfl rfl rfl ?by16 ?_
          case by16 => intro w hS; go_simp; first | done | with_reducible rfl
          simp only [Act.put]
          refine walkH_still _ ?b17 rfl rfl rfl ?by17 ?_
          case by17 => intro w hS; go_simp; first | done | with_reducible rfl
          simp only [Act.put]
          refine walkH_still _ ?b18 rfl rfl rfl ?by18 ?_
          case by18 => intro w hS; go_simp; first | done | with_reducible rfl
          simp only [Act.put]
          refine walkH_still _ (.int .i64 j) rfl rfl rfl ?by19 ?_
          case by19 => intro w hS; go_simp; rw [if_neg (show N ≠ 0 by omega), HWR.out, hjm]
          simp only [Act.put]
          refine walkH_still _ ?b20 rfl rfl rfl ?by20 ?_
          case by20 => intro w hS; go_simp; first | done | with_reducible rfl
          simp only [Act.put]
          refine walkH_still _ ?b21 rfl rfl rfl ?by21 ?_
          case by21 => intro w hS; go_simp; first | done | with_reducible rfl
          simp only [Act.put]
          refine walkH_still _ ?b22 rfl rfl rfl ?by22 ?_
          case by22 => intro w hS; go_simp; first | done | with_reducible rfl
          simp only [Act.put]
          obtain ⟨W1, hW1⟩ : ∃ W1, (wp.drew).alloc (.cells #[.int .i64 y, .int .i64 z] 43) = W1 := ⟨_, rfl⟩
          have hb1 : Below wp.heap.size wp W1 := by rw [← hW1]; exact ((Below.refl _ wp).drew).alloc (Nat.le_refl _) _
          have hs1 : Str W1 wp.heap.size 43 (cellsV (y, z)) := by rw [← hW1]; exact World.alloc_heap_new wp.drew _
          have hz1 := hb1.size
          have hz0 := HB.out.size
          have HO1 := Lib.hid (show OwnMv v3.heap.size W1 _ _ from own_same_row HO.out (fun g cur hg => hb1.block g (Array.getElem?_eq_some_iff.1 hg).1))
          have HB1 := Lib.hid (HB.out.trans (hb1.mono HB.out.size))
          have HS1 := Lib.hid hs1
          have e0 : W1.cell? (gad.add i) = some (.slice (some cad) N cc) := cell_keep hb1 (Nat.le_refl _) c0
          have e1 : W1.cell? (cad.add k) = some (.int .i64 y) := cell_keep hb1 (Nat.le_refl _) d0
          have e2' : W1.cell? (cad.add j) = some (.int .i64 z) := cell_keep hb1 (Nat.le_refl _) d1
          clear hb1 hs1
          try simp only [List.setIfInBounds_toArray, List.set_cons_zero, List.set_cons_succ]
          refine walkHd _ rfl rfl ?_
          go_wp2_with fail
          clear hW1
          refine behindH (Or.inl ⟨e0, e1, e2'⟩) ?_
          try simp only [List.setIfInBounds_toArray, List.set_cons_zero, List.set_cons_succ]
          refine walkHd _ rfl rfl ?_
          refine wpList_mvs rfl _ _ rfl rfl v3.heap.size _ (circ (srcD R) x k) [(y, z)] rfl HO1.out ⟨wp.heap.size, 0, none⟩ 1 rfl (fun j u hj => by
            first
            | (rw [at_add0, HS1.out.cell j]; exact hj)
            | (rw [HS1.out.cell j]; exact hj)) (by rw [hcl]; show k + 1 ≤ 1000; omega) (by omega) ?_
          intro v5 w5 ho5 hg5
          have HO5 := Lib.hid (show OwnMv v3.heap.size w5 v5 (circ (srcD R) x (k + 1)) by rw [HCS.out]; exact ho5)
          have hb5 := HB1.out.grown hg5 (by omega) (fun j e => (World.ownsRow.lt HO1.out j e).1)
          have HB5 := Lib.hid hb5
          have q0 : w5.cell? (gad.add i) = some (.slice (some cad) N cc) := HCG.out w5 hb5
          have q1 : w5.cell? (cad.add k) = some (.int .i64 y) := by
            obtain ⟨_, e, h⟩ := HK.out w5 hb5 k _ HY0.out
            cases e; exact h
          have q2 : w5.cell? (cad.add j) = some (.int .i64 z) := by
            obtain ⟨_, e, h⟩ := HK.out w5 hb5 j _ HY1.out
            cases e; exact h
          clear ho5 hg5 hb5 e0 e1 e2' c0 d0 d1
          go_wp2_with fail
          refine behindH (Or.inl ⟨q0, q1, q2⟩) ?_
          try simp only [List.setIfInBounds_toArray, List.set_cons_zero, List.set_cons_succ]
          refine walkHd _ rfl rfl ?_
          go_wp2_with fail
          refine behindH (Or.inr rfl) (walkH_nil ?_)
          go_wp2
          exact ⟨⟨k + 1, hk1, HO5.out, by go_num, HB5.out⟩, by simp [Go.RowKit.intOf]; omega⟩
        · obtain rfl : N = k := by omega
          have HMV := Lib.hid (MovesAt.of_own HO.out)
          have HF := Lib.hid (show faultN (circ (srcD R) x N) (-1) 10 = 0 from fault_none (circ_uni HC.out) (circ_pl HPJ.out) (Or.inl rfl) (Or.inr rfl))
          have HE := Lib.hid (show (orderN (circ (srcD R) x N) (-1) 10).2 = 0 from order_fine HF.out (by omega))
          have HOK := Lib.hid (order_ok (circ (srcD R) x N) (-1) 10)
          have hcl : (circ (srcD R) x N).length = N := circ_len _ _ _
          have HOL := Lib.hid (order_len (l := circ (srcD R) x N) (by omega) (-1) 10)
          have HRB := Lib.hid (fun c (hg : Gd (-1) c) => round_back HC.out HPJ.out (startL_len a1 40) hg)
          have HRG := Lib.hid (show Vm.Rng (circ (srcD R) x N) from fun m hm => by
            have h := circ_pl HPJ.out m hm
            unfold PlM at h
            unfold InI
            omega)
          obtain ⟨xs, hxs⟩ : ∃ xs, (orderN (circ (srcD R) x N) (-1) 10).1 = xs := ⟨_, rfl⟩
          rw [hxs] at HOK HOL HRB
          have HXS := Lib.hid hxs
          have hsl : (startL a1 40).length = 40 := startL_len _ _
          obtain ⟨p0, hp0⟩ : ∃ p0, startL a1 40 = p0 := ⟨_, rfl⟩
          rw [hp0] at HRB hsl
          have HP0 := Lib.hid hp0
          clear hxs HF HO hp0
          go_wp2_with fail
          refine (start2_any wp _).mono ?_
          rintro e v4 ⟨vp, rfl, hop, hb⟩
          rw [HP0.out] at hop
          have HP4 := Lib.hid (words_of_own hop)
          have HM4 := Lib.hid (MovesAt.keep HMV.out hb)
          have HB4 := Lib.hid (HB.out.trans (hb.mono HB.out.size))
          clear hop hb HMV
          have c0 := HCG.out v4 HB4.out
          go_wp2_with fail
          clear c0
          go_loopw [10, 11] (fun pv kv wr => ∃ k : Nat, k ≤ N ∧ kv = .int .i64 k ∧ WordsAt wr pv (stepsN xs p0 k) ∧ Below v4.heap.size v4 wr) (fun _ kv _ => N - (Go.RowKit.intOf kv).toNat)
          case atStart => exact ⟨0, Nat.zero_le _, rfl, HP4.out, Below.refl _ _⟩
          case round =>
            obtain ⟨k, hk, rfl, hpw, hb⟩ := hrel
            obtain ⟨wq, rfl⟩ : ∃ wq : World, wq = wr := ⟨_, rfl⟩
            have HPW := Lib.hid hpw
            have HM5 := Lib.hid (MovesAt.keep HM4.out hb)
            have HB5 := Lib.hid (HB4.out.trans (hb.mono HB4.out.size))
            have HB45 := Lib.hid hb
            have c0 := HCG.out wq HB5.out
            have hpl : (stepsN xs p0 k).length = 40 := by rw [stepsN_len]; exact hsl
            clear hpw hb
            by_cases hlt : k < N
            · go_wp2_with fail
              clear c0
              refine (order_any wq _ (circ (srcD R) x N) (-1) 10 HM5.out (by omega) HRG.out).mono ?_
              rintro e v6 ⟨vc, rfl, hoc, hb⟩
              rw [HE.out]
              rw [HXS.out] at hoc
              have HC6 := Lib.hid (pms_of_own hoc HOK.out)
              have HP6 := Lib.hid (words_keep HPW.out hb)
              have HB6 := Lib.hid (HB45.out.trans (hb.mono HB45.out.size))
              clear hoc hb HPW
              go_wp2_with fail
              refine (do_any v6 _ _ _ (stepsN xs p0 k) HC6.out HP6.out (Nat.le_trans HOL.out (by omega)) (by omega)).mono ?_
              rintro e v7 ⟨va, rfl, hoa, hb⟩
              have HA7 := Lib.hid (show WordsAt v7 va (stepsN xs p0 (k + 1)) from words_of_own hoa)
              have HB7 := Lib.hid (HB6.out.trans (hb.mono HB6.out.size))
              clear hoa hb HC6 HP6
              go_wp2_with fail
              exact ⟨⟨k + 1, hlt, by go_num, HA7.out, HB7.out⟩, by simp [Go.RowKit.intOf]; omega⟩
            · obtain rfl : N = k := by omega
              obtain ⟨a, ha⟩ : ∃ a, stepsN xs p0 N = a := ⟨_, rfl⟩
              rw [ha] at hpl HRB HPW
              have HRQ := Lib.hid (show ∀ k (h : k < 40), k ≠ 26 → k ≠ 27 → a[k]'(by omega) = p0[k]'(by omega) from fun k h n1 n2 => by
                have h2 := HRB.out (k : Int) ⟨by omega, by omega, fun h => by omega⟩
                rwa [atV_get (by omega), atV_get (by omega)] at h2)
              clear ha
              go_wp2_with fail
              clear c0
              refine (start2_any wq _).mono ?_
              rintro e v6 ⟨vb, rfl, hob, hb⟩
              rw [HP0.out] at hob
              have HBB6 := Lib.hid (words_of_own hob)
              have HA6 := Lib.hid (words_keep HPW.out hb)
              have HB6 := Lib.hid (HB5.out.trans (hb.mono HB5.out.size))
              clear hob hb HPW HM5 HB45
              obtain ⟨aA, ac, rfl, a1', a2', -⟩ := id HA6.out
              obtain ⟨bA, bc, rfl, b1', b2', -⟩ := id HBB6.out
              unfold maxLen at a2' b2'
              rw [hpl] at a1'
              rw [hsl] at b1'
              obtain ⟨aad, rfl, hac⟩ := words_at HA6.out (by omega)
              obtain ⟨bad, rfl, hbc⟩ := words_at HBB6.out (by omega)
              have HAC := Lib.hid hac
              have HBC := Lib.hid hbc
              clear hac hbc HA6 HBB6
              simp only [hpl, hsl]
              have e40 : ((40 : Nat) : Int) = 40 := rfl
              go_wp2_with fail
              go_loopw [15] (fun i wr => ∃ k q : Nat, k ≤ 40 ∧ i = .int .i64 k ∧ wr = v6.drewN q) (fun i _ => 40 - (Go.RowKit.intOf i).toNat)
              case atStart => exact ⟨0, 0, Nat.zero_le _, rfl, rfl⟩
              case round =>
                obtain ⟨k, q, hk2, rfl, hw⟩ := hrel
                obtain ⟨wx, rfl⟩ : ∃ wx : World, wx = wr := ⟨_, rfl⟩
                have HWX := Lib.hid hw
                by_cases hlt : k < 40
                · have ca : wx.cell? (aad.add k) = some (.int .i32 (a[k]'(by omega))) := by rw [hw]; exact HAC.out k (by omega)
                  have cb : wx.cell? (bad.add k) = some (.int .i32 (p0[k]'(by omega))) := by rw [hw]; exact HBC.out k (by omega)
                  have HQ := Lib.hid (HRQ.out k hlt)
                  clear hw
                  generalize a[k]'(by omega) = x1 at *
                  generalize p0[k]'(by omega) = y1 at *
                  by_cases hxy : x1 = y1
                  · subst hxy
                    have hne : (x1 != x1) = false := by simp
                    go_wp2_with fail
                    go_quiet (fail)
                    go_wp2
                    exact ⟨⟨k + 1, q + nq, by omega, by go_num, by rw [HWX.out]; simp [World.drewN, Nat.add_assoc]⟩, by simp [Go.RowKit.intOf]; omega⟩
                  · have hne : (x1 != y1) = true := by simpa using hxy
                    have hcase : k = 26 ∨ k = 27 := by
                      rcases Decidable.em (k = 26 ∨ k = 27) with h | h
                      · exact h
                      · exact absurd (HQ.out (by omega) (by omega)) hxy
                    rcases hcase with hk | hk
                    · have n26 : ((k : Int) != 26) = false := by rw [hk]; rfl
                      clear HQ hk
                      go_wp2_with fail
                      go_quiet (fail)
                      go_wp2
                      exact ⟨⟨k + 1, q + nq, by omega, by go_num, by rw [HWX.out]; simp [World.drewN, Nat.add_assoc]⟩, by simp [Go.RowKit.intOf]; omega⟩
                    · have n26 : ((k : Int) != 26) = true := by rw [hk]; rfl
                      have n27 : ((k : Int) != 27) = false := by rw [hk]; rfl
                      clear HQ hk
                      go_wp2_with fail
                      go_quiet (fail)
                      go_wp2
                      exact ⟨⟨k + 1, q + nq, by omega, by go_num, by rw [HWX.out]; simp [World.drewN, Nat.add_assoc]⟩, by simp [Go.RowKit.intOf]; omega⟩
                · obtain rfl : k = 40 := by omega
                  have hbx : Below v3.heap.size v3 wx := by rw [hw]; exact below_drewN HB6.out _
                  have HBX := Lib.hid hbx
                  have c0 := HCG.out wx hbx
                  clear hw hbx
                  go_wp2
                  exact ⟨⟨i + 1, hil, by go_num, HBX.out⟩, by simp [Go.RowKit.intOf]; omega⟩
    · obtain rfl : i = g.length := by omega
      have HBF := Lib.hid (HB3.out.trans (HBo.out.mono HB3.out.size))
      go_wp2
      go_ret
      exact ⟨rfl, HBF.out⟩

/-! ### THE ROW's STEP: WRITTEN OUT: LEAVE IT -/
set_option maxRecDepth 100000 in
theorem lifted (os : Os) (started : os.Started) (H : Type) (enc : TypeId × Value → H) :
    ReturnsInHanded {} Try.checked os 9 .any (Rows.movesRoundSpec.pre6 enc Try.prog Try.f9 Rows.movesRoundRow.domain false) (Rows.movesRoundSpec.post enc Try.prog Try.f9 false true false false) := by
  refine returnsInHanded_of_change (C := Try.checked) own started (by kernel_rfl) Try.func9
    (ChangeSpec.witness6 (enc := enc) (C := Try.checked) false ⟨#[], #[.slice none 0 0, .int .i32 0], []⟩ 8 (by kernel_rfl) (by kernel_rfl) (by kernel_rfl) (by kernel_rfl)) ?_
  intro W base args ds gs before hval0 hW hcnd _
  have hval : ∀ (j : Nat) t v, Try.f9.params[j]? = some t → args[j]? = some v → Value.okWide Try.prog W .any base t v := hval0
  have hW' := hW
  obtain ⟨p, q, hA0, hV, rfl, hfz, hnd⟩ := hW
  have hA : DataW.TrodAll enc Try.prog W 0 (fun _ => true) true Try.f9.params.toList args.toList ds p := hA0
  rw [Try.params9] at hA hval
  obtain ⟨v0, vs0, d0, ds0, p0, q0, hargs, rfl, rfl, h0, r0⟩ := trodAll_cons hA
  obtain ⟨v1, vs1, d1, ds1, p1, q1, rfl, rfl, rfl, h1, r1⟩ := trodAll_cons r0
  obtain ⟨rfl, rfl, rfl⟩ := trodAll_nil r1
  obtain rfl : args = #[v0, v1] := by cases args; simp_all
  obtain ⟨rfl, rfl⟩ := trodVars_none hV
  obtain ⟨a0, len0, cap0, rfl⟩ := okWide_slice Try.underlying23 (hval 0 23 v0 rfl rfl)
  have k0 := h0
  have lt0 : ∀ x ∈ p0, x.block < W.heap.size := by obtain ⟨m, hm⟩ := k0; exact DataW.trod_lt m _ _ _ hm
  obtain ⟨z0, w0⟩ : ∃ zs, IsRow .i64 W a0 len0 cap0 zs := by
    obtain ⟨fuel, hf⟩ := h0
    rcases open_ints Try.underlying23 Try.underlying3 (by kernel_rfl) hf with ⟨hcs, _⟩ | ⟨x, l, c, zs, hcs, _, hl, hm, hz, _, hcell, hwz⟩
    · simp [Value.cells] at hcs
      obtain ⟨rfl, rfl, rfl⟩ := hcs
      exact ⟨[], .inl ⟨rfl, rfl, rfl, rfl⟩⟩
    · simp [Value.cells] at hcs
      obtain ⟨rfl, rfl, rfl⟩ := hcs
      exact ⟨zs, .inr ⟨_, rfl, hl, hm, by simpa using hz, hcell, hwz⟩⟩
  obtain ⟨a1, rfl, rfl, rfl, w1⟩ := open_int Try.underlying21 (hval 1 21 v1 rfl rfl) h1
  clear hA0 hval0
  refine (walk a0 len0 cap0 z0 a1 W w0 w1).mono fun e W' ⟨he, bel⟩ => ?_
  subst he
  exact ⟨_, rfl, _, _, _, [], _, [], hW', trodAll_mk1 (shut_bool Try.underlying4 _), (trodAll_cons_mk (Below.trod laidOut (by kernel_rfl) (of_decide_eq_true (by kernel_rfl)) k0 bel lt0) (trodAll_cons_mk (shut_int Try.underlying21 w1) trodAll_mk0)), rfl, bel.frame _, fun h => by cases h⟩

theorem over : Rows.movesRoundRow.holds Try.pinned (OpenSpec.ofChange Rows.movesRoundSpec) :=
  OpenClaim.holds_of_wide 9 Try.f9 rfl rfl rfl rfl rfl rfl rfl ⟨rfl, rfl, rfl, rfl, rfl⟩ rfl rfl rfl rfl rfl (by kernel_rfl) Try.func9 (by kernel_rfl)
    (of_decide_eq_true (by kernel_rfl)) (by unfold Func.isWrapper; first | (rw [if_pos (by decide +kernel)]; kernel_rfl) | (rw [if_neg (by decide +kernel)]; exact ⟨rfl, rfl⟩))
    (fun os started H enc _ => lifted os started H enc)

/-- ████ THE STATEMENT ████ -/
theorem proved : Rows.MovesRoundSaid := over
#print axioms proved
end Go.Proofs.Ytdohaoomckhbgaa.movesRound
