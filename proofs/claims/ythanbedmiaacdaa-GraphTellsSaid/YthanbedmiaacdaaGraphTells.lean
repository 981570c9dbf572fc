/- What is proved: a block put on an edge changes nothing of who dominates whom among the others (law GraphTells). -/
import Derived.Test.YthanbedmiaacdaaRows
import Derived.Test.YthanbedmiaacdaaMade
import Derived.Test.YthanbedmiaacdaaAwake
import Derived.Test.YthanbedmiaacdaaNext
import Derived.Test.YthanbedmiaacdaaOwn
import Derived.Test.YthanbedmiaacdaaBridge
import Derived.Test.YthanbedmiaacdaaOrder
import Derived.Test.YthanbedmiaacdaaDfsW
import Derived.Test.YthanbedmiaacdaaWithout
import Derived.Deep.QuietTactic
import Derived.BigQuiet
import Derived.Test.YthanbedmiaacdaaCritC
import Derived.Test.YthanbedmiaacdaaSameAll
import Derived.Test.YthanbedmiaacdaaPairs
import Derived.Test.YthanbedmiaacdaaIdomC
import Derived.Test.YthanbedmiaacdaaReducC
import Derived.Test.YthanbedmiaacdaaBodyC
import Derived.Test.YthanbedmiaacdaaDominates
import Derived.WalkKit
import Derived.ProofKit
import Derived.OpenShut
import Derived.ShutString
import Derived.ChangeOld
import Derived.Below
import Derived.Deep.Matrix
/- What jacquardref02's Few answers: at most 12 rows, of at most 5 numbers each. -/
namespace Go.Proofs.Ythanbedmiaacdaa.Gr
open Go.Proofs.Ythanbedmiaacdaa.Br Go.ChangeShapes Go.WideShapes Go.ChangeAt Go.RowKit Go.Proofs.Ythanbedmiaacdaa.Mem
set_option linter.unusedVariables false

structure Cut (P : Prop) : Prop where
  out : P
theorem Cut.cut {P Q : Prop} (h : Cut P → Q) (p : Cut P) : Q := h p
theorem few_one {w : World} {q : Nat} {u : Value} {t : TypeId} (h : q = w.heap.size) : ∀ i y, [u][i]? = some y → (w.alloc (.cells #[u] t)).cell? ((⟨q, 0, none⟩ : Addr).add i) = some y := by
  intro i y hj
  subst h
  match i, hj with
  | 0, hj => simp at hj; subst hj; simp [Addr.add]
def fewL (g : List (List Int)) : List (List Int) := (g.take 12).map (·.take 5)
/-- The first k rows, cut short: a row of the call's own, of what was there before. -/
def FewTo (w0 : World) (g : List (List Int)) (k : Nat) (w : World) (o : Value) : Prop :=
  ∃ vs : List Value, w.ownsRow w0.heap.size 23 1 o k vs ∧ ∀ i (h : i < g.length), i < k → ∃ u, vs[i]? = some u ∧ Ints w0 u (g[i].take 5)
theorem FewTo.push {w0 w1 : World} {g : List (List Int)} {k : Nat} {o' u : Value} {vs : List Value} (h : ∀ i (h : i < g.length), i < k → ∃ u, vs[i]? = some u ∧ Ints w0 u (g[i].take 5)) (hl : vs.length = k)
    (hk : k < g.length) (hu : Ints w0 u (g[k].take 5)) (h1 : w1.ownsRow w0.heap.size 23 1 o' (k + 1) (vs ++ [u])) : FewTo w0 g (k + 1) w1 o' := by
  refine ⟨vs ++ [u], h1, fun i hi hik => ?_⟩
  by_cases e : i < k
  · obtain ⟨x, ex, hx⟩ := h i hi e
    exact ⟨x, by rw [List.getElem?_append_left (by omega)]; exact ex, hx⟩
  · obtain rfl : i = k := by omega
    exact ⟨u, by rw [List.getElem?_append_right (by omega), hl]; simp, hu⟩
theorem FewTo.grid {w0 w : World} {g : List (List Int)} {k : Nat} {o : Value} (h : FewTo w0 g k w o) (hb : Below w0.heap.size w0 w) (hk : k = (fewL g).length) : Grid w o (fewL g) := by
  obtain ⟨vs, h1, h2⟩ := h
  have hkl : k ≤ g.length := by rw [hk]; unfold fewL; rw [List.length_map, List.length_take]; omega
  subst hk
  rcases h1.2 with ⟨rfl, h0⟩ | ⟨b, cap, cur, rfl, _, hg, hn, hm, _⟩
  · have : fewL g = [] := List.length_eq_zero_iff.1 h0
    rw [this]; exact rows_none w
  · refine ⟨some ⟨b, 0, none⟩, cap, rfl, hn, hm, fun k hk => ?_⟩
    obtain ⟨u, e, hu⟩ := h2 k (by omega) hk
    have hk12 : k < 12 := by unfold fewL at hk; rw [List.length_map, List.length_take] at hk; omega
    have ef : (fewL g)[k] = (g[k]'(by omega)).take 5 := by
      have e2 : (fewL g)[k]? = some ((g[k]'(by omega)).take 5) := by
        unfold fewL
        rw [List.getElem?_map, List.getElem?_take_of_lt hk12, List.getElem?_eq_getElem (by omega)]; rfl
      exact (List.getElem?_eq_some_iff.1 e2).2
    refine ⟨_, u, rfl, World.ownsRow.cells h1 (g := b) rfl k _ e, ?_⟩
    rw [ef]; exact hu.keep hb
def MadeFew (g : List (List Int)) (w : World) (e : Ending) (w' : World) : Prop := ∃ v, e = .returned v ∧ Grid w' v (fewL g) ∧ Below w.heap.size w w'
theorem info_row' : (Try.prog.info? 23).map (fun i => (i.zero, i.size, i.bytes)) = some (some (.slice none 0 0), 1, 24) := by kernel_rfl
set_option maxRecDepth 100000 in
set_option maxHeartbeats 2000000 in
theorem few_any (w : World) (v : Value) (g : List (List Int)) (hg : Grid w v g) :
    Calls Try.prog 14 #[v] w (MadeFew g w) := by
  obtain ⟨A, ca, rfl, ha1, ha2, ha3⟩ := hg
  unfold maxLen at ha2
  have HA := Lib.hid ha3
  obtain ⟨i0, hi, hz0, hz1, hz2⟩ := info_parts info_row'
  have HI := Lib.hid hi
  have HZ0 := Lib.hid hz0
  have HZ1 := Lib.hid hz1
  have HZ2 := Lib.hid hz2
  have HFL := Lib.hid (show (fewL g).length = min 12 g.length by unfold fewL; rw [List.length_map, List.length_take])
  clear ha3 hi hz0 hz1 hz2
  go_enter Try.func14, Try.ntmps14
  go_wp2_with fail
  go_loopw [3, 4] (fun o i wr => ∃ k : Nat, k ≤ g.length ∧ k ≤ 12 ∧ i = .int .i64 k ∧ FewTo w g k wr o ∧ Below w.heap.size w wr) (fun _ i _ => g.length - (intOf i).toNat)
  case atStart => exact ⟨0, by omega, by omega, rfl, ⟨[], World.ownsRow_nil _ _ _ _, fun i _ h => by omega⟩, Below.refl _ _⟩
  case round =>
    obtain ⟨k, hk, hk12, rfl, ho, hb⟩ := hrel
    obtain ⟨wo, rfl⟩ : ∃ wo : World, wo = wr := ⟨_, rfl⟩
    have HO := Lib.hid ho
    have HB := Lib.hid hb
    by_cases hlt : k < g.length
    · by_cases h12 : k < 12
      · obtain ⟨ad, u, rfl, hcw, hu⟩ := HA.out k hlt
        have HU := Lib.hid hu
        obtain ⟨R, cr, rfl, hr1, hr2, hr3⟩ := hu
        have hcu := cell_keep hb (Nat.le_refl _) hcw
        obtain ⟨vs, hvs, hrows⟩ := ho
        obtain ⟨Ao, co, rfl⟩ := own_form hvs
        have HV := Lib.hid hvs
        have HRX := Lib.hid hrows
        have HU5 := Lib.hid (show ∀ n : Nat, n = min g[k].length 5 → Ints w (.slice R n cr) (g[k].take 5) from fun n hn => by
          obtain ⟨A', c', e, q1, q2, q3⟩ := HU.out
          injection e with e1 e2 e3
          subst e1 e3
          refine ⟨_, _, by rw [List.length_take, Nat.min_comm, ← hn], by rw [List.length_take]; omega, q2, fun j hj => ?_⟩
          rw [List.length_take] at hj
          obtain ⟨x, e, h⟩ := q3 j (by omega)
          exact ⟨x, e, by rw [List.getElem_take]; exact h⟩)
        clear hb hvs hrows hr3
        unfold maxLen at hr2
        obtain ⟨n, hn⟩ : ∃ n, g[k].length = n := ⟨_, rfl⟩
        rw [hn] at hcu hr1 HU5 hcw
        have HCW := Lib.hid hcw
        clear hn hcw
        by_cases h5 : n ≤ 5
        · have h5a : ¬ ((5 : Int) < (n : Int)) := by omega
          have h5b : (n : Int) ≤ (cr : Int) := by omega
          go_wp2_with fail
          refine region_held_wp (fun w' => w'.cell? (ad.add k) = some (.slice R n cr)) [0, 1, 2, 3, 4, 5, 6, 7, 8, 9, 10, 11, 14] [0, 1, 2, 3, 4, 5, 6, 7, 8, 9, 10, 11, 12, 13, 14] (by kernel_rfl) (by kernel_rfl) (by kernel_rfl) rfl ?hpan hcu ?_
          case hpan => intro c a d v w h; cases d <;> exact h
          refine walkH_still _ ?v0 rfl rfl rfl ?vy0 ?_
          case vy0 => intro w hS; go_simp; first | done | with_reducible rfl
          simp only [Act.put]
          refine walkH_still _ ?v1 rfl rfl rfl ?vy1 ?_
          case vy1 => intro w hS; go_simp; first | done | with_reducible rfl
          simp only [Act.put]
          refine walkH_still _ ?v2 rfl rfl rfl ?vy2 ?_
          case vy2 => intro w hS; go_simp; first | done | with_reducible rfl
          simp only [Act.put]
          refine walkH_still _ ?v3 rfl rfl rfl ?vy3 ?_
          case vy3 => intro w hS; go_simp; first | done | with_reducible rfl
          simp only [Act.put]
          refine walkH_still _ ?v4 rfl rfl rfl ?vy4 ?_
          case vy4 => intro w hS; go_simp; first | done | with_reducible rfl
          simp only [Act.put]
          refine walkH_still _ ?v5 rfl rfl rfl ?vy5 ?_
          case vy5 => intro w hS; go_simp; first | done | with_reducible rfl
          simp only [Act.put]
          refine walkH_still _ ?v6 rfl rfl rfl ?vy6 ?_
          case vy6 => intro w hS; go_simp; first | done | with_reducible rfl
          simp only [Act.put]
          refine walkH_still _ ?v7 rfl rfl rfl ?vy7 ?_
          case vy7 => intro w hS; go_simp; first | done | with_reducible rfl
          simp only [Act.put]
          refine walkH_still _ ?v8 rfl rfl rfl ?vy8 ?_
          case vy8 => intro w hS; go_simp; first | done | with_reducible rfl
          simp only [Act.put]
          refine walkH_still _ ?v9 rfl rfl rfl ?vy9 ?_
          case vy9 => intro w hS; go_simp; first | done | with_reducible rfl
          simp only [Act.put]
          refine walkH_still _ (.int .i64 (n : Int)) rfl rfl rfl ?y10 ?_
          case y10 => intro w hS; go_simp; first | done | (intro h; omega) | omega
          simp only [Act.put]
          refine walkH_still _ (.slice R n cr) rfl rfl rfl ?y11 ?_
          case y11 => intro w hS; go_simp; first | done | with_reducible rfl | (rw [if_pos ⟨by omega, h5b⟩]; first | done | rfl | simp)
          simp only [Act.put]
          simp only [List.setIfInBounds_toArray, List.set_cons_zero, List.set_cons_succ]
          refine walkH_does _ rfl rfl ?_
          go_wp2_with fail
          refine ⟨cell_keep ((Below.refl _ _).alloc (Nat.le_refl _) _) (Nat.le_refl _) hcu, ?_⟩
          refine walkH_does _ rfl rfl ?_
          go_loud (refine wpList_append_own _ rfl _ _ 22 rfl w.heap.size 23 i0 (.slice none 0 0) 1 24 Try.underlying22 HI.out HZ0.out HZ1.out HZ2.out rfl (by decide) _ _ _ rfl (HV.out.drew.alloc _) ⟨_, 0, none⟩ 1 1 [.slice R n cr] rfl rfl (few_one rfl) (fun u hu => by simp at hu; subst hu; rfl) (by unfold maxLen; omega) (by omega) (by have := HB.out.size; simp; omega) ?_)
          intro v' w6 hown' hgrow _
          have hgr : (wo.alloc (.cells #[.slice R n cr] 23)).drew.grownBy w6 (Value.slice Ao k co).ownBlock := hgrow
          have HF := Lib.hid (FewTo.push HRX.out (by have := HV.out.1; omega) hlt (HU5.out n (by omega)) hown')
          have hb6 : Below w.heap.size w w6 := (show Below w.heap.size w (wo.alloc (.cells #[.slice R n cr] 23)).drew from (HB.out.alloc HB.out.size _).drew).grown hgr (by have := HB.out.size; simp; omega) (fun j hj => (HV.out.lt j hj).1)
          have HB6 := Lib.hid hb6
          have hc6 := cell_keep hb6 (Nat.le_refl _) HCW.out
          clear hown' hgrow hgr hb6 hcu
          go_wp2
          refine walkH_still _ ?v14 rfl rfl rfl ?y14 ?_
          case y14 => intro w hS; go_simp; first | done | with_reducible rfl
          simp only [Act.put]
          simp only [List.setIfInBounds_toArray, List.set_cons_zero, List.set_cons_succ]
          refine walkH_nil ?_
          go_wp2
          go_roundw
          case rel => exact ⟨k + 1, by omega, by omega, by go_num, HF.out, HB6.out⟩
          case measure => simp [intOf]; omega
        · have h5a : (5 : Int) < (n : Int) := by omega
          have h5b : (5 : Int) ≤ (cr : Int) := by omega
          go_wp2_with fail
          refine region_held_wp (fun w' => w'.cell? (ad.add k) = some (.slice R n cr)) [0, 1, 2, 3, 4, 5, 6, 7, 8, 9, 10, 11, 14] [0, 1, 2, 3, 4, 5, 6, 7, 8, 9, 10, 11, 12, 13, 14] (by kernel_rfl) (by kernel_rfl) (by kernel_rfl) rfl ?hqan hcu ?_
          case hqan => intro c a d v w h; cases d <;> exact h
          refine walkH_still _ ?u0 rfl rfl rfl ?uy0 ?_
          case uy0 => intro w hS; go_simp; first | done | with_reducible rfl
          simp only [Act.put]
          refine walkH_still _ ?u1 rfl rfl rfl ?uy1 ?_
          case uy1 => intro w hS; go_simp; first | done | with_reducible rfl
          simp only [Act.put]
          refine walkH_still _ ?u2 rfl rfl rfl ?uy2 ?_
          case uy2 => intro w hS; go_simp; first | done | with_reducible rfl
          simp only [Act.put]
          refine walkH_still _ ?u3 rfl rfl rfl ?uy3 ?_
          case uy3 => intro w hS; go_simp; first | done | with_reducible rfl
          simp only [Act.put]
          refine walkH_still _ ?u4 rfl rfl rfl ?uy4 ?_
          case uy4 => intro w hS; go_simp; first | done | with_reducible rfl
          simp only [Act.put]
          refine walkH_still _ ?u5 rfl rfl rfl ?uy5 ?_
          case uy5 => intro w hS; go_simp; first | done | with_reducible rfl
          simp only [Act.put]
          refine walkH_still _ ?u6 rfl rfl rfl ?uy6 ?_
          case uy6 => intro w hS; go_simp; first | done | with_reducible rfl
          simp only [Act.put]
          refine walkH_still _ ?u7 rfl rfl rfl ?uy7 ?_
          case uy7 => intro w hS; go_simp; first | done | with_reducible rfl
          simp only [Act.put]
          refine walkH_still _ ?u8 rfl rfl rfl ?uy8 ?_
          case uy8 => intro w hS; go_simp; first | done | with_reducible rfl
          simp only [Act.put]
          refine walkH_still _ ?u9 rfl rfl rfl ?uy9 ?_
          case uy9 => intro w hS; go_simp; first | done | with_reducible rfl
          simp only [Act.put]
          refine walkH_still _ (.int .i64 5) rfl rfl rfl ?z10 ?_
          case z10 => intro w hS; go_simp; first | done | rw [if_pos (by omega)] | omega
          simp only [Act.put]
          refine walkH_still _ (.slice R 5 cr) rfl rfl rfl ?z11 ?_
          case z11 => intro w hS; go_simp; first | done | with_reducible rfl | (rw [if_pos ⟨by omega, h5b⟩]; first | done | rfl | simp)
          simp only [Act.put]
          simp only [List.setIfInBounds_toArray, List.set_cons_zero, List.set_cons_succ]
          refine walkH_does _ rfl rfl ?_
          go_wp2_with fail
          refine ⟨cell_keep ((Below.refl _ _).alloc (Nat.le_refl _) _) (Nat.le_refl _) hcu, ?_⟩
          refine walkH_does _ rfl rfl ?_
          go_loud (refine wpList_append_own _ rfl _ _ 22 rfl w.heap.size 23 i0 (.slice none 0 0) 1 24 Try.underlying22 HI.out HZ0.out HZ1.out HZ2.out rfl (by decide) _ _ _ rfl (HV.out.drew.alloc _) ⟨_, 0, none⟩ 1 1 [.slice R 5 cr] rfl rfl (few_one rfl) (fun u hu => by simp at hu; subst hu; rfl) (by unfold maxLen; omega) (by omega) (by have := HB.out.size; simp; omega) ?_)
          intro v' w6 hown' hgrow _
          have hgr : (wo.alloc (.cells #[.slice R 5 cr] 23)).drew.grownBy w6 (Value.slice Ao k co).ownBlock := hgrow
          have HF := Lib.hid (FewTo.push HRX.out (by have := HV.out.1; omega) hlt (HU5.out 5 (by omega)) hown')
          have hb6 : Below w.heap.size w w6 := (show Below w.heap.size w (wo.alloc (.cells #[.slice R 5 cr] 23)).drew from (HB.out.alloc HB.out.size _).drew).grown hgr (by have := HB.out.size; simp; omega) (fun j hj => (HV.out.lt j hj).1)
          have HB6 := Lib.hid hb6
          have hc6 := cell_keep hb6 (Nat.le_refl _) HCW.out
          clear hown' hgrow hgr hb6 hcu
          go_wp2
          refine walkH_still _ ?u14 rfl rfl rfl ?z14 ?_
          case z14 => intro w hS; go_simp; first | done | with_reducible rfl
          simp only [Act.put]
          simp only [List.setIfInBounds_toArray, List.set_cons_zero, List.set_cons_succ]
          refine walkH_nil ?_
          go_wp2
          go_roundw
          case rel => exact ⟨k + 1, by omega, by omega, by go_num, HF.out, HB6.out⟩
          case measure => simp [intOf]; omega
      · obtain rfl : k = 12 := by omega
        have HF := Lib.hid (ho.grid hb (by rw [HFL.out]; omega))
        clear ho hb
        go_wp2
        go_ret
        exact ⟨_, rfl, HF.out, HB.out⟩
    · have HF := Lib.hid (ho.grid hb (by rw [HFL.out]; omega))
      clear ho hb
      obtain rfl : k = g.length := by omega
      go_wp2
      go_ret
      exact ⟨_, rfl, HF.out, HB.out⟩
end Go.Proofs.Ythanbedmiaacdaa.Gr
/- What the walk of jacquardref02's Order does: it goes over all that is reached, depth first, as package graph's walk does. -/
namespace Go.Proofs.Ythanbedmiaacdaa.Gc
open Go.ChangeShapes Go.WideShapes Go.ChangeAt Go.RowKit Go.Proofs.Ythanbedmiaacdaa.Mem Go.Proofs.Ythanbedmiaacdaa.Gr Go.Proofs.Ythanbedmiaacdaa.Gn Go.Proofs.Ythanbedmiaacdaa.Rp
set_option linter.unusedVariables false

def seenB (z : Int) : Bool := decide (z ≠ -1)
def seenL (s : St) : List Bool := s.number.map seenB
theorem seenL_enter (s : St) (b : Nat) (p : Int) : seenL (s.enter b p) = (seenL s).set b true := by
  unfold seenL St.enter
  rw [List.map_set]
  have e : seenB (s.came.length : Int) = true := by unfold seenB; rw [decide_eq_true_eq]; omega
  rw [e]
/-- The reference's walk s lies there: its marks in the block at w0's end, the walker behind them. -/
structure OverAt (w0 : World) (wb : Nat) (w : World) (n : Nat) (s : St) (vl : Value) : Prop where
  low : w0.heap.size < wb
  below : Below w0.heap.size w0 w
  str : Str w (wb) 80 [.slice (some ⟨w0.heap.size, 0, none⟩) n n, vl]
  there : OwnBools w0.heap.size w (seenL s)
  left : OwnInts w0.heap.size w vl (li s.left)
section
variable {w0 w w1 : World} {wb n : Nat} {s : St} {vl u : Value}
theorem OverAt.keep (h : OverAt w0 wb w n s vl) (hb : Below w.heap.size w w1) : OverAt w0 wb w1 n s vl :=
  ⟨h.low, h.below.trans (hb.mono h.below.size), h.str.below hb, h.there.below hb, own_below h.left hb⟩
theorem OverAt.drewN (h : OverAt w0 wb w n s vl) (k : Nat) : OverAt w0 wb (w.drewN k) n s vl := ⟨h.low, ⟨h.below.os, h.below.tape, h.below.output, h.below.size, h.below.block⟩, h.str, h.there, h.left⟩
theorem OverAt.mark (h : OverAt w0 wb w n s vl) (b : Nat) (p : Int) : OverAt w0 wb (w.setCell ⟨w0.heap.size, b, none⟩ (.bool true)) n (s.enter b p) vl := by
  have hlo := h.low
  refine ⟨h.low, h.below.setCell (p := ⟨w0.heap.size, b, none⟩) (Nat.le_refl _) _, h.str.kept (setCell_grownBy _ _ _) (by simp; omega), ?_, ?_⟩
  · rw [seenL_enter]; exact h.there.store b true
  · exact World.ownsRow.kept h.left (setCell_grownBy _ _ _) (own_apart h.left h.there (by decide))
theorem OverAt.push (h : OverAt w0 wb w n s vl) {b : Nat} (hg : w.grownBy w1 vl.ownBlock) (ho : OwnInts w0.heap.size w1 u (li (s.left ++ [b]))) :
    Str w1 (wb) 80 [.slice (some ⟨w0.heap.size, 0, none⟩) n n, vl] ∧ OverAt w0 wb (w1.setCell ⟨wb, 1, none⟩ u) n (s.leave b) u := by
  have hs := h.str.kept hg (h.str.not_row (by decide) h.left)
  have ht : OwnBools w0.heap.size w1 (seenL s) := World.ownsRow.kept h.there hg (own_apart h.there h.left (by decide))
  have hlo := h.low
  refine ⟨hs, h.low, (h.below.grown hg h.below.size (fun k hk => (h.left.lt k hk).1)).setCell (p := ⟨wb, 1, none⟩) (by simp; omega) _, hs.set 1 u, ?_, ?_⟩
  · exact World.ownsRow.kept ht (setCell_grownBy _ _ _) (Or.inr (by simp [Value.ownBlock]; omega))
  · refine World.ownsRow.kept ho (setCell_grownBy _ _ _) ?_
    have := hs.not_row (e := 3) (by decide) ho
    exact Or.inr fun e => this e.symm
end
/-- What stays of all that was there but the marks, the walker and what was left: and where that lies then. -/
structure Stays (B wb : Nat) (w : World) (v : Value) (w' : World) (v' : Value) : Prop where
  size : w.heap.size ≤ w'.heap.size
  block : ∀ k, k < w.heap.size → k ≠ B → k ≠ wb → v.ownBlock ≠ some k → w'.heap[k]? = w.heap[k]?
  moved : v'.ownBlock = v.ownBlock ∨ ∀ k, v'.ownBlock = some k → w.heap.size ≤ k
theorem Stays.refl (B wb : Nat) (w : World) (v : Value) : Stays B wb w v w v := ⟨Nat.le_refl _, fun _ _ _ _ _ => rfl, Or.inl rfl⟩
theorem Stays.trans {B wb : Nat} {w w1 w2 : World} {v v1 v2 : Value} (h : Stays B wb w v w1 v1) (k : Stays B wb w1 v1 w2 v2) : Stays B wb w v w2 v2 := by
  refine ⟨Nat.le_trans h.size k.size, fun j hj h1 h2 h3 => ?_, ?_⟩
  · rw [k.block j (Nat.lt_of_lt_of_le hj h.size) h1 h2, h.block j hj h1 h2 h3]
    intro e
    rcases h.moved with m | m
    · rw [m] at e; exact h3 e
    · have := m j e; omega
  · rcases k.moved with m | m
    · rw [m]
      exact h.moved
    · exact Or.inr fun j e => Nat.le_trans h.size (m j e)
theorem Stays.of {B wb : Nat} {w w1 : World} {v : Value} (h : Below w.heap.size w w1) : Stays B wb w v w1 v := ⟨h.size, fun j hj _ _ _ => h.block j hj, Or.inl rfl⟩
theorem Stays.drewN {B wb : Nat} {w w1 : World} {v v1 : Value} (h : Stays B wb w v w1 v1) (n : Nat) : Stays B wb w v (w1.drewN n) v1 := ⟨h.size, h.block, h.moved⟩
theorem Stays.mark {B wb : Nat} (w : World) (v : Value) (b : Nat) (x : Value) : Stays B wb w v (w.setCell ⟨B, b, none⟩ x) v :=
  ⟨by rw [size_set]; exact Nat.le_refl _, fun j _ h1 _ _ => Below.heap_setCell _ _ _ _ h1, Or.inl rfl⟩
theorem Stays.push {B wb : Nat} {w w1 : World} {v u : Value} (hg : w.grownBy w1 v.ownBlock) (hm : Moved w v u) : Stays B wb w v (w1.setCell ⟨wb, 1, none⟩ u) u := by
  refine ⟨by rw [size_set]; exact hg.size, fun j hj _ h2 h3 => ?_, ?_⟩
  · rw [Below.heap_setCell _ _ _ _ h2]
    exact hg.block j hj fun e => h3 e.symm
  · rcases hm with ⟨_, e⟩ | ⟨q, e, h⟩
    · exact Or.inl e
    · exact Or.inr fun k hk => by rw [e] at hk; injection hk with hk; omega
theorem Stays.alloc {B wb : Nat} {w w1 : World} {v u : Value} {o : Obj} (h : Stays B wb (w.alloc o) v w1 u) : Stays B wb w v w1 u := Stays.trans (Stays.of ((Below.refl _ _).alloc (Nat.le_refl _) o)) h
theorem Stays.cell {B wb : Nat} {w w1 : World} {v v1 : Value} (h : Stays B wb w v w1 v1) {p : Addr} {x : Value} (hc : w.cell? p = some x) (h1 : p.block ≠ B) (h2 : p.block ≠ wb) (h3 : v.ownBlock ≠ some p.block) : w1.cell? p = some x := by
  rw [World.cell?_of_block (w := w) (h.block _ (lt_of_cell hc) h1 h2 h3)]; exact hc
theorem next_T {g : List (List Int)} {b : Nat} (h : b < g.length) : nextL g (b : Nat) = li ((tidyN g).getD b []) := by
  have e : (tidyN g).getD b [] = (List.range g.length).filter fun c : Nat => (g.getD b []).contains (c : Int) := by
    rw [List.getD_eq_getElem?_getD, tidyN_get h]; rfl
  unfold nextL nextTo li
  rw [e]
  have f : ((List.range g.length).filter fun c : Nat => edgeB g (b : Nat) c) = (List.range g.length).filter fun c : Nat => (g.getD b []).contains (c : Int) := by
    refine List.filter_congr fun c hc => ?_
    have hc := List.mem_range.1 hc
    rw [Gl.edgeB_nat, decide_eq_true (show b < g.length ∧ c < g.length from ⟨h, hc⟩), Bool.true_and]
  rw [f]; rfl
set_option maxRecDepth 100000 in
set_option maxHeartbeats 4000000 in
theorem over_any (w0 : World) (wb : Nat) (gv : Value) (g : List (List Int)) (hg : Grid w0 gv g) (hs : Small g) : ∀ (f b : Nat) (p : Int) (s : St) (w : World) (vl : Value),
    OverAt w0 wb w g.length s vl → Inv g.length s → b < g.length → s.number.getD b 0 = -1 → unv s ≤ f →
    Calls Try.prog 54 #[.pointer (some ⟨wb, 0, none⟩), gv, .int .i64 b] w fun e w' =>
      e = .returned (.tuple #[]) ∧ ∃ vl', OverAt w0 wb w' g.length (visit (tidyN g) f b p s) vl' ∧ Stays w0.heap.size wb w vl w' vl' := by
  have hgl := hs.1
  obtain ⟨i0, hi, hz0, hz1, hz2⟩ := info_parts info_int
  have HI := Lib.hid hi
  have HZ0 := Lib.hid hz0
  have HZ1 := Lib.hid hz1
  have HZ2 := Lib.hid hz2
  have HG := Lib.hid hg
  have HOK := Lib.hid (tidyN_ok g)
  have HTL := Lib.hid (tidyN_len g)
  clear hi hz0 hz1 hz2 hg hs
  intro f
  induction f with
  | zero =>
    intro b p s w vl hW hI hb h0 hf
    have := unv_enter (p := p) (by rw [hI.number]; exact hb) h0
    omega
  | succ f ih =>
    intro b p s w vl hW hI hb h0 hf
    have IH := Lib.hid ih
    have hnl := hI.number
    have hlow := hW.low
    have hsl : (seenL s).length = g.length := by unfold seenL; rw [List.length_map]; exact hnl
    have k0 : w.cell? ⟨wb, 0, none⟩ = some (.slice (some ⟨w0.heap.size, 0, none⟩) g.length g.length) := hW.str.cell 0
    have kc := hW.there.cell (b := b) (by rw [hsl]; exact hb)
    have kf : w.frozen? ⟨w0.heap.size, b, none⟩ = false := World.ownsRow.frozenAt hW.there b
    generalize (seenL s)[b]'(by rw [hsl]; exact hb) = z at *
    have HW := Lib.hid (hW.mark b p)
    have HI' := Lib.hid hI
    have H0 := Lib.hid h0
    clear hW hI ih h0 hnl hsl
    go_enter Try.func54, Try.ntmps54
    go_wp2_with fail
    have HGM := Lib.hid (HG.out.keep HW.out.below)
    have HK1 := Lib.hid (Stays.mark (B := w0.heap.size) (wb := wb) w vl b (.bool true))
    have hbig : wb < (w.setCell ⟨w0.heap.size, b, none⟩ (.bool true)).heap.size := HW.out.str.lt
    have hlf := HW.out.left.lt
    generalize w.setCell ⟨w0.heap.size, b, none⟩ (.bool true) = w1 at *
    refine (next_any w1 _ g (b : Int) HGM.out (by omega)).mono ?_
    rintro e w2 ⟨vn, rfl, hon, hb2⟩
    rw [next_T hb] at hon
    have hon : OwnInts w1.heap.size w2 vn (li ((tidyN g).getD b [])) := hon
    have HTR := Lib.hid (show ∀ x ∈ (tidyN g).getD b [], x < (tidyN g).length from fun x hx => by
      have hb2 : b < (tidyN g).length := by rw [HTL.out]; exact hb
      rw [List.getD_eq_getElem?_getD, List.getElem?_eq_getElem hb2] at hx
      exact HOK.out b hb2 x hx)
    have HW2 := Lib.hid (HW.out.keep hb2)
    have HK2 := Lib.hid (HK1.out.trans (Stays.of hb2))
    have HVI := Lib.hid (visit_succ (tidyN g) f b p s)
    have hle : (li ((tidyN g).getD b [])).length ≤ 1000 := by
      have := nextTo_len g (b : Nat) g.length
      rw [← next_T hb]; exact Nat.le_trans this hgl
    obtain ⟨Al, cl, rfl⟩ := own_form hon
    rw [li_len] at hle ⊢
    have HN := Lib.hid (fun k (hk : k < (li ((tidyN g).getD b [])).length) => (show ∃ q, Al = some ⟨q, 0, none⟩ ∧ w1.heap.size ≤ q ∧ w2.cell? ⟨q, k, none⟩ = some (.int .i64 (li ((tidyN g).getD b []))[k]) from by
      obtain ⟨q, rfl⟩ := OwnInts.block hon (by omega)
      exact ⟨q, rfl, (hon.lt q rfl).1, (OwnInts.cell hon hk).1⟩))
    generalize (tidyN g).getD b [] = row at *
    clear hon hb2 HW HGM HK1 k0 kc kf
    go_wp2_with fail
    go_loopw [7] (fun i wr => ∃ j : Nat, j ≤ row.length ∧ i = .int .i64 j ∧ ∃ vr, OverAt w0 wb wr g.length (visits (tidyN g) f s.came.length (row.take j) (s.enter b p)) vr ∧ Stays w0.heap.size wb w2 vl wr vr) (fun i _ => row.length - (intOf i).toNat)
    case atStart => exact ⟨0, by omega, rfl, vl, HW2.out, Stays.refl _ _ _ _⟩
    case round =>
      obtain ⟨j, hj, rfl, vr, hW, hK⟩ := hrel
      obtain ⟨wo, rfl⟩ : ∃ wo : World, wo = wr := ⟨_, rfl⟩
      have hue := unv_enter (s := s) (b := b) (p := p) (by rw [HI'.out.number]; exact hb) H0.out
      obtain ⟨hI2, hG2⟩ := visits_inv (tidyN g) HOK.out f s.came.length (row.take j) (s.enter b p) (fun x hx => HTR.out x (List.mem_of_mem_take hx)) (by rw [HTL.out]; exact HI'.out.enter hb H0.out) (by omega)
      have hu2 := hG2.unv
      rw [HTL.out] at hI2
      have HW3 := Lib.hid hW
      have HK3 := Lib.hid hK
      clear hK
      by_cases hlt : j < row.length
      · have HNX := Lib.hid (show visits (tidyN g) f s.came.length (row.take (j + 1)) (s.enter b p) = visits (tidyN g) f s.came.length [row[j]] (visits (tidyN g) f s.came.length (row.take j) (s.enter b p)) by
          rw [List.take_succ_eq_append_getElem hlt]; unfold visits; rw [List.foldl_append])
        have hxl : row[j] < g.length := by have := HTR.out _ (List.getElem_mem hlt); rw [HTL.out] at this; exact this
        have hj1 : j < (li row).length := by rw [li_len]; exact hlt
        obtain ⟨q, rfl, hq, hx⟩ := HN.out j hj1
        rw [li_at hlt hj1] at hx
        have hx := HK3.out.cell hx (by simp; omega) (by simp; omega) (fun e => by have := (hlf q e).2; omega)
        generalize row[j] = x at *
        generalize visits (tidyN g) f s.came.length (row.take j) (s.enter b p) = s2 at *
        have hnl := hI2.number
        have hxn : x < s2.number.length := by omega
        have hsl : x < (seenL s2).length := by unfold seenL; rw [List.length_map]; exact hxn
        have k0 : wo.cell? ⟨wb, 0, none⟩ = some (.slice (some ⟨w0.heap.size, 0, none⟩) g.length g.length) := hW.str.cell 0
        have kc := hW.there.cell hsl
        have hsx : (seenL s2)[x]'hsl = seenB s2.number[x] := by unfold seenL; exact List.getElem_map _
        rw [hsx] at kc
        have HY := Lib.hid (show s2.number.getD x 0 = s2.number[x] by rw [List.getD_eq_getElem?_getD, List.getElem?_eq_getElem hxn]; rfl)
        have HI2 := Lib.hid hI2
        clear hW hI2 hG2 hsx hsl hnl
        generalize s2.number[x] = y at *
        have hxg : (x : Int) < (g.length : Int) := by omega
        by_cases hy : y = -1
        · have hyb : seenB y = false := by unfold seenB; rw [decide_eq_false_iff_not]; exact fun h => h hy
          have HN2 := Lib.hid (show visits (tidyN g) f s.came.length [x] s2 = visit (tidyN g) f x s.came.length s2 by
            rw [visits_cons, if_pos (by rw [HY.out]; exact hy)]; rfl)
          have HY2 := Lib.hid (show s2.number.getD x 0 = -1 by rw [HY.out]; exact hy)
          rw [hyb] at kc
          clear hy hyb
          go_wp2_with fail
          go_quiet (fail)
          go_wp2_with fail
          refine (IH.out x s.came.length s2 _ vr (HW3.out.drewN _) HI2.out hxl HY2.out (by omega)).mono ?_
          rintro e w7 ⟨rfl, vr2, hW7, hK7⟩
          have HW7 := Lib.hid hW7
          have HK7 := Lib.hid ((HK3.out.drewN _).trans hK7)
          clear hW7 hK7
          go_wp2
          go_roundw
          case rel => exact ⟨j + 1, by omega, by go_num, vr2, by rw [HNX.out, HN2.out]; exact HW7.out, HK7.out⟩
          case measure => simp [intOf]; omega
        · have hyb : seenB y = true := by unfold seenB; rw [decide_eq_true_eq]; exact hy
          have HN2 := Lib.hid (show visits (tidyN g) f s.came.length [x] s2 = s2 by
            rw [visits_cons, if_neg (by rw [HY.out]; exact hy)]; rfl)
          rw [hyb] at kc
          clear hy hyb
          go_wp2_with fail
          go_quiet (fail)
          go_wp2
          go_roundw
          case rel => exact ⟨j + 1, by omega, by go_num, vr, by rw [HNX.out, HN2.out]; exact HW3.out.drewN _, HK3.out.drewN _⟩
          case measure => simp [intOf]; omega
      · obtain rfl : j = row.length := by omega
        rw [List.take_length] at *
        clear HI'
        generalize visits (tidyN g) f s.came.length row (s.enter b p) = s2 at *
        have hl := hW.left
        obtain ⟨Al2, cl2, rfl⟩ := own_form hl
        rw [li_len] at *
        have k1 : wo.cell? ⟨wb, 1, none⟩ = some (.slice Al2 s2.left.length cl2) := hW.str.cell 1
        have hW1 := hW.keep ((Below.refl _ _).alloc (Nat.le_refl _) (.cells #[.int .i64 (b : Int)] 3))
        have hl1 := hW1.left
        unfold OwnInts at hl1
        rw [li_len] at hl1
        have hnl2 := hI2.number
        have hcl2 := hI2.came
        have hll2 := hI2.left
        have hlo2 := hW.below.size
        have HW1 := Lib.hid hW1
        clear hW hW1 hl hI2 hG2
        go_wp2_with (at_builtin; refine wpList_append1 rfl _ _ 23 rfl w0.heap.size 3 i0 (.int .i64 0) 8 Try.underlying23 HI.out HZ0.out HZ1.out HZ2.out rfl _ _ _ rfl hl1 ⟨_, 0, none⟩ (.int .i64 (b : Int)) rfl (cell_made rfl) (by rfl) (by omega) (by omega) (by rw [World.size_alloc]; omega) ?_)
        intro v' w7 hown' hgrow hmv
        obtain ⟨A7, c7, rfl⟩ := own_form hown'
        obtain ⟨hS7, hW7⟩ := HW1.out.push (b := b) hgrow (by unfold OwnInts; rw [li_len, List.length_append, li_snoc, List.map_append]; exact hown')
        have q1 : w7.cell? ⟨wb, 1, none⟩ = some (.slice Al2 s2.left.length cl2) := hS7.cell 1
        have qf := hS7.frozen 1
        have HW7 := Lib.hid hW7
        have HK7 := Lib.hid (HK2.out.trans (HK3.out.trans (Stays.alloc (Stays.push (B := w0.heap.size) (wb := wb) hgrow hmv))))
        clear hown' hgrow hmv hW7 hS7 k1
        go_wp2
        go_end0
        exact ⟨rfl, by rw [HVI.out]; exact ⟨_, HW7.out, HK7.out⟩⟩
set_option maxRecDepth 100000 in
set_option maxHeartbeats 4000000 in
theorem rorder_any (w : World) (v : Value) (g : List (List Int)) (hg : Grid w v g) (hs : Small g) :
    Calls Try.prog 36 #[v] w (MadeRow (li (orderN (tidyN g))) w) := by
  have HG := Lib.hid hg
  have HS := Lib.hid hs
  have hgl := hs.1
  obtain ⟨A, ca, rfl, ha1, ha2, ha3⟩ := hg
  unfold maxLen at ha2
  clear ha3 hs
  have HTL := Lib.hid (tidyN_len g)
  by_cases hn : g.length = 0
  · have h0 : ((g.length : Int) == 0) = true := beq_iff_eq.2 (by omega)
    have HW := Lib.hid (show li (orderN (tidyN g)) = [] by
      unfold orderN walkN
      rw [if_neg (by rw [HTL.out]; omega)]; rfl)
    clear hn
    go_enter Try.func36, Try.ntmps36
    go_wp2
    go_ret
    exact ⟨_, rfl, by rw [HW.out]; exact World.ownsRow_nil _ _ _ _, Below.refl _ _⟩
  · have h0 : ((g.length : Int) == 0) = false := beq_eq_false_iff_ne.2 (by omega)
    have hpos : 0 < g.length := by omega
    have HW := Lib.hid (show orderN (tidyN g) = (visit (tidyN g) g.length 0 (-1) (St.none g.length)).left.reverse by
      unfold orderN walkN
      rw [HTL.out, if_pos hpos])
    obtain ⟨i0, hi, hz0, hz1, hz2⟩ := info_parts info_bool
    have HI := Lib.hid hi
    have HZ0 := Lib.hid hz0
    have HZ1 := Lib.hid hz1
    have HZ2 := Lib.hid hz2
    obtain ⟨i1, hj, hy0, hy1, hy2⟩ := info_parts info_int
    have HJ := Lib.hid hj
    have HY0 := Lib.hid hy0
    have HY1 := Lib.hid hy1
    have HY2 := Lib.hid hy2
    clear hi hz0 hz1 hz2 hj hy0 hy1 hy2 hn
    go_enter Try.func36, Try.ntmps36
    go_wp2_with (at_make; refine wpList_make_full _ rfl _ _ 43 rfl w.heap.size 4 i0 (.bool false) 1 Try.underlying43 HI.out HZ0.out HZ1.out .i64 .i64 _ _ g.length rfl rfl rfl rfl ?c1 ?c2 ?c3 ?_)
    case c1 => rw [HZ2.out]; omega
    case c2 => unfold maxLen; omega
    case c3 => exact Nat.le_refl _
    intro w1 hown hgr
    have hO1 : OwnBools w.heap.size w1 (seenL (St.none g.length)) := by
      have e : seenL (St.none g.length) = List.replicate g.length false := by unfold seenL St.none; rw [List.map_replicate]; rfl
      rw [e]
      unfold OwnBools
      rw [List.length_replicate, List.map_replicate]
      rw [toList_madeCells_one] at hown
      simpa using hown
    have hB1 : Below w.heap.size w w1 := (Below.refl _ _).grown hgr (Nat.le_refl _) (fun j hj => by cases hj)
    have hno : Inv g.length (St.none g.length) := ⟨by simp [St.none], by simp [St.none, unv], rfl, Nat.le_refl _⟩
    have hun : unv (St.none g.length) ≤ g.length := by simp [St.none, unv]
    have hn0 : (St.none g.length).number.getD 0 0 = -1 := by simp [St.none, List.getD_eq_getElem?_getD, hpos]
    have hal : Below w1.heap.size w1 (w1.alloc (.cells #[.slice (some ⟨w.heap.size, 0, none⟩) g.length g.length, .slice none 0 0] 80)) := (Below.refl _ _).alloc (Nat.le_refl _) _
    have hAt : OverAt w w1.heap.size (w1.alloc (.cells #[.slice (some ⟨w.heap.size, 0, none⟩) g.length g.length, .slice none 0 0] 80)) g.length (St.none g.length) (.slice none 0 0) :=
      ⟨(hO1.lt _ rfl).2, hB1.alloc hB1.size _, World.alloc_heap_new w1 _, hO1.below hal, World.ownsRow_nil _ _ _ _⟩
    have hIN := (visit_inv (tidyN g) (tidyN_ok g) g.length 0 (-1) (St.none g.length) (by rw [HTL.out]; exact hno) (by rw [HTL.out]; exact hpos) hn0 hun).1
    have HIN := Lib.hid hIN
    have HAT := Lib.hid hAt
    have HNO := Lib.hid hno
    have HN0 := Lib.hid hn0
    clear hown hgr hO1 hB1 hal hAt hIN hno hn0
    go_wp2_with fail
    refine (over_any w w1.heap.size _ g HG.out HS.out g.length 0 (-1) (St.none g.length) _ _ HAT.out HNO.out hpos HN0.out hun).mono ?_
    rintro e w3 ⟨rfl, vl, hW3, _⟩
    have hll := HIN.out.left
    have hcl := HIN.out.came
    rw [HTL.out] at hcl
    generalize visit (tidyN g) g.length 0 (-1) (St.none g.length) = s7 at *
    have hl := hW3.left
    obtain ⟨Al, cl, rfl⟩ := own_form hl
    have k1 : w3.cell? ⟨w1.heap.size, 1, none⟩ = some (.slice Al (li s7.left).length cl) := hW3.str.cell 1
    have HSL := Lib.hid (show li (orderN (tidyN g)) = (li s7.left).reverse by rw [HW.out]; unfold li; rw [List.map_reverse])
    have hlen : (li s7.left).length ≤ 1000 := by rw [li_len]; omega
    have HLF := Lib.hid hl
    have HK1 := Lib.hid k1
    have HB3 := Lib.hid hW3.below
    generalize li s7.left = l at *
    clear hl hW3 HIN HAT HN0 HNO HW hcl hll
    go_wp2_with fail
    go_loopw [4, 5] (fun o i wr => ∃ m : Nat, m ≤ l.length ∧ i = .int .i64 ((m : Int) - 1) ∧ OwnInts w3.heap.size wr o (l.drop m).reverse ∧ Below w3.heap.size w3 wr) (fun _ i _ => (intOf i + 1).toNat)
    case atStart => exact ⟨l.length, Nat.le_refl _, rfl, by rw [List.drop_length]; exact World.ownsRow_nil _ _ _ _, Below.refl _ _⟩
    case round =>
      obtain ⟨m, hm, rfl, ho, hb⟩ := hrel
      obtain ⟨wo, rfl⟩ : ∃ wo : World, wo = wr := ⟨_, rfl⟩
      have HO := Lib.hid ho
      have HB := Lib.hid hb
      cases m with
      | zero =>
        have HF := Lib.hid (show OwnInts w3.heap.size wo _ (li (orderN (tidyN g))) by rw [HSL.out]; exact ho)
        clear ho hb
        go_wp2
        go_ret
        exact ⟨_, rfl, own_base HF.out HB3.out.size, HB3.out.trans (HB.out.mono HB3.out.size)⟩
      | succ m =>
        have hml : m < l.length := by omega
        have hdr : (l.drop m).reverse = (l.drop (m + 1)).reverse ++ [l[m]] := by rw [List.drop_eq_getElem_cons hml, List.reverse_cons]
        have HD := Lib.hid hdr
        have hdl : ((l.drop (m + 1)).reverse).length ≤ 1000 := by rw [List.length_reverse, List.length_drop]; omega
        obtain ⟨q, rfl⟩ := OwnInts.block HLF.out (by omega)
        have hx := cell_keep hb (Nat.le_refl _) (OwnInts.cell HLF.out hml).1
        have k1 := cell_keep hb (Nat.le_refl _) HK1.out
        have HR := Lib.hid (World.ownsRow.alloc ho (.cells #[.int .i64 l[m]] 3))
        obtain ⟨y, hy⟩ : ∃ y, l[m] = y := ⟨_, rfl⟩
        rw [hy] at hx HD HR
        have e : (((m + 1 : Nat) : Int) - 1) = (m : Int) := by omega
        rw [e]
        generalize (l.drop (m + 1)).reverse = t at *
        obtain ⟨At, ct, rfl⟩ := own_form ho
        clear ho hb hdr hy e
        go_wp2_with (at_builtin; refine wpList_append_own _ rfl _ _ 23 rfl w3.heap.size 3 i1 (.int .i64 0) 1 8 Try.underlying23 HJ.out HY0.out HY1.out HY2.out rfl (by decide) _ _ _ rfl HR.out ⟨_, 0, none⟩ 1 1 [.int .i64 y] rfl rfl ?c1 ?c2 ?c3 ?c4 ?c5 ?_)
        case c1 =>
          intro i u hj
          match i, hj with
          | 0, hj => simp at hj; subst hj; simp [Addr.add]
        case c2 => intro u hu; simp at hu; subst hu; rfl
        case c3 => unfold maxLen; omega
        case c4 => omega
        case c5 => have := HB.out.size; simp <;> omega
        intro vn w6 hown' hgrow _
        have hown2 : OwnInts w3.heap.size w6 vn (l.drop m).reverse := by
          rw [HD.out]
          unfold OwnInts
          rw [List.length_append, List.map_append]; exact hown'
        have HO2 := Lib.hid hown2
        have HB2 := Lib.hid ((HB.out.alloc HB.out.size _).grown hgrow (by rw [World.size_alloc]; have := HB.out.size; omega) (fun j hj => (HR.out.lt j hj).1))
        clear hown' hgrow hown2
        go_wp2
        go_roundw
        case rel => exact ⟨m, by omega, by go_num, HO2.out, HB2.out⟩
        case measure => simp [intOf]
end Go.Proofs.Ythanbedmiaacdaa.Gc
/- What jacquardref02's Critical answers: the edges that package graph's Critical answers. -/
namespace Go.Proofs.Ythanbedmiaacdaa.Gc
open Go.ChangeShapes Go.WideShapes Go.ChangeAt Go.RowKit Go.Proofs.Ythanbedmiaacdaa.Mem Go.Proofs.Ythanbedmiaacdaa.Gr Go.Proofs.Ythanbedmiaacdaa.Gn Go.Proofs.Ythanbedmiaacdaa.Rp
set_option linter.unusedVariables false

theorem row_at {w : World} {A : Option Addr} {n c : Nat} {T : G} (h : Grid w (.slice A n c) (lii T)) {k : Nat} (hk : k < T.length) : ∃ ad A' m, A = some ad ∧ w.cell? (ad.add k) = some (.slice A' (T.getD k []).length m) := by
  obtain ⟨A, c', e, _, _, h3⟩ := h
  injection e with e1 e2 e3
  subst e1
  obtain ⟨ad, u, e, hc, hu⟩ := h3 k (by rw [lii_len]; exact hk)
  obtain ⟨A', m, e2, hm, _⟩ := hu
  rw [lii_at hk, li_len] at e2
  have hg : T.getD k [] = T[k] := by rw [List.getD_eq_getElem?_getD, List.getElem?_eq_getElem hk]; rfl
  exact ⟨ad, A', m, e, by rw [hg, ← e2]; exact hc⟩
def inRow (k : Nat) (b : Nat) : Nat × Nat := (k, b)
set_option maxRecDepth 100000 in
set_option maxHeartbeats 2000000 in
theorem rcrit_any (w : World) (v : Value) (g : List (List Int)) (hg : Grid w v g) (hs : Small g) :
    Calls Try.prog 39 #[v] w (MadePairs ((criticalN (tidyN g)).map pr) w) := by
  have HG := Lib.hid hg
  have hgl := hs.1
  obtain ⟨A, ca, rfl, ha1, ha2, ha3⟩ := hg
  unfold maxLen at ha2
  have HTL := Lib.hid (tidyN_len g)
  have HOK := Lib.hid (tidyN_ok g)
  have HSM := Lib.hid (show ∀ i (h : i < (tidyN g).length), (tidyN g)[i].length ≤ 1000 from fun i h => by
    have := (tidyN_small (g := g) hgl).2 i (by rw [lii_len]; exact h)
    rw [lii_at h, li_len] at this; exact this)
  have hpl : (lii (turnN (tidyN g))).length = g.length := by rw [lii_len, turnN_len, tidyN_len]
  have HPS := Lib.hid (Gl.preds_same g)
  obtain ⟨i0, hi, hz0, hz1, hz2⟩ := info_parts info_pair
  have HI := Lib.hid hi
  have HZ0 := Lib.hid hz0
  have HZ1 := Lib.hid hz1
  have HZ2 := Lib.hid hz2
  have HNT := Lib.hid (fun b (h : b < g.length) => next_T (g := g) h)
  have HEND := Lib.hid (show critAt (tidyN g) (edgesTo (tidyN g) g.length) = (criticalN (tidyN g)).map pr by rw [← HTL.out]; rfl)
  clear ha3 hs hi hz0 hz1 hz2
  go_enter Try.func39, Try.ntmps39
  go_wp2_with fail
  refine (preds_any w _ g HG.out (by omega)).mono ?_
  rintro e w1 ⟨vp, rfl, hop, hb1⟩
  rw [← HPS.out] at hop
  have hgp := hop.grid
  obtain ⟨Ap, cp, e, hq⟩ := hgp
  rw [hpl] at e
  subst e
  have HP := Lib.hid hop.grid
  have HG1 := Lib.hid (HG.out.keep hb1)
  have HB1 := Lib.hid hb1
  generalize tidyN g = T at *
  clear hop hb1 hq hpl HPS
  go_wp2_with fail
  go_loopw [4, 5] (fun o i wr => ∃ k : Nat, k ≤ g.length ∧ i = .int .i64 k ∧ OwnPairs w1.heap.size wr o (critAt T (edgesTo T k)) ∧ Below w1.heap.size w1 wr) (fun _ i _ => g.length - (intOf i).toNat)
  case atStart => exact ⟨0, by omega, rfl, World.ownsRow_nil _ _ _ _, Below.refl _ _⟩
  case round =>
    obtain ⟨k, hk, rfl, ho, hb⟩ := hrel
    obtain ⟨wo, rfl⟩ : ∃ wo : World, wo = wr := ⟨_, rfl⟩
    have HO := Lib.hid ho
    have HB := Lib.hid hb
    clear ho hb
    by_cases hlt : k < g.length
    · have HGo := Lib.hid (HG1.out.keep HB.out)
      go_wp2_with fail
      refine (next_any wo _ g (k : Int) HGo.out (by omega)).mono ?_
      rintro e w2 ⟨vn, rfl, hon, hb2⟩
      rw [HNT.out k hlt] at hon
      have hon : OwnInts wo.heap.size w2 vn (li (T.getD k [])) := hon
      have HRT := Lib.hid (show ∀ x ∈ T.getD k [], x < T.length from fun x hx => by
        have hb2 : k < T.length := by rw [HTL.out]; exact hlt
        rw [List.getD_eq_getElem?_getD, List.getElem?_eq_getElem hb2] at hx
        exact HOK.out k hb2 x hx)
      have HRE := Lib.hid (show edgesTo T (k + 1) = edgesTo T k ++ (T.getD k []).map (inRow k) from edgesTo_succ)
      have hle : (T.getD k []).length ≤ 1000 := by
        have hb2 : k < T.length := by rw [HTL.out]; exact hlt
        rw [List.getD_eq_getElem?_getD, List.getElem?_eq_getElem hb2]
        exact HSM.out k hb2
      have hel : (edgesTo T k).length ≤ k * 1000 := edgesTo_len HSM.out k (by rw [HTL.out]; omega)
      have HCB := Lib.hid (show ∀ b, critB T (inRow k b) = (decide (1 < (T.getD k []).length) && decide (1 < ((turnN T).getD b []).length)) from fun b => rfl)
      obtain ⟨Al, cl, rfl⟩ := own_form hon
      rw [li_len]
      have HN := Lib.hid (own_base (B' := w1.heap.size) hon HB.out.size)
      have HO2 := Lib.hid (own_below HO.out hb2)
      have HB2 := Lib.hid (HB.out.trans (hb2.mono HB.out.size))
      generalize T.getD k [] = row at *
      generalize edgesTo T k = es at *
      clear hon hb2 HO HB HGo
      go_wp2_with fail
      go_loopw [4, 7] (fun o i wr => ∃ j : Nat, j ≤ row.length ∧ i = .int .i64 j ∧ OwnPairs w1.heap.size wr o (critAt T (es ++ (row.take j).map (inRow k))) ∧ OwnInts w1.heap.size wr (.slice Al (li row).length cl) (li row) ∧ Below w1.heap.size w1 wr) (fun _ i _ => row.length - (intOf i).toNat)
      case atStart => exact ⟨0, by omega, rfl, by rw [List.take_zero, List.map_nil, List.append_nil]; exact HO2.out, HN.out, HB2.out⟩
      case round =>
        obtain ⟨j, hj, rfl, ho, hn, hb⟩ := hrel
        obtain ⟨wi, rfl⟩ : ∃ wi : World, wi = wr := ⟨_, rfl⟩
        have HOI := Lib.hid ho
        have HNI := Lib.hid hn
        have HBI := Lib.hid hb
        by_cases hjl : j < row.length
        · have hj1 : j < (li row).length := by rw [li_len]; exact hjl
          obtain ⟨q, rfl⟩ := OwnInts.block hn (by omega)
          have hx := (OwnInts.cell hn hj1).1
          rw [li_at hjl hj1] at hx
          have hxl : row[j] < T.length := HRT.out _ (List.getElem_mem hjl)
          have HTK := Lib.hid (show es ++ (row.take (j + 1)).map (inRow k) = (es ++ (row.take j).map (inRow k)) ++ [inRow k row[j]] by
            rw [List.take_succ_eq_append_getElem hjl, List.map_append, List.append_assoc]; rfl)
          have hcl := critAt_len T (es ++ (row.take j).map (inRow k))
          rw [List.length_append, List.length_map, List.length_take] at hcl
          generalize row[j] = x at *
          obtain ⟨ap, Ax, mx, eap, hcx⟩ := row_at HP.out (k := x) (by rw [turnN_len]; exact hxl)
          subst eap
          have hcx := cell_keep hb (Nat.le_refl _) hcx
          have hxg : (x : Int) < (g.length : Int) := by have := HTL.out; omega
          have HHIT := Lib.hid (fun h => @critAt_hit T (es ++ (row.take j).map (inRow k)) (inRow k x) h)
          have HMISS := Lib.hid (fun h => @critAt_miss T (es ++ (row.take j).map (inRow k)) (inRow k x) h)
          have HCX := Lib.hid (HCB.out x)
          generalize ((turnN T).getD x []).length = n2 at *
          generalize es ++ (row.take j).map (inRow k) = es1 at *
          clear ho hn hb
          have hmiss : (¬ (1 < row.length ∧ 1 < n2)) → critAt T (es1 ++ [inRow k x]) = critAt T es1 := fun h => HMISS.out (by
            rw [HCX.out]
            rw [Bool.and_eq_false_iff, decide_eq_false_iff_not, decide_eq_false_iff_not]; omega)
          have HMI := Lib.hid hmiss
          clear hmiss
          by_cases h1 : 1 < row.length
          · by_cases h2 : 1 < n2
            · have HC := Lib.hid (HHIT.out (by rw [HCX.out]; simp; omega))
              go_wp2_with (at_builtin; refine wpList_append2 rfl _ _ 53 rfl w1.heap.size 52 i0 (.agg #[.int .i64 0, .int .i64 0]) 16 Try.underlying53 HI.out HZ0.out HZ1.out HZ2.out rfl _ _ _ rfl (World.ownsRow.alloc HOI.out _) wi.heap.size (.int .i64 (k : Int)) (.int .i64 (x : Int)) rfl (by simp) (by simp) rfl rfl (by omega) (by omega) (by have := HBI.out.size; simp; omega) ?_)
              intro v' w3 hown' hgrow
              have hp3 : OwnPairs w1.heap.size w3 v' (critAt T (es1 ++ [inRow k x])) := by
                unfold OwnPairs
                rw [HC.out, List.length_append, List.map_append, List.flatten_append]
                exact hown'
              have HP3 := Lib.hid hp3
              have HN3 := Lib.hid (show OwnInts w1.heap.size w3 (.slice (some ⟨q, 0, none⟩) (li row).length cl) (li row) from
                World.ownsRow.kept (World.ownsRow.alloc HNI.out (.cells #[.int .i64 (k : Int), .int .i64 (x : Int)] 52)) hgrow (own_apart HNI.out HOI.out (by decide)))
              have HB3 := Lib.hid ((HBI.out.alloc HBI.out.size (.cells #[.int .i64 (k : Int), .int .i64 (x : Int)] 52)).grown hgrow (by rw [World.size_alloc]; have := HBI.out.size; omega) (fun j hj => (HOI.out.lt j hj).1))
              clear hown' hgrow hp3
              go_wp2
              go_roundw
              case rel => exact ⟨j + 1, by omega, by go_num, by rw [HTK.out]; exact HP3.out, HN3.out, HB3.out⟩
              case measure => simp [intOf]; omega
            · have HC := Lib.hid (HMI.out (fun h => h2 h.2))
              go_wp2
              go_roundw
              case rel => exact ⟨j + 1, by omega, by go_num, by rw [HTK.out, HC.out]; exact HOI.out, HNI.out, HBI.out⟩
              case measure => simp [intOf]; omega
          · have HC := Lib.hid (HMI.out (fun h => h1 h.1))
            go_wp2
            go_roundw
            case rel => exact ⟨j + 1, by omega, by go_num, by rw [HTK.out, HC.out]; exact HOI.out, HNI.out, HBI.out⟩
            case measure => simp [intOf]; omega
        · obtain rfl : j = row.length := by omega
          rw [List.take_length] at *
          clear ho hn hb
          go_wp2
          go_roundw
          case rel => exact ⟨k + 1, by omega, by go_num, by rw [HRE.out]; exact HOI.out, HBI.out⟩
          case measure => simp [intOf]; omega
    · obtain rfl : k = g.length := by omega
      have HF := Lib.hid (own_base (B' := w.heap.size) HO.out HB1.out.size)
      go_wp2
      go_ret
      exact ⟨_, rfl, by rw [← HEND.out]; exact HF.out, HB1.out.trans (HB.out.mono HB1.out.size)⟩
end Go.Proofs.Ythanbedmiaacdaa.Gc
/- What the law's tells answers: what package graph tells of a graph is what the document's answers are. -/
namespace Go.Proofs.Ythanbedmiaacdaa.Gc
open Go.ChangeShapes Go.WideShapes Go.ChangeAt Go.RowKit Go.Proofs.Ythanbedmiaacdaa.Mem Go.Proofs.Ythanbedmiaacdaa.Gr Go.Proofs.Ythanbedmiaacdaa.Gn Go.Proofs.Ythanbedmiaacdaa.Rp
set_option linter.unusedVariables false
theorem below_drewM {B : Nat} {w w' : World} (h : Below B w w') (n : Nat) : Below B w (w'.drewN n) := ⟨h.os, h.tape, h.output, h.size, h.block⟩
set_option maxRecDepth 100000 in
set_option maxHeartbeats 2000000 in
theorem tells_any (w : World) (v : Value) (g : List (List Int)) (hg : Grid w v g) (hs : Small g) :
    Calls Try.prog 13 #[v] w (AnswersB true w) := by
  have HG := Lib.hid hg
  have HS := Lib.hid hs
  have hgl := hs.1
  have HSP := Lib.hid (Gl.spans_all (g := g) hgl)
  obtain ⟨A, ca, rfl, ha1, ha2, ha3⟩ := hg
  have HP := Lib.hid (Gl.preds_same g)
  have HH := Lib.hid (Gl.headers_same g)
  have HR := Lib.hid (Gl.red_same g)
  have HI := Lib.hid (Gl.idom_same g)
  have HY := Lib.hid (Gl.body_same g)
  have HPL := Lib.hid (show ((criticalN (tidyN g)).map pr).length ≤ 1000000 by
    rw [List.length_map]
    have h1 := List.length_filter_le (fun e => decide (1 < ((tidyN g).getD e.1 []).length) && decide (1 < ((turnN (tidyN g)).getD e.2 []).length)) (edgesN (tidyN g))
    have h2 := edges_few (tidyN_small (g := g) hgl)
    unfold criticalN; omega)
  clear ha3 hs
  go_enter Try.func13, Try.ntmps13
  go_wp2_with fail
  refine (preds_code w _ g HG.out HS.out).mono ?_
  rintro e w1 ⟨b1, rfl, ho, hb⟩
  have hv1 := ho.grid.grid
  rw [lii_len] at hv1
  have HV1 := Lib.hid hv1
  have HG1 := Lib.hid (HG.out.keep hb)
  have HB1 := Lib.hid hb
  clear ho hb HG hv1
  go_wp2_with fail
  refine (preds_any w1 _ g HG1.out (by omega)).mono ?_
  rintro e w2 ⟨vp, rfl, ho, hb⟩
  have HV2 := Lib.hid (HV1.out.keep hb)
  have HU2 := Lib.hid ho.grid
  have HG2 := Lib.hid (HG1.out.keep hb)
  have HB2 := Lib.hid (HB1.out.trans (hb.mono HB1.out.size))
  clear ho hb HG1 HB1 HV1
  go_wp2_with fail
  refine (rows_any w2 _ _ _ _ HV2.out HU2.out).mono ?_
  rintro e w3 ⟨rfl, n3, hw⟩
  have e1 : (lii (turnN (tidyN g)) == predsL g) = true := by rw [HP.out]; exact beq_self_eq_true _
  rw [e1]
  have HG3 := Lib.hid (show Grid w3 _ g by rw [hw]; exact HG2.out.drewN n3)
  have HB3 := Lib.hid (show Below w.heap.size w w3 by rw [hw]; exact below_drewM HB2.out n3)
  clear hw e1 HG2 HB2 HV2 HU2
  go_wp2_with fail
  refine (order_code w3 _ g HG3.out HS.out).mono ?_
  rintro e w4 ⟨v4, rfl, ho, hb⟩
  have HV4 := Lib.hid ho.ints
  have HG4 := Lib.hid (HG3.out.keep hb)
  have HB4 := Lib.hid (HB3.out.trans (hb.mono HB3.out.size))
  clear ho hb HG3 HB3
  go_wp2_with fail
  refine (rorder_any w4 _ g HG4.out HS.out).mono ?_
  rintro e w5 ⟨v5, rfl, ho, hb⟩
  have HV5 := Lib.hid (HV4.out.keep hb)
  have HU5 := Lib.hid ho.ints
  have HG5 := Lib.hid (HG4.out.keep hb)
  have HB5 := Lib.hid (HB4.out.trans (hb.mono HB4.out.size))
  clear ho hb HG4 HB4 HV4
  go_wp2_with fail
  refine (nums_any w5 _ _ _ _ HV5.out HU5.out).mono ?_
  rintro e w6 ⟨rfl, n6, hw⟩
  rw [show (li (orderN (tidyN g)) == li (orderN (tidyN g))) = true by exact beq_self_eq_true _]
  have HG6 := Lib.hid (show Grid w6 _ g by rw [hw]; exact HG5.out.drewN n6)
  have HB6 := Lib.hid (show Below w.heap.size w w6 by rw [hw]; exact below_drewM HB5.out n6)
  clear hw HG5 HB5 HV5 HU5
  go_wp2_with fail
  refine (idom_code w6 _ g HG6.out HS.out).mono ?_
  rintro e w7 ⟨v7, rfl, ho, hb⟩
  have HV7 := Lib.hid ho.ints
  have HG7 := Lib.hid (HG6.out.keep hb)
  have HB7 := Lib.hid (HB6.out.trans (hb.mono HB6.out.size))
  clear ho hb HG6 HB6
  go_wp2_with fail
  refine (idom_any w7 _ g HG7.out (by omega)).mono ?_
  rintro e w8 ⟨v8, rfl, ho, hb⟩
  have HV8 := Lib.hid (HV7.out.keep hb)
  have HU8 := Lib.hid (OwnInts.ints ho)
  have HG8 := Lib.hid (HG7.out.keep hb)
  have HB8 := Lib.hid (HB7.out.trans (hb.mono HB7.out.size))
  clear ho hb HG7 HB7 HV7
  go_wp2_with fail
  refine (nums_any w8 _ _ _ _ HV8.out HU8.out).mono ?_
  rintro e w9 ⟨rfl, n9, hw⟩
  rw [show (idomN (tidyN g) == idomL g) = true by rw [HI.out]; exact beq_self_eq_true _]
  have HG9 := Lib.hid (show Grid w9 _ g by rw [hw]; exact HG8.out.drewN n9)
  have HB9 := Lib.hid (show Below w.heap.size w w9 by rw [hw]; exact below_drewM HB8.out n9)
  clear hw HG8 HB8 HV8 HU8
  go_wp2_with fail
  refine (headers_code w9 _ g HG9.out HS.out HSP.out).mono ?_
  rintro e w10 ⟨v10, rfl, ho, hb⟩
  have HV10 := Lib.hid ho.ints
  have HG10 := Lib.hid (HG9.out.keep hb)
  have HB10 := Lib.hid (HB9.out.trans (hb.mono HB9.out.size))
  clear ho hb HG9 HB9
  go_wp2_with fail
  refine (headers_any w10 _ g HG10.out (by omega)).mono ?_
  rintro e w11 ⟨v11, rfl, ho, hb⟩
  have HV11 := Lib.hid (HV10.out.keep hb)
  have HU11 := Lib.hid (OwnInts.ints ho)
  have HG11 := Lib.hid (HG10.out.keep hb)
  have HB11 := Lib.hid (HB10.out.trans (hb.mono HB10.out.size))
  clear ho hb HG10 HB10 HV10
  go_wp2_with fail
  refine (nums_any w11 _ _ _ _ HV11.out HU11.out).mono ?_
  rintro e w12 ⟨rfl, n12, hw⟩
  rw [show (li (headersN (tidyN g)) == headersL g) = true by rw [HH.out]; exact beq_self_eq_true _]
  have HG12 := Lib.hid (show Grid w12 _ g by rw [hw]; exact HG11.out.drewN n12)
  have HB12 := Lib.hid (show Below w.heap.size w w12 by rw [hw]; exact below_drewM HB11.out n12)
  clear hw HG11 HB11 HV11 HU11
  go_wp2_with fail
  refine (critical_code w12 _ g HG12.out HS.out).mono ?_
  rintro e w13 ⟨v13, rfl, ho, hb⟩
  have HV13 := Lib.hid ho.ranges
  have HG13 := Lib.hid (HG12.out.keep hb)
  have HB13 := Lib.hid (HB12.out.trans (hb.mono HB12.out.size))
  clear ho hb HG12 HB12
  go_wp2_with fail
  refine (rcrit_any w13 _ g HG13.out HS.out).mono ?_
  rintro e w14 ⟨v14, rfl, ho, hb⟩
  have HV14 := Lib.hid (HV13.out.keep hb)
  have HU14 := Lib.hid ho.ranges
  have HG14 := Lib.hid (HG13.out.keep hb)
  have HB14 := Lib.hid (HB13.out.trans (hb.mono HB13.out.size))
  clear ho hb HG13 HB13 HV13
  go_wp2_with fail
  refine (pairs_any w14 _ _ _ _ HV14.out HU14.out HPL.out HPL.out).mono ?_
  rintro e w15 ⟨rfl, n15, hw⟩
  rw [show ((criticalN (tidyN g)).map pr == (criticalN (tidyN g)).map pr) = true by exact beq_self_eq_true _]
  have HG15 := Lib.hid (show Grid w15 _ g by rw [hw]; exact HG14.out.drewN n15)
  have HB15 := Lib.hid (show Below w.heap.size w w15 by rw [hw]; exact below_drewM HB14.out n15)
  clear hw HG14 HB14 HV14 HU14
  go_wp2_with fail
  refine (reducible_code w15 _ g HG15.out HS.out HSP.out).mono ?_
  rintro e w16 ⟨rfl, hb⟩
  rw [HR.out]
  have HG16 := Lib.hid (HG15.out.keep hb)
  have HB16 := Lib.hid (HB15.out.trans (hb.mono HB15.out.size))
  clear hb HG15 HB15
  go_wp2_with fail
  refine (reducible_any w16 _ g HG16.out (by omega)).mono ?_
  rintro e w17 ⟨rfl, hb⟩
  have HG17 := Lib.hid (HG16.out.keep hb)
  have HB17 := Lib.hid (HB16.out.trans (hb.mono HB16.out.size))
  clear hb HG16 HB16
  generalize reducB g = d at *
  have hdd : (d != d) = false := by simp
  go_wp2_with fail
  go_loopw [8] (fun i wr => ∃ k : Nat, k ≤ g.length + 2 ∧ i = .int .i64 ((k : Int) - 1) ∧ Below w17.heap.size w17 wr) (fun i _ => ((g.length : Int) + 1 - intOf i).toNat)
  case atStart => exact ⟨0, by omega, by go_num, Below.refl _ _⟩
  case round =>
    obtain ⟨k, hk, rfl, hb⟩ := hrel
    obtain ⟨wo, rfl⟩ : ∃ wo : World, wo = wr := ⟨_, rfl⟩
    have HGo := Lib.hid (HG17.out.keep hb)
    have HBo := Lib.hid hb
    clear hb
    by_cases hlt : k < g.length + 2
    · obtain ⟨h, hh⟩ : ∃ h : Int, (k : Int) - 1 = h := ⟨_, rfl⟩
      rw [hh]
      have hh1 : h ≤ (g.length : Int) := by omega
      have hh2 : -1 ≤ h := by omega
      have HHK := Lib.hid hh
      clear hh
      go_wp2_with fail
      refine (body_code wo _ g h HGo.out HS.out HSP.out).mono ?_
      rintro e wp ⟨vx, rfl, ho, hb⟩
      have HV := Lib.hid ho.ints
      have HGp := Lib.hid (HGo.out.keep hb)
      have HBp := Lib.hid (HBo.out.trans (hb.mono HBo.out.size))
      clear ho hb
      go_wp2_with fail
      refine (body_any wp _ g h HGp.out (by omega)).mono ?_
      rintro e wq ⟨vy, rfl, ho, hb⟩
      have HVq := Lib.hid (HV.out.keep hb)
      have HUq := Lib.hid (OwnInts.ints ho)
      have HBq := Lib.hid (HBp.out.trans (hb.mono HBp.out.size))
      clear ho hb
      go_wp2_with fail
      refine (nums_any wq _ _ _ _ HVq.out HUq.out).mono ?_
      rintro e wz ⟨rfl, nz, hw⟩
      rw [show (li (bodyN (tidyN g) h) == bodyL g h) = true by rw [HY.out]; exact beq_self_eq_true _]
      have HBz := Lib.hid (show Below w17.heap.size w17 wz by rw [hw]; exact below_drewM HBq.out nz)
      clear hw
      go_wp2
      go_roundw
      case rel => exact ⟨k + 1, by omega, by have := HHK.out; go_num, HBz.out⟩
      case measure => simp [intOf]; omega
    · obtain rfl : k = g.length + 2 := by omega
      have hng : ¬ (((g.length + 2 : Nat) : Int) - 1 ≤ (g.length : Int)) := by omega
      go_wp2
      go_ret
      exact ⟨rfl, HB17.out.trans (HBo.out.mono HB17.out.size)⟩
end Go.Proofs.Ythanbedmiaacdaa.Gc


namespace Go.Proofs.Ythanbedmiaacdaa.graphTells
open Go.ChangeShapes Go.WideShapes Go.ChangeAt Go.RowKit
open Go.ChangeMaps (open_string shut_string)
set_option linter.unusedVariables false
set_option linter.constructorNameAsVariable false

theorem own : ownKnob Try.prog.godebug = none := by kernel_rfl
theorem laidOut : laidOutB Try.prog = true := by kernel_rfl

/-- WHAT THE WALK IS TOLD OF A SLICE OF INTEGERS THAT CAME IN: it is nil; or it leads to a row of 'cap' cells, the numbers 'zs' (the first 'len' are its elements, the rest its spare room), each fitting its kind. -/
def IsRow (k : IntKind) (w : World) (a : Option Addr) (len cap : Nat) (zs : List Int) : Prop :=
  (a = none ∧ len = 0 ∧ cap = 0 ∧ zs = []) ∨
  ∃ x, a = some x ∧ len ≤ cap ∧ cap ≤ maxLen ∧ zs.length = cap ∧ (∀ i, i < zs.length → w.cell? (x.add i) = some (.int k (zs.getD i 0))) ∧ ∀ n ∈ zs, (Lit.int k n).wf = true

open Go.Proofs.Ythanbedmiaacdaa.Gl Go.Proofs.Ythanbedmiaacdaa.Mem Go.Proofs.Ythanbedmiaacdaa.Gr Go.Proofs.Ythanbedmiaacdaa.Gn Go.Proofs.Ythanbedmiaacdaa.Gc
open Go.Proofs.Ythanbedmiaacdaa.Gl Go.Proofs.Ythanbedmiaacdaa.Mem Go.Proofs.Ythanbedmiaacdaa.Gr Go.Proofs.Ythanbedmiaacdaa.Gn Go.Proofs.Ythanbedmiaacdaa.Gc
theorem few_small (g : List (List Int)) : Small (fewL g) := by
  refine ⟨by unfold fewL; rw [List.length_map, List.length_take]; omega, fun i hi => ?_⟩
  have hm : (fewL g)[i] ∈ (g.take 12).map (·.take 5) := List.getElem_mem hi
  obtain ⟨l, _, e⟩ := List.mem_map.1 hm
  rw [← e, List.length_take]; omega
theorem cells23 : Try.prog.cellsOf 23 = 1 := by kernel_rfl
theorem cells3 : Try.prog.cellsOf 3 = 1 := by kernel_rfl
/-- Rows of numbers that came in. -/
theorem open_grid {H : Type} {enc : TypeId × Value → H} {W : World} {base : Nat} {held : Bool} {fuel : Nat} {a : Option Addr} {len cap : Nat} {x : DataW H × List MemPlace}
    (h : DataW.trod enc Try.prog W base (fun _ => true) held fuel 22 [.slice a len cap] = some x) : ∃ g : List (List Int), Grid W (.slice a len cap) g := by
  rcases Go.Deep.open_int_rows Try.underlying22 Try.underlying23 Try.underlying3 cells23 cells3 h with ⟨e, _⟩ | ⟨b, l, c, A, L, C, Z, e, _, hl, hm, _, hr⟩
  · injection e with e _
    injection e with e1 e2 e3
    subst e1 e2 e3
    exact ⟨[], rows_none W⟩
  · injection e with e _
    injection e with e1 e2 e3
    subst e1 e2 e3
    refine ⟨(List.range len).map fun r => (Z r).take (L r), ⟨some b, cap, by rw [List.length_map, List.length_range], by rw [List.length_map, List.length_range]; exact hl, hm, fun k hk => ?_⟩⟩
    rw [List.length_map, List.length_range] at hk
    obtain ⟨q1, q2, q3, q4, _, q6, q7⟩ := hr k (by omega)
    refine ⟨b, _, rfl, q1, ?_⟩
    rw [List.getElem_map, List.getElem_range]
    have hz : ((Z k).take (L k)).length = L k := by rw [List.length_take, q4]; omega
    refine ⟨A k, C k, by rw [hz], by rw [hz]; exact q2, q3, fun j hj => ?_⟩
    rw [hz] at hj
    cases ha : A k with
    | none => have := q6 ha; omega
    | some a' =>
      refine ⟨a', rfl, ?_⟩
      rw [(q7 a' ha).2 j (by omega), List.getElem_take, List.getD_eq_getElem?_getD, List.getElem?_eq_getElem (by omega)]; rfl
set_option maxRecDepth 100000 in
set_option maxHeartbeats 1000000 in
theorem walk (a0 : Option Addr) (len0 cap0 : Nat) (g : List (List Int)) (a1 : Option Addr) (len1 cap1 : Nat) (z1 : List Int) (w : World) (w0 : Grid w (.slice a0 len0 cap0) g) (w1 : IsRow .i64 w a1 len1 cap1 z1) :
    Calls Try.prog 3 #[.slice a0 len0 cap0, .slice a1 len1 cap1] w fun e w' => e = .returned (.bool true) ∧ Below w.heap.size w w' := by
  obtain ⟨hl1, hi1⟩ := row_ints w1 (Nat.le_refl len1)
  clear w1
  have HI1 := Lib.hid hi1
  have HG := Lib.hid w0
  generalize z1.take len1 = s at *
  clear hl1 hi1 w0
  have HSF := Lib.hid (few_small g)
  have HSM := Lib.hid (madeL_small s)
  have HSN := Lib.hid (show Small [] from ⟨by decide, fun i h => absurd h (by simp)⟩)
  go_enter Try.func3, Try.ntmps3
  go_wp2_with fail
  refine (awake_any _).mono ?_
  rintro e v1 ⟨rfl, hb⟩
  have HB1 := Lib.hid hb
  have HI2 := Lib.hid (HI1.out.keep hb)
  have HG2 := Lib.hid (HG.out.keep hb)
  clear hb HI1 HG
  go_wp2_with fail
  refine (few_any v1 _ g HG2.out).mono ?_
  rintro e v2 ⟨vf, rfl, ho, hb⟩
  have HF := Lib.hid ho
  have HB2 := Lib.hid (HB1.out.trans (hb.mono HB1.out.size))
  have HI3 := Lib.hid (HI2.out.keep hb)
  clear hb ho HI2 HG2 HB1
  go_wp2_with fail
  refine (tells_any v2 _ (fewL g) HF.out HSF.out).mono ?_
  rintro e v3 ⟨rfl, hb⟩
  have HB3 := Lib.hid (HB2.out.trans (hb.mono HB2.out.size))
  have HI4 := Lib.hid (HI3.out.keep hb)
  clear hb HI3 HB2 HF
  go_wp2_with fail
  refine (made_any v3 _ s HI4.out).mono ?_
  rintro e v4 ⟨vg, rfl, hog, hb⟩
  have HG4 := Lib.hid hog.grid
  have HB4 := Lib.hid (HB3.out.trans (hb.mono HB3.out.size))
  clear hb hog HI4 HB3
  go_wp2_with fail
  refine (tells_any v4 _ (madeL s) HG4.out HSM.out).mono ?_
  rintro e v5 ⟨rfl, hb⟩
  have HB5 := Lib.hid (HB4.out.trans (hb.mono HB4.out.size))
  clear hb HB4 HG4
  go_wp2_with fail
  refine (tells_any v5 _ [] (rows_none v5) HSN.out).mono ?_
  rintro e v6 ⟨rfl, hb⟩
  have HB6 := Lib.hid (HB5.out.trans (hb.mono HB5.out.size))
  clear hb HB5
  go_wp2
  go_ret
  exact ⟨rfl, HB6.out⟩

/-! ### THE ROW's STEP: WRITTEN OUT: LEAVE IT -/
set_option maxRecDepth 100000 in
theorem lifted (os : Os) (started : os.Started) (H : Type) (enc : TypeId × Value → H) :
    ReturnsInHanded {} Try.checked os 3 .any (Rows.graphTellsSpec.pre6 enc Try.prog Try.f3 Rows.graphTellsRow.domain false) (Rows.graphTellsSpec.post enc Try.prog Try.f3 false true false false) := by
  refine returnsInHanded_of_change (C := Try.checked) own started (by kernel_rfl) Try.func3
    (ChangeSpec.witness6 (enc := enc) (C := Try.checked) false ⟨#[], #[.slice none 0 0, .slice none 0 0], []⟩ 8 (by kernel_rfl) (by kernel_rfl) (by kernel_rfl) (by kernel_rfl)) ?_
  intro W base args ds gs before hval0 hW hcnd _
  have hval : ∀ (j : Nat) t v, Try.f3.params[j]? = some t → args[j]? = some v → Value.okWide Try.prog W .any base t v := hval0
  have hW' := hW
  obtain ⟨p, q, hA0, hV, rfl, hfz, hnd⟩ := hW
  have hA : DataW.TrodAll enc Try.prog W 0 (fun _ => true) true Try.f3.params.toList args.toList ds p := hA0
  rw [Try.params3] at hA hval
  obtain ⟨v0, vs0, d0, ds0, p0, q0, hargs, rfl, rfl, h0, r0⟩ := trodAll_cons hA
  obtain ⟨v1, vs1, d1, ds1, p1, q1, rfl, rfl, rfl, h1, r1⟩ := trodAll_cons r0
  obtain ⟨rfl, rfl, rfl⟩ := trodAll_nil r1
  obtain rfl : args = #[v0, v1] := by cases args; simp_all
  obtain ⟨rfl, rfl⟩ := trodVars_none hV
  obtain ⟨a0, len0, cap0, rfl⟩ := okWide_slice Try.underlying22 (hval 0 22 v0 rfl rfl)
  have k0 := h0
  have lt0 : ∀ x ∈ p0, x.block < W.heap.size := by obtain ⟨m, hm⟩ := k0; exact DataW.trod_lt m _ _ _ hm
  obtain ⟨g, w0⟩ : ∃ g, Grid W (.slice a0 len0 cap0) g := by
    obtain ⟨fuel, hf⟩ := h0
    exact open_grid hf
  obtain ⟨a1, len1, cap1, rfl⟩ := okWide_slice Try.underlying23 (hval 1 23 v1 rfl rfl)
  have k1 := h1
  have lt1 : ∀ x ∈ p1, x.block < W.heap.size := by obtain ⟨m, hm⟩ := k1; exact DataW.trod_lt m _ _ _ hm
  obtain ⟨z1, w1⟩ : ∃ zs, IsRow .i64 W a1 len1 cap1 zs := by
    obtain ⟨fuel, hf⟩ := h1
    rcases open_ints Try.underlying23 Try.underlying3 (by kernel_rfl) hf with ⟨hcs, _⟩ | ⟨x, l, c, zs, hcs, _, hl, hm, hz, _, hcell, hwz⟩
    · simp [Value.cells] at hcs
      obtain ⟨rfl, rfl, rfl⟩ := hcs
      exact ⟨[], .inl ⟨rfl, rfl, rfl, rfl⟩⟩
    · simp [Value.cells] at hcs
      obtain ⟨rfl, rfl, rfl⟩ := hcs
      exact ⟨zs, .inr ⟨_, rfl, hl, hm, by simpa using hz, hcell, hwz⟩⟩
  clear hA0 hval0
  refine (walk a0 len0 cap0 g a1 len1 cap1 z1 W w0 w1).mono fun e W' ⟨he, bel⟩ => ?_
  subst he
  exact ⟨_, rfl, _, _, _, [], _, [], hW', trodAll_mk1 (shut_bool Try.underlying4 _), (trodAll_cons_mk (Below.trod laidOut (by kernel_rfl) (of_decide_eq_true (by kernel_rfl)) k0 bel lt0) (trodAll_cons_mk (Below.trod laidOut (by kernel_rfl) (of_decide_eq_true (by kernel_rfl)) k1 bel lt1) trodAll_mk0)), rfl, bel.frame _, fun h => by cases h⟩

theorem over : Rows.graphTellsRow.holds Try.pinned (OpenSpec.ofChange Rows.graphTellsSpec) :=
  OpenClaim.holds_of_wide 3 Try.f3 rfl rfl rfl rfl rfl rfl rfl ⟨rfl, rfl, rfl, rfl, rfl⟩ rfl rfl rfl rfl rfl (by kernel_rfl) Try.func3 (by kernel_rfl)
    (of_decide_eq_true (by kernel_rfl)) (by unfold Func.isWrapper; first | (rw [if_pos (by decide +kernel)]; kernel_rfl) | (rw [if_neg (by decide +kernel)]; exact ⟨rfl, rfl⟩))
    (fun os started H enc _ => lifted os started H enc)

/-- ████ THE STATEMENT ████ -/
theorem proved : Rows.GraphTellsSaid := over
#print axioms proved
end Go.Proofs.Ythanbedmiaacdaa.graphTells
