/- A range over the edges of a graph: what the iterator hands over, and when it stops. -/
import Derived.Test.YtonheiaohgbbcaaGreatTidy
import Derived.RangeFuncNested
import Derived.RangeFuncBound
import Derived.RangeFuncCalls
import Derived.RangeFuncLeaves
import Derived.Shelf.Abstract
import Derived.Shelf.RegionOpen
import Derived.OwnWalkIn
import Derived.TacticsInMore
import Derived.LoopNIn
import Derived.LoopIn
namespace Go.Proofs.YtonheiaohgbbcaaGreat.Gc
open Go.ChangeShapes Go.WideShapes Go.ChangeAt Go.RowKit Go.Shelf Go.Proofs.YtonheiaohgbbcaaGreat.Mem Go.Proofs.YtonheiaohgbbcaaGreat.Gr Go.Proofs.YtonheiaohgbbcaaGreat.Gn
set_option linter.unusedVariables false
attribute [local go_sem] Oper.semAt_some

/-- What a round that goes on keeps: what lay below B, and block b. -/
def Kept (B b : Nat) (W W' : World) : Prop := ∀ k, (k < B ∨ k = b) → W'.heap[k]? = W.heap[k]?
theorem Kept.refl (B b : Nat) (W : World) : Kept B b W W := fun _ _ => rfl
theorem Kept.trans {B b : Nat} {X Y Z : World} (h : Kept B b X Y) (k : Kept B b Y Z) : Kept B b X Z := fun i hi => (k i hi).trans (h i hi)
theorem Kept.cell {B b : Nat} {W W' : World} (h : Kept B b W W') {p : Addr} (hp : p.block < B ∨ p.block = b) : W'.cell? p = W.cell? p := World.cell?_of_block (h _ hp)
theorem kept_b {B b : Nat} {w : World} (hB : B ≤ w.heap.size) (hb : b < w.heap.size) (W : World) (l : Nat) (o o' : Obj) (hl : w.heap.size ≤ l) (h : W.heap[l]? = some o) (_ : o.isCells = false) (_ : o.isWalk = false) : Kept B b W (W.putObj l o') :=
  fun k hk => World.putObj_heap_other (by omega)
theorem Below.kept {B b : Nat} {W W' : World} (h : Below B W W') (hb : b < B) : Kept B b W W' := fun k hk => h.block k (by omega)
theorem Kept.of_grown {B b : Nat} {W W' : World} {row : Option Nat} (h : W.grownBy W' row) (hB : B ≤ W.heap.size) (hb : b < W.heap.size) (hr : ∀ k, row = some k → B ≤ k ∧ k ≠ b) : Kept B b W W' :=
  fun k hk => h.block k (by omega) (fun e => by have := hr k e.symm; omega)

/-- An edge's ends are blocks. -/
abbrev Ed (n : Nat) := { p : Nat × Nat // p.1 < n ∧ p.2 < n }
abbrev encE {n : Nat} (x : Ed n) : Array Value := #[.int .i64 (x.1.1 : Int), .int .i64 (x.1.2 : Int)]
/-- The rows name blocks alone. -/
def Ok (T : G) : Prop := ∀ i (h : i < T.length), ∀ b ∈ T[i], b < T.length
theorem edgesTo_succ {T : G} {k : Nat} : edgesTo T (k + 1) = edgesTo T k ++ rowEdges T k := by
  unfold edgesTo
  rw [List.range_succ, List.map_append, List.flatten_append]
  simp
theorem rowEdges_at {T : G} {k : Nat} (h : k < T.length) : rowEdges T k = T[k].map fun b => (k, b) := by
  unfold rowEdges
  rw [List.getD_eq_getElem?_getD, List.getElem?_eq_getElem h]; rfl
theorem edgesTo_mono {T : G} {i k : Nat} (h : i ≤ k) : edgesTo T i <+: edgesTo T k := by
  induction k with
  | zero => obtain rfl : i = 0 := by omega
            exact List.prefix_rfl
  | succ k ih =>
    rw [edgesTo_succ]
    by_cases e : i = k + 1
    · subst e; rw [← edgesTo_succ]; exact List.prefix_rfl
    · exact (ih (by omega)).trans (List.prefix_append _ _)
theorem take_map_succ {l : List Nat} {k j : Nat} (h : j < l.length) : (l.take (j + 1)).map (fun b => (k, b)) = (l.take j).map (fun b => (k, b)) ++ [(k, l[j])] := by
  rw [List.take_succ_eq_append_getElem h, List.map_append]; rfl
theorem part_prefix {T : G} {k j : Nat} (h : k < T.length) : edgesTo T k ++ (T[k].take j).map (fun b => (k, b)) <+: edgesN T := by
  refine List.IsPrefix.trans ?_ (edgesTo_mono (T := T) (i := k + 1) (k := T.length) (by omega))
  rw [edgesTo_succ, rowEdges_at h]
  exact (List.prefix_append_right_inj _).2 (List.IsPrefix.map _ (List.take_prefix _ _))
theorem lii_len (T : G) : (lii T).length = T.length := by unfold lii; rw [List.length_map]
theorem li_len (l : List Nat) : (li l).length = l.length := by unfold li; rw [List.length_map]
theorem lii_at {T : G} {k : Nat} (h : k < T.length) (h1 : k < (lii T).length) : (lii T)[k] = li T[k] := at_of (by unfold lii; rw [List.getElem?_map, List.getElem?_eq_getElem h]; rfl) h1
theorem li_at {l : List Nat} {k : Nat} (h : k < l.length) (h1 : k < (li l).length) : (li l)[k] = (l[k] : Int) := at_of (by unfold li; rw [List.getElem?_map, List.getElem?_eq_getElem h]; rfl) h1
theorem li_snoc (l : List Nat) (b : Nat) : li (l ++ [b]) = li l ++ [(b : Int)] := by unfold li; rw [List.map_append]; rfl
theorem lii_set (R : G) (k : Nat) (l : List Nat) : lii (R.set k l) = (lii R).set k (li l) := by unfold lii; rw [List.map_set]
/-- A small graph of blocks in memory. -/
theorem grid_rows {w : World} {A : Option Addr} {n c : Nat} {T : G} (hg : Grid w (.slice A n c) (lii T)) (hs : Small (lii T)) :
    n = T.length ∧ T.length ≤ c ∧ c ≤ maxLen ∧ T.length ≤ 1000 ∧ ∀ k (h : k < T.length), ∃ ad u, A = some ad ∧ w.cell? (ad.add k) = some u ∧ Ints w u (li T[k]) ∧ T[k].length ≤ 1000 := by
  obtain ⟨A', ca, e, ha1, ha2, ha3⟩ := hg
  rw [lii_len] at ha1 e
  injection e with e1 e2 e3
  subst e1; subst e2; subst e3
  refine ⟨rfl, ha1, ha2, by have := hs.1; rw [lii_len] at this; exact this, fun k h => ?_⟩
  have h1 : k < (lii T).length := by rw [lii_len]; exact h
  obtain ⟨ad, u, e, h2, h3⟩ := ha3 k h1
  have h4 := hs.2 k h1
  rw [lii_at h h1] at h3 h4
  rw [li_len] at h4
  exact ⟨ad, u, e, h2, h3, h4⟩
set_option maxRecDepth 100000 in
set_option maxHeartbeats 2000000 in
theorem edges_stops (F : Fence) (n : Nat) (hf : F.fn 146) (hro : F.round = none) (hn : 1 ≤ n) (w0 w : World) (v : Value) (T : G) (b : Nat) (hg : Grid w0 v (lii T)) (hT : Ok T) (hs : Small (lii T))
    (hb0 : Below w0.heap.size w0 w) (hc : w.cell? ⟨b, 0, none⟩ = some v) :
    SeqStopsK F n Tryz.prog 146 #[.pointer (some ⟨b, 0, none⟩)] (encE (n := T.length)) (Kept w0.heap.size b)
      (fun xs => xs.map (·.1) = edgesN T) (fun pre => pre.map (·.1) <+: edgesN T) (edgesN T).length w := by
  intro l J Jx W hW hJ hJx hY h0
  obtain ⟨A, n0, ca, rfl⟩ : ∃ A n c, v = .slice A n c := by obtain ⟨A, c, e, _⟩ := hg; exact ⟨A, _, c, e⟩
  obtain ⟨rfl, ha1, ha2, hs1, hrow⟩ := grid_rows hg hs
  unfold maxLen at ha2
  have hbl := lt_of_cell hc
  have hbW : W.cell? ⟨b, 0, none⟩ = some (.slice A T.length ca) := by rw [hW.cell (p := ⟨b, 0, none⟩) hbl]; exact hc
  have hKW : ∀ k, k < w0.heap.size → W.heap[k]? = w0.heap[k]? := fun k hk => (hW.block k (Nat.lt_of_lt_of_le hk hb0.size)).trans (hb0.block k hk)
  have HA := Lib.hid hrow
  have HK := Lib.hid hKW
  have HY := Lib.hid hY
  have HO := Lib.hid hT
  clear hrow hKW hs hg hW hJ hJx hb0 hY hc hbl hT
  refine callsIn_of_wp Tryz.func146 rfl hf ?_ hro
  simp only [Tryz.ntmps146, List.size_toArray, List.length_cons, List.length_nil, Nat.reduceAdd, Nat.reduceSub, Array.replicate_succ, Array.replicate_zero, List.push_toArray, List.append_toArray, List.nil_append, List.cons_append]
  gi_wp2
  gi_loopw [9] (fun i wr => ∃ (k : Nat) (pre : List (Ed T.length)), k ≤ T.length ∧ i = .int .i64 k ∧ pre.map (·.1) = edgesTo T k ∧ J pre wr ∧ Kept w0.heap.size b W wr) (fun i _ => T.length - (intOf i).toNat)
  case atStart => exact ⟨0, [], by omega, rfl, rfl, h0, Kept.refl _ _ _⟩
  case round =>
    obtain ⟨k, pre, hk, rfl, hpre, hJs, hkp⟩ := hrel
    obtain ⟨wo, rfl⟩ : ∃ wo : World, wo = wr := ⟨_, rfl⟩
    have HP := Lib.hid hpre
    have HKp := Lib.hid hkp
    have HJ := Lib.hid hJs
    clear hpre hkp hJs
    by_cases hlt : k < T.length
    · obtain ⟨ad, u, rfl, h2, h3, h4⟩ := HA.out k hlt
      have h2' : wo.cell? (ad.add k) = some u := by
        rw [HKp.out.cell (Or.inl (lt_of_cell h2)), World.cell?_of_block (HK.out _ (lt_of_cell h2))]; exact h2
      have HT := Lib.hid (rowEdges_at hlt)
      have HPP := Lib.hid (fun j => part_prefix (T := T) (j := j) hlt)
      have HOK := Lib.hid (HO.out k hlt)
      generalize T[k] = row at *
      obtain ⟨C, cc, rfl, hr1, hr2, hr3⟩ := h3
      rw [li_len] at hr1
      unfold maxLen at hr2
      have HR := Lib.hid hr3
      clear hr3 h2
      rw [li_len] at h2'
      gi_wp2
      clear h2'
      gi_loopw [16] (fun i wr => ∃ (j : Nat) (pre : List (Ed T.length)), j ≤ row.length ∧ i = .int .i64 j ∧ pre.map (·.1) = edgesTo T k ++ (row.take j).map (fun b => (k, b)) ∧ J pre wr ∧ Kept w0.heap.size b W wr) (fun i _ => row.length - (intOf i).toNat)
      case atStart => exact ⟨0, pre, by omega, rfl, by rw [HP.out]; simp, HJ.out, HKp.out⟩
      case round =>
        obtain ⟨j, pre2, hj, rfl, hpre, hJs, hkp⟩ := hrel
        by_cases hlt2 : j < row.length
        · have hj1 : j < (li row).length := by rw [li_len]; exact hlt2
          obtain ⟨cd, rfl, hx⟩ := HR.out j hj1
          have hx' : wr.cell? (cd.add j) = some (.int .i64 (row[j] : Nat)) := by
            rw [hkp.cell (Or.inl (lt_of_cell hx)), World.cell?_of_block (HK.out _ (lt_of_cell hx)), hx, li_at hlt2 hj1]
          have HTK := Lib.hid (take_map_succ (k := k) hlt2)
          have hxl : row[j] < T.length := HOK.out _ (List.getElem_mem hlt2)
          clear hx
          generalize row[j] = x at *
          have hsnoc : (pre2 ++ [(⟨(k, x), hlt, hxl⟩ : Ed T.length)]).map (·.1) = edgesTo T k ++ (row.take (j + 1)).map (fun b => (k, b)) := by
            rw [List.map_append, hpre, HTK.out, List.append_assoc]; rfl
          have hl2 : pre2.length < (edgesN T).length := by
            have h5 := (HPP.out (j + 1)).length_le
            rw [← hsnoc, List.length_map, List.length_append, List.length_singleton] at h5
            omega
          obtain ⟨fn, tmps, assign, body, hy, hR⟩ := HY.out pre2 ⟨(k, x), hlt, hxl⟩ wr hJs hl2
          dsimp only [encE] at hy
          have HS := Lib.hid hsnoc
          have HKp2 := Lib.hid hkp
          clear hpre hJs hkp hsnoc
          gi_wp2
          refine hR.mono ?_
          rintro e W3 (⟨rfl, hJ3, hk3⟩ | ⟨rfl, hJx3⟩)
          · gi_wp2
            go_roundw
            case rel => exact ⟨j + 1, _, by omega, by go_num, HS.out, hJ3, HKp2.out.trans hk3⟩
            case measure => simp [intOf]; omega
          · gi_wp2
            refine bodyPost_ret (results_none rfl _ _ _) rfl ?_
            exact ⟨⟨_, rfl⟩, .inr ⟨_, by rw [HS.out]; exact HPP.out (j + 1), hJx3⟩⟩
        · obtain rfl : j = row.length := by omega
          have HS := Lib.hid (show pre2.map (·.1) = edgesTo T (k + 1) by rw [hpre, List.take_length, edgesTo_succ, HT.out])
          have HKp2 := Lib.hid hkp
          have HJ2 := Lib.hid hJs
          clear hpre hJs hkp
          gi_wp2
          go_roundw
          case rel => exact ⟨k + 1, _, by omega, by go_num, HS.out, HJ2.out, HKp2.out⟩
          case measure => simp [intOf]; omega
    · obtain rfl : k = T.length := by omega
      gi_wp2
      go_end0
      exact ⟨⟨_, rfl⟩, .inl ⟨_, HP.out, HJ.out⟩⟩
end Go.Proofs.YtonheiaohgbbcaaGreat.Gc
