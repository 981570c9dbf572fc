/- What is proved: a block put on an edge changes nothing of who dominates whom among the others (law GraphOf). -/
import Derived.Test.YthanbedmiaacdaaRows
import Derived.Test.YthanbedmiaacdaaOfC
import Derived.Test.YthanbedmiaacdaaAwake
import Derived.WalkKit
import Derived.ProofKit
import Derived.OpenShut
import Derived.ShutString
import Derived.ChangeOld
import Derived.Below
import Derived.Deep.Matrix

namespace Go.Proofs.Ythanbedmiaacdaa.graphOf
open Go.ChangeShapes Go.WideShapes Go.ChangeAt Go.RowKit
open Go.ChangeMaps (open_string shut_string)
set_option linter.unusedVariables false
set_option linter.constructorNameAsVariable false

theorem own : ownKnob Try.prog.godebug = none := by kernel_rfl
theorem laidOut : laidOutB Try.prog = true := by kernel_rfl

/-- WHAT THE WALK IS TOLD OF A SLICE OF INTEGERS THAT CAME IN: it is nil; or it leads to a row of 'cap' cells, the numbers 'zs' (the first 'len' are its elements, the rest its spare room), each fitting its kind. -/
def IsRow (k : IntKind) (w : World) (a : Option Addr) (len cap : Nat) (zs : List Int) : Prop :=
  (a = none ∧ len = 0 ∧ cap = 0 ∧ zs = []) ∨
  ∃ x, a = some x ∧ len ≤ cap ∧ cap ≤ maxLen ∧ zs.length = cap ∧ (∀ i, i < zs.length → w.cell? (x.add i) = some (.int k (zs.getD i 0))) ∧ ∀ n ∈ zs, (Lit.int k n).wf = true

open Go.Proofs.Ythanbedmiaacdaa.Mem Go.Proofs.Ythanbedmiaacdaa.Gr Go.Proofs.Ythanbedmiaacdaa.Gn Go.Proofs.Ythanbedmiaacdaa.Gc
open Go.Proofs.Ythanbedmiaacdaa.Mem Go.Proofs.Ythanbedmiaacdaa.Gr Go.Proofs.Ythanbedmiaacdaa.Gn Go.Proofs.Ythanbedmiaacdaa.Gc Go.Proofs.Ythanbedmiaacdaa.Br Go.Proofs.Ythanbedmiaacdaa.Rp
/-- A block of which just the row that its term names is other than made. -/
def blk (u : Value) : List Value := [.slice none 0 0, .slice none 0 0, .int .i64 3, .slice none 0 0, u, .int .i32 0]
theorem blk_at : ∀ (us : List Value) (i j : Nat) (u : Value), us[i]? = some u → j < 6 → (us.map blk).flatten[i * 6 + j]? = (blk u)[j]?
  | [], i, j, u, h, _ => by simp at h
  | x :: us, 0, j, u, h, hj => by
    simp at h
    subst h
    rw [List.map_cons, List.flatten_cons, Nat.zero_mul, Nat.zero_add, List.getElem?_append_left (by exact hj)]
  | x :: us, i + 1, j, u, h, hj => by
    rw [List.map_cons, List.flatten_cons, List.getElem?_append_right (by show (6 : Nat) ≤ _; omega), show (i + 1) * 6 + j - (blk x).length = i * 6 + j from by show (i + 1) * 6 + j - 6 = _; omega]
    exact blk_at us i j u (by simpa using h) hj
theorem info_block : (Try.prog.info? 37).map (fun i => (i.zero, i.size, i.bytes)) = some (some (.agg #[.slice none 0 0, .slice none 0 0, .int .i64 0, .slice none 0 0, .slice none 0 0, .int .i32 0]), 6, 112) := by kernel_rfl
/-- The first k blocks, built by the call in a row of its own, and held by the function at fb. -/
def OfTo (B : Nat) (w0 : World) (g : List (List Int)) (fb k : Nat) (w : World) : Prop :=
  ∃ (vB : Value) (us : List Value), Str w fb 31 [.int .i64 0, vB] ∧ us.length = k ∧ w.ownsRow B 37 6 vB k (us.map blk).flatten ∧
    ∀ i (h : i < g.length), i < k → ∃ p c, us[i]? = some (.slice p (g[i].take 5).length c) ∧ Ints w0 (.slice p (g[i].take 5).length c) (g[i].take 5)
theorem blk_new {w : World} {q : Nat} {u : Value} {t : TypeId} (h : q = w.heap.size) : ∀ i y, (blk u)[i]? = some y → (w.alloc (.cells #[.slice none 0 0, .slice none 0 0, .int .i64 3, .slice none 0 0, u, .int .i32 0] t)).cell? ((⟨q, 0, none⟩ : Addr).add i) = some y := by
  intro i y hj
  subst h
  rw [at_add]
  have h : Str (w.alloc (.cells #[.slice none 0 0, .slice none 0 0, .int .i64 3, .slice none 0 0, u, .int .i32 0] t)) w.heap.size t (blk u) := World.alloc_heap_new w _
  exact (h.cell i).trans hj
theorem blk_one {A : Option Addr} (n : Nat) {c : Nat} : ∀ x ∈ blk (.slice A n c), x.oneCell' = true := by
  intro x hx
  unfold blk at hx
  simp at hx
  rcases hx with rfl | rfl | rfl | rfl | rfl <;> rfl
theorem ofTo_step {B : Nat} {w0 w6 : World} {g : List (List Int)} {fb k n c : Nat} {vB v' : Value} {R : Option Addr} {us : List Value} (hs : Str w6 fb 31 [.int .i64 0, vB])
    (ho : w6.ownsRow B 37 6 v' (k + 1) ((us ++ [Value.slice R n c]).map blk).flatten) (hl : us.length = k)
    (hr : ∀ i (h : i < g.length), i < k → ∃ p c, us[i]? = some (.slice p (g[i].take 5).length c) ∧ Ints w0 (.slice p (g[i].take 5).length c) (g[i].take 5)) (hk : k < g.length) (hu : Ints w0 (.slice R n c) (g[k].take 5)) :
    OfTo B w0 g fb (k + 1) (w6.setCell ⟨fb, 1, none⟩ v') := by
  refine ⟨v', us ++ [Value.slice R n c], hs.set 1 v', by rw [List.length_append, hl]; rfl, World.ownsRow.kept ho (setCell_grownBy _ _ _) (Or.inr fun e => hs.not_row (by decide) ho e.symm), fun i hi hik => ?_⟩
  by_cases e : i < k
  · obtain ⟨p, c, e2, h⟩ := hr i hi e
    exact ⟨p, c, by rw [List.getElem?_append_left (by omega)]; exact e2, h⟩
  · obtain rfl : i = k := by omega
    have hn : n = (g[i].take 5).length := by obtain ⟨_, _, e, _⟩ := hu; injection e
    subst hn
    exact ⟨R, c, by rw [List.getElem?_append_right (by omega), hl]; simp, hu⟩
def fewL (g : List (List Int)) : List (List Int) := (g.take 12).map (·.take 5)
theorem few_len (g : List (List Int)) : (fewL g).length = min 12 g.length := by unfold fewL; rw [List.length_map, List.length_take]
theorem few_at {g : List (List Int)} {k : Nat} (h : k < (fewL g).length) (hk : k < g.length) : (fewL g)[k] = g[k].take 5 := by
  have h12 : k < 12 := by rw [few_len] at h; omega
  have e2 : (fewL g)[k]? = some (g[k].take 5) := by
    unfold fewL
    rw [List.getElem?_map, List.getElem?_take_of_lt h12, List.getElem?_eq_getElem hk]; rfl
  exact (List.getElem?_eq_some_iff.1 e2).2
theorem few_small (g : List (List Int)) : Small (fewL g) := by
  refine ⟨by rw [few_len]; omega, fun i hi => ?_⟩
  have hm : (fewL g)[i] ∈ (g.take 12).map (·.take 5) := List.getElem_mem hi
  obtain ⟨l, _, e⟩ := List.mem_map.1 hm
  rw [← e, List.length_take]; omega
theorem OfTo.blocks {B : Nat} {w0 w : World} {g : List (List Int)} {fb k : Nat} (h : OfTo B w0 g fb k w) (hb : Below w0.heap.size w0 w) (hk : k = (fewL g).length) :
    ∃ A b c us, Str w fb 31 [.int .i64 0, .slice A (fewL g).length c] ∧ (0 < (fewL g).length → A = some ⟨b, 0, none⟩) ∧ (fewL g).length ≤ c ∧ Blocks w b us (fewL g) := by
  obtain ⟨vB, us, h1, h2, h3, h4⟩ := h
  have hfl := few_len g
  rcases h3.2 with ⟨e, h0⟩ | ⟨b, cap, cur, e, _, hg, hn, hm, _⟩
  · refine ⟨none, 0, 0, us, by rw [← hk, h0, ← e]; exact h1, fun h => by omega, by omega, by omega, fun i hi => by omega⟩
  · refine ⟨_, b, cap, us, by rw [← hk, ← e]; exact h1, fun _ => rfl, by omega, by omega, fun i hi => ?_⟩
    have hig : i < g.length := by omega
    obtain ⟨p, c, eu, hu⟩ := h4 i hig (by omega)
    rw [few_at hi hig]
    have hc : ∀ j u, j < 6 → (blk (.slice p (g[i].take 5).length c))[j]? = some u → w.cell? ⟨b, i * 6 + j, none⟩ = some u := fun j u hj e2 => by
      have := World.ownsRow.cells h3 (g := b) (by rw [e]; rfl) (i * 6 + j) u (by rw [blk_at us i j _ eu hj]; exact e2)
      rw [at_add] at this; exact this
    exact ⟨_, _, _, _, _, _, _, _, _, _, p, c, _, eu, hu.keep hb, hc 0 _ (by decide) rfl, hc 1 _ (by decide) rfl, hc 2 _ (by decide) rfl, hc 3 _ (by decide) rfl, hc 4 _ (by decide) rfl, hc 5 _ (by decide) rfl⟩
theorem cells23 : Try.prog.cellsOf 23 = 1 := by kernel_rfl
theorem cells3 : Try.prog.cellsOf 3 = 1 := by kernel_rfl
/-- Rows of numbers that came in. -/
theorem open_grid {H : Type} {enc : TypeId × Value → H} {W : World} {base : Nat} {held : Bool} {fuel : Nat} {a : Option Addr} {len cap : Nat} {x : DataW H × List MemPlace}
    (h : DataW.trod enc Try.prog W base (fun _ => true) held fuel 22 [.slice a len cap] = some x) : ∃ g : List (List Int), Grid W (.slice a len cap) g := by
  rcases Go.Deep.open_int_rows Try.underlying22 Try.underlying23 Try.underlying3 cells23 cells3 h with ⟨e, _⟩ | ⟨b, l, c, A, L, C, Z, e, _, hl, hm, _, hr⟩
  · injection e with e _
    injection e with e1 e2 e3
    subst e1 e2 e3
    exact ⟨[], rows_none W⟩
  · injection e with e _
    injection e with e1 e2 e3
    subst e1 e2 e3
    refine ⟨(List.range len).map fun r => (Z r).take (L r), ⟨some b, cap, by rw [List.length_map, List.length_range], by rw [List.length_map, List.length_range]; exact hl, hm, fun k hk => ?_⟩⟩
    rw [List.length_map, List.length_range] at hk
    obtain ⟨q1, q2, q3, q4, _, q6, q7⟩ := hr k (by omega)
    refine ⟨b, _, rfl, q1, ?_⟩
    rw [List.getElem_map, List.getElem_range]
    have hz : ((Z k).take (L k)).length = L k := by rw [List.length_take, q4]; omega
    refine ⟨A k, C k, by rw [hz], by rw [hz]; exact q2, q3, fun j hj => ?_⟩
    rw [hz] at hj
    cases ha : A k with
    | none => have := q6 ha; omega
    | some a' =>
      refine ⟨a', rfl, ?_⟩
      rw [(q7 a' ha).2 j (by omega), List.getElem_take, List.getD_eq_getElem?_getD, List.getElem?_eq_getElem (by omega)]; rfl
set_option maxRecDepth 100000 in
set_option maxHeartbeats 1000000 in
theorem walk (a0 : Option Addr) (len0 cap0 : Nat) (g : List (List Int)) (w : World) (w0 : Grid w (.slice a0 len0 cap0) g) :
    Calls Try.prog 4 #[.slice a0 len0 cap0] w fun e w' => e = .returned (.bool true) ∧ Below w.heap.size w w' := by
  have HG := Lib.hid w0
  obtain ⟨A, ca, e, ha1, ha2, ha3⟩ := w0
  injection e with e1 e2 e3
  subst e1 e2 e3
  unfold maxLen at ha2
  clear ha3
  obtain ⟨i0, hi, hz0, hz1, hz2⟩ := info_parts info_block
  have HI := Lib.hid hi
  have HZ0 := Lib.hid hz0
  have HZ1 := Lib.hid hz1
  have HZ2 := Lib.hid hz2
  clear hi hz0 hz1 hz2
  go_enter Try.func4, Try.ntmps4
  go_wp2_with fail
  refine (awake_any _).mono ?_
  rintro e v1 ⟨rfl, hb1⟩
  have HB1 := Lib.hid hb1
  have HG1 := Lib.hid (HG.out.keep hb1)
  clear hb1 HG
  go_upto_region 3 with (fail)
  obtain ⟨V, hV⟩ : ∃ V, v1.alloc (.cells #[.int .i64 0, .slice none 0 0] 31) = V := ⟨_, rfl⟩
  rw [hV]
  have hbV : Below v1.heap.size v1 V := by rw [← hV]; exact (Below.refl _ _).alloc (Nat.le_refl _) _
  have hsV : Str V v1.heap.size 31 [.int .i64 0, .slice none 0 0] := by rw [← hV]; exact World.alloc_heap_new v1 _
  have HBV := Lib.hid hbV
  have HSV := Lib.hid hsV
  clear hV hbV hsV
  go_wp2_with fail
  go_loopw [5] (fun i wr => ∃ k : Nat, k ≤ g.length ∧ k ≤ 12 ∧ i = .int .i64 k ∧ OfTo v1.heap.size v1 g v1.heap.size k wr ∧ Below v1.heap.size v1 wr) (fun i _ => g.length - (intOf i).toNat)
  case atStart => exact ⟨0, by omega, by omega, rfl, ⟨_, [], HSV.out, rfl, World.ownsRow_nil _ _ _ _, fun i _ h => by omega⟩, HBV.out⟩
  case round =>
    obtain ⟨k, hk, hk12, rfl, ho, hb⟩ := hrel
    obtain ⟨wo, rfl⟩ : ∃ wo : World, wo = wr := ⟨_, rfl⟩
    have HO := Lib.hid ho
    have HB := Lib.hid hb
    by_cases hdone : k < g.length ∧ k < 12
    · obtain ⟨hlt, h12⟩ := hdone
      obtain ⟨A', ca', e, _, _, hrw⟩ := HG1.out
      obtain ⟨ad, u, e2, hcw, hu⟩ := hrw k hlt
      have HU := Lib.hid hu
      obtain ⟨R, cr, rfl, hr1, hr2, hr3⟩ := hu
      injection e with e e3 e4
      subst e
      subst e2
      have hcu := cell_keep hb (Nat.le_refl _) hcw
      obtain ⟨vB, us, hs, hul, hvs, hrows⟩ := ho
      obtain ⟨Ao, co, rfl⟩ := own_form hvs
      have HV := Lib.hid hvs
      have HRX := Lib.hid hrows
      have HL := Lib.hid hul
      have HSB := Lib.hid hs
      have kB : wo.cell? ⟨v1.heap.size, 1, none⟩ = some (.slice Ao k co) := hs.cell 1
      have HU5 := Lib.hid (show ∀ n : Nat, n = min g[k].length 5 → Ints v1 (.slice R n cr) (g[k].take 5) from fun n hn => by
        obtain ⟨A', c', e, q1, q2, q3⟩ := HU.out
        injection e with e1 e2 e3
        subst e1 e3
        refine ⟨_, _, by rw [List.length_take, Nat.min_comm, ← hn], by rw [List.length_take]; omega, q2, fun j hj => ?_⟩
        rw [List.length_take] at hj
        obtain ⟨x, e, h⟩ := q3 j (by omega)
        exact ⟨x, e, by rw [List.getElem_take]; exact h⟩)
      clear hb hs hul hvs hrows hr3 hrw e3 e4
      unfold maxLen at hr2
      obtain ⟨n, hn⟩ : ∃ n, g[k].length = n := ⟨_, rfl⟩
      rw [hn] at hcu hr1 HU5 hcw
      have HCW := Lib.hid hcw
      clear hn hcw
      by_cases h5 : n ≤ 5
      · have h5a : ¬ ((5 : Int) < (n : Int)) := by omega
        have h5b : (n : Int) ≤ (cr : Int) := by omega
        go_wp2_with fail
        refine region_held_wp (fun w' => w'.cell? (ad.add k) = some (.slice R n cr) ∧ w'.cell? ⟨v1.heap.size, 1, none⟩ = some (.slice Ao k co)) [0, 1, 2, 3, 4, 5, 6, 7, 8, 9, 10, 11, 12, 13, 14, 17] [0, 1, 2, 3, 4, 5, 6, 7, 8, 9, 10, 11, 12, 13, 14, 15, 16, 17, 18] (by kernel_rfl) (by kernel_rfl) (by kernel_rfl) rfl ?apan ⟨hcu, kB⟩ ?_
        case apan => intro c a d v w h; cases d <;> exact h
        refine walkH_still _ ?a0 rfl rfl rfl ?ay0 ?_
        case ay0 => intro w hS; obtain ⟨hS, hS2⟩ := hS; go_simp; first | done | with_reducible rfl
        simp only [Act.put]
        refine walkH_still _ ?a1 rfl rfl rfl ?ay1 ?_
        case ay1 => intro w hS; obtain ⟨hS, hS2⟩ := hS; go_simp; first | done | with_reducible rfl
        simp only [Act.put]
        refine walkH_still _ ?a2 rfl rfl rfl ?ay2 ?_
        case ay2 => intro w hS; obtain ⟨hS, hS2⟩ := hS; go_simp; first | done | with_reducible rfl
        simp only [Act.put]
        refine walkH_still _ ?a3 rfl rfl rfl ?ay3 ?_
        case ay3 => intro w hS; obtain ⟨hS, hS2⟩ := hS; go_simp; first | done | with_reducible rfl
        simp only [Act.put]
        refine walkH_still _ ?a4 rfl rfl rfl ?ay4 ?_
        case ay4 => intro w hS; obtain ⟨hS, hS2⟩ := hS; go_simp; first | done | with_reducible rfl
        simp only [Act.put]
        refine walkH_still _ ?a5 rfl rfl rfl ?ay5 ?_
        case ay5 => intro w hS; obtain ⟨hS, hS2⟩ := hS; go_simp; first | done | with_reducible rfl
        simp only [Act.put]
        refine walkH_still _ ?a6 rfl rfl rfl ?ay6 ?_
        case ay6 => intro w hS; obtain ⟨hS, hS2⟩ := hS; go_simp; first | done | with_reducible rfl
        simp only [Act.put]
        refine walkH_still _ ?a7 rfl rfl rfl ?ay7 ?_
        case ay7 => intro w hS; obtain ⟨hS, hS2⟩ := hS; go_simp; first | done | with_reducible rfl
        simp only [Act.put]
        refine walkH_still _ ?a8 rfl rfl rfl ?ay8 ?_
        case ay8 => intro w hS; obtain ⟨hS, hS2⟩ := hS; go_simp; first | done | with_reducible rfl
        simp only [Act.put]
        refine walkH_still _ ?a9 rfl rfl rfl ?ay9 ?_
        case ay9 => intro w hS; obtain ⟨hS, hS2⟩ := hS; go_simp; first | done | with_reducible rfl
        simp only [Act.put]
        refine walkH_still _ ?a10 rfl rfl rfl ?ay10 ?_
        case ay10 => intro w hS; obtain ⟨hS, hS2⟩ := hS; go_simp; first | done | with_reducible rfl
        simp only [Act.put]
        refine walkH_still _ (.int .i64 (n : Int)) rfl rfl rfl ?ax11 ?_
        case ax11 => intro w hS; obtain ⟨hS, hS2⟩ := hS; go_simp; first | done | (intro h; omega) | omega
        simp only [Act.put]
        refine walkH_still _ (.slice R n cr) rfl rfl rfl ?ax12 ?_
        case ax12 => intro w hS; obtain ⟨hS, hS2⟩ := hS; go_simp; first | done | with_reducible rfl | (rw [if_pos ⟨by omega, h5b⟩]; first | done | rfl | simp)
        simp only [Act.put]
        refine walkH_still _ ?a13 rfl rfl rfl ?ay13 ?_
        case ay13 => intro w hS; obtain ⟨hS, hS2⟩ := hS; go_simp; first | done | with_reducible rfl
        simp only [Act.put]
        refine walkH_still _ ?a14 rfl rfl rfl ?ay14 ?_
        case ay14 => intro w hS; obtain ⟨hS, hS2⟩ := hS; go_simp; first | done | with_reducible rfl
        simp only [Act.put]
        simp only [List.setIfInBounds_toArray, List.set_cons_zero, List.set_cons_succ]
        refine walkH_does _ rfl rfl ?_
        go_wp2_with fail
        refine ⟨⟨cell_keep ((Below.refl _ _).alloc (Nat.le_refl _) _) (Nat.le_refl _) hcu, cell_keep ((Below.refl _ _).alloc (Nat.le_refl _) _) (Nat.le_refl _) kB⟩, ?_⟩
        refine walkH_does _ rfl rfl ?_
        go_loud (refine wpList_append_own _ rfl _ _ 29 rfl v1.heap.size 37 i0 (.agg #[.slice none 0 0, .slice none 0 0, .int .i64 0, .slice none 0 0, .slice none 0 0, .int .i32 0]) 6 112 Try.underlying29 HI.out HZ0.out HZ1.out HZ2.out rfl (by decide) _ _ _ rfl (HV.out.drew.alloc _) ⟨_, 0, none⟩ 1 1 (blk (.slice R n cr)) rfl rfl (blk_new rfl) (blk_one _) (by unfold maxLen; omega) (by omega) (by have := HB.out.size; simp; omega) ?_)
        intro v' w6 hown' hgrow _
        obtain ⟨A6, c6, rfl⟩ := own_form hown'
        have hgr : (wo.alloc (.cells #[.slice none 0 0, .slice none 0 0, .int .i64 3, .slice none 0 0, .slice R n cr, .int .i32 0] 37)).drew.grownBy w6 (Value.slice Ao k co).ownBlock := hgrow
        have hs6 : Str w6 v1.heap.size 31 [.int .i64 0, .slice Ao k co] := Str.kept (w := (wo.alloc (.cells #[.slice none 0 0, .slice none 0 0, .int .i64 3, .slice none 0 0, .slice R n cr, .int .i32 0] 37)).drew) (show Str (wo.alloc (.cells #[.slice none 0 0, .slice none 0 0, .int .i64 3, .slice none 0 0, .slice R n cr, .int .i32 0] 37)) v1.heap.size 31 [.int .i64 0, .slice Ao k co] from HSB.out.below ((Below.refl _ _).alloc (Nat.le_refl _) _)) hgr (HSB.out.not_row (by decide) HV.out)
        have kB6 : w6.cell? ⟨v1.heap.size, 1, none⟩ = some (.slice Ao k co) := hs6.cell 1
        have kf6 := hs6.frozen 1
        have hb6 : Below v1.heap.size v1 w6 := (show Below v1.heap.size v1 (wo.alloc (.cells #[.slice none 0 0, .slice none 0 0, .int .i64 3, .slice none 0 0, .slice R n cr, .int .i32 0] 37)).drew from (HB.out.alloc HB.out.size _).drew).grown hgr (by have := HB.out.size; simp; omega) (fun j hj => (HV.out.lt j hj).1)
        have HB6 := Lib.hid hb6
        have hc6 := cell_keep hb6 (Nat.le_refl _) HCW.out
        have HS6 := Lib.hid hs6
        have HO6 := Lib.hid (show w6.ownsRow v1.heap.size 37 6 (.slice A6 (k + 1) c6) (k + 1) ((us ++ [Value.slice R n cr]).map blk).flatten by
          rw [List.map_append, List.flatten_append]; exact hown')
        have HU6 := Lib.hid (HU5.out n (by omega))
        clear hown' hgrow hgr hb6 hs6 hcu kB
        go_wp2
        refine walkH_still _ ?a17 rfl rfl rfl ?ay17 ?_
        case ay17 => intro w hS; obtain ⟨hS, hS2⟩ := hS; go_simp; first | done | with_reducible rfl
        simp only [Act.put]
        refine walkH_does _ rfl rfl ?_
        go_wp2
        refine walkH_nil ?_
        go_wp2
        go_roundw
        case rel => exact ⟨k + 1, by omega, by omega, by go_num, ofTo_step HS6.out HO6.out HL.out HRX.out hlt HU6.out, HB6.out.setCell (p := ⟨v1.heap.size, 1, none⟩) (Nat.le_refl _) _⟩
        case measure => simp [intOf]; omega
      · have h5a : (5 : Int) < (n : Int) := by omega
        have h5b : (5 : Int) ≤ (cr : Int) := by omega
        go_wp2_with fail
        refine region_held_wp (fun w' => w'.cell? (ad.add k) = some (.slice R n cr) ∧ w'.cell? ⟨v1.heap.size, 1, none⟩ = some (.slice Ao k co)) [0, 1, 2, 3, 4, 5, 6, 7, 8, 9, 10, 11, 12, 13, 14, 17] [0, 1, 2, 3, 4, 5, 6, 7, 8, 9, 10, 11, 12, 13, 14, 15, 16, 17, 18] (by kernel_rfl) (by kernel_rfl) (by kernel_rfl) rfl ?bpan ⟨hcu, kB⟩ ?_
        case bpan => intro c a d v w h; cases d <;> exact h
        refine walkH_still _ ?b0 rfl rfl rfl ?by0 ?_
        case by0 => intro w hS; obtain ⟨hS, hS2⟩ := hS; go_simp; first | done | with_reducible rfl
        simp only [Act.put]
        refine walkH_still _ ?b1 rfl rfl rfl ?by1 ?_
        case by1 => intro w hS; obtain ⟨hS, hS2⟩ := hS; go_simp; first | done | with_reducible rfl
        simp only [Act.put]
        refine walkH_still _ ?b2 rfl rfl rfl ?by2 ?_
        case by2 => intro w hS; obtain ⟨hS, hS2⟩ := hS; go_simp; first | done | with_reducible rfl
        simp only [Act.put]
        refine walkH_still _ ?b3 rfl rfl rfl ?by3 ?_
        case by3 => intro w hS; obtain ⟨hS, hS2⟩ := hS; go_simp; first | done | with_reducible rfl
        simp only [Act.put]
        refine walkH_still _ ?b4 rfl rfl rfl ?by4 ?_
        case by4 => intro w hS; obtain ⟨hS, hS2⟩ := hS; go_simp; first | done | with_reducible rfl
        simp only [Act.put]
        refine walkH_still _ ?b5 rfl rfl rfl ?by5 ?_
        case by5 => intro w hS; obtain ⟨hS, hS2⟩ := hS; go_simp; first | done | with_reducible rfl
        simp only [Act.put]
        refine walkH_still _ ?b6 rfl rfl rfl ?by6 ?_
        case by6 => intro w hS; obtain ⟨hS, hS2⟩ := hS; go_simp; first | done | with_reducible rfl
        simp only [Act.put]
        refine walkH_still _ ?b7 rfl rfl rfl ?by7 ?_
        case by7 => intro w hS; obtain ⟨hS, hS2⟩ := hS; go_simp; first | done | with_reducible rfl
        simp only [Act.put]
        refine walkH_still _ ?b8 rfl rfl rfl ?by8 ?_
        case by8 => intro w hS; obtain ⟨hS, hS2⟩ := hS; go_simp; first | done | with_reducible rfl
        simp only [Act.put]
        refine walkH_still _ ?b9 rfl rfl rfl ?by9 ?_
        case by9 => intro w hS; obtain ⟨hS, hS2⟩ := hS; go_simp; first | done | with_reducible rfl
        simp only [Act.put]
        refine walkH_still _ ?b10 rfl rfl rfl ?by10 ?_
        case by10 => intro w hS; obtain ⟨hS, hS2⟩ := hS; go_simp; first | done | with_reducible rfl
        simp only [Act.put]
        refine walkH_still _ (.int .i64 5) rfl rfl rfl ?bx11 ?_
        case bx11 => intro w hS; obtain ⟨hS, hS2⟩ := hS; go_simp; first | done | rw [if_pos (by omega)] | omega
        simp only [Act.put]
        refine walkH_still _ (.slice R 5 cr) rfl rfl rfl ?bx12 ?_
        case bx12 => intro w hS; obtain ⟨hS, hS2⟩ := hS; go_simp; first | done | with_reducible rfl | (rw [if_pos ⟨by omega, h5b⟩]; first | done | rfl | simp)
        simp only [Act.put]
        refine walkH_still _ ?b13 rfl rfl rfl ?by13 ?_
        case by13 => intro w hS; obtain ⟨hS, hS2⟩ := hS; go_simp; first | done | with_reducible rfl
        simp only [Act.put]
        refine walkH_still _ ?b14 rfl rfl rfl ?by14 ?_
        case by14 => intro w hS; obtain ⟨hS, hS2⟩ := hS; go_simp; first | done | with_reducible rfl
        simp only [Act.put]
        simp only [List.setIfInBounds_toArray, List.set_cons_zero, List.set_cons_succ]
        refine walkH_does _ rfl rfl ?_
        go_wp2_with fail
        refine ⟨⟨cell_keep ((Below.refl _ _).alloc (Nat.le_refl _) _) (Nat.le_refl _) hcu, cell_keep ((Below.refl _ _).alloc (Nat.le_refl _) _) (Nat.le_refl _) kB⟩, ?_⟩
        refine walkH_does _ rfl rfl ?_
        go_loud (refine wpList_append_own _ rfl _ _ 29 rfl v1.heap.size 37 i0 (.agg #[.slice none 0 0, .slice none 0 0, .int .i64 0, .slice none 0 0, .slice none 0 0, .int .i32 0]) 6 112 Try.underlying29 HI.out HZ0.out HZ1.out HZ2.out rfl (by decide) _ _ _ rfl (HV.out.drew.alloc _) ⟨_, 0, none⟩ 1 1 (blk (.slice R 5 cr)) rfl rfl (blk_new rfl) (blk_one _) (by unfold maxLen; omega) (by omega) (by have := HB.out.size; simp; omega) ?_)
        intro v' w6 hown' hgrow _
        obtain ⟨A6, c6, rfl⟩ := own_form hown'
        have hgr : (wo.alloc (.cells #[.slice none 0 0, .slice none 0 0, .int .i64 3, .slice none 0 0, .slice R 5 cr, .int .i32 0] 37)).drew.grownBy w6 (Value.slice Ao k co).ownBlock := hgrow
        have hs6 : Str w6 v1.heap.size 31 [.int .i64 0, .slice Ao k co] := Str.kept (w := (wo.alloc (.cells #[.slice none 0 0, .slice none 0 0, .int .i64 3, .slice none 0 0, .slice R 5 cr, .int .i32 0] 37)).drew) (show Str (wo.alloc (.cells #[.slice none 0 0, .slice none 0 0, .int .i64 3, .slice none 0 0, .slice R 5 cr, .int .i32 0] 37)) v1.heap.size 31 [.int .i64 0, .slice Ao k co] from HSB.out.below ((Below.refl _ _).alloc (Nat.le_refl _) _)) hgr (HSB.out.not_row (by decide) HV.out)
        have kB6 : w6.cell? ⟨v1.heap.size, 1, none⟩ = some (.slice Ao k co) := hs6.cell 1
        have kf6 := hs6.frozen 1
        have hb6 : Below v1.heap.size v1 w6 := (show Below v1.heap.size v1 (wo.alloc (.cells #[.slice none 0 0, .slice none 0 0, .int .i64 3, .slice none 0 0, .slice R 5 cr, .int .i32 0] 37)).drew from (HB.out.alloc HB.out.size _).drew).grown hgr (by have := HB.out.size; simp; omega) (fun j hj => (HV.out.lt j hj).1)
        have HB6 := Lib.hid hb6
        have hc6 := cell_keep hb6 (Nat.le_refl _) HCW.out
        have HS6 := Lib.hid hs6
        have HO6 := Lib.hid (show w6.ownsRow v1.heap.size 37 6 (.slice A6 (k + 1) c6) (k + 1) ((us ++ [Value.slice R 5 cr]).map blk).flatten by
          rw [List.map_append, List.flatten_append]; exact hown')
        have HU6 := Lib.hid (HU5.out 5 (by omega))
        clear hown' hgrow hgr hb6 hs6 hcu kB
        go_wp2
        refine walkH_still _ ?b17 rfl rfl rfl ?by17 ?_
        case by17 => intro w hS; obtain ⟨hS, hS2⟩ := hS; go_simp; first | done | with_reducible rfl
        simp only [Act.put]
        refine walkH_does _ rfl rfl ?_
        go_wp2
        refine walkH_nil ?_
        go_wp2
        go_roundw
        case rel => exact ⟨k + 1, by omega, by omega, by go_num, ofTo_step HS6.out HO6.out HL.out HRX.out hlt HU6.out, HB6.out.setCell (p := ⟨v1.heap.size, 1, none⟩) (Nat.le_refl _) _⟩
        case measure => simp [intOf]; omega
    · have hkf : k = (fewL g).length := by rw [few_len]; omega
      have hgl12 : (fewL g).length ≤ 12 := by rw [few_len]; omega
      obtain ⟨A, b, c, us, hs, hA, hc, hbl⟩ := ho.blocks hb hkf
      have HS := Lib.hid hs
      have HA := Lib.hid hA
      have HBL := Lib.hid hbl
      have HSM := Lib.hid (few_small g)
      have kA : wo.cell? ⟨v1.heap.size, 0, none⟩ = some (.int .i64 0) := hs.cell 0
      have kB : wo.cell? ⟨v1.heap.size, 1, none⟩ = some (.slice A (fewL g).length c) := hs.cell 1
      clear ho hb hs hA hbl HO
      by_cases hkg : k < g.length
      · obtain rfl : k = 12 := by omega
        clear hdone hkf
        go_wp2_with fail
        refine region_held_wp (fun w' => w'.cell? ⟨v1.heap.size, 0, none⟩ = some (.int .i64 0) ∧ w'.cell? ⟨v1.heap.size, 1, none⟩ = some (.slice A (fewL g).length c)) [0, 1, 2, 4, 7, 8] [0, 1, 2, 4, 3, 5, 6, 7, 8] (by kernel_rfl) (by kernel_rfl) (by kernel_rfl) rfl ?espan ⟨kA, kB⟩ ?_
        case espan => intro c a d v w h; cases d <;> exact h
        refine walkH_still _ ?e0 rfl rfl (by kernel_rfl) ?ey0 ?_
        case ey0 => intro w hS; obtain ⟨hS, hS2⟩ := hS; go_simp; first | done | with_reducible rfl
        simp only [Act.put]
        refine walkH_still _ ?e1 rfl rfl (by kernel_rfl) ?ey1 ?_
        case ey1 => intro w hS; obtain ⟨hS, hS2⟩ := hS; go_simp; first | done | with_reducible rfl
        simp only [Act.put]
        refine walkH_still _ ?e2 rfl rfl (by kernel_rfl) ?ey2 ?_
        case ey2 => intro w hS; obtain ⟨hS, hS2⟩ := hS; go_simp; first | done | with_reducible rfl
        simp only [Act.put]
        refine walkH_still _ ?e4 rfl rfl (by kernel_rfl) ?ey4 ?_
        case ey4 => intro w hS; obtain ⟨hS, hS2⟩ := hS; go_simp; first | done | with_reducible rfl
        simp only [Act.put]
        simp only [List.setIfInBounds_toArray, List.set_cons_zero, List.set_cons_succ]
        refine walkH_does _ rfl rfl ?_
        go_wp2_with fail
        refine (of_code _ 0 A b c us (fewL g) HA.out (HBL.out.keep (show Below wo.heap.size wo wo.drew from (Below.refl _ _).drew)) hc HSM.out).mono ?_
        rintro e w3 ⟨b3, rfl, ho3, hb3⟩
        have hv3 := ho3.grid.grid
        rw [lii_len] at hv3
        have HV3 := Lib.hid hv3
        have HB3 := Lib.hid ((show Below v1.heap.size v1 wo.drew from HB.out.drew).trans (hb3.mono HB.out.size))
        have hs3 : Str w3 v1.heap.size 31 [.int .i64 0, .slice A (fewL g).length c] := Str.below (w := wo.drew) HS.out hb3
        have HS3 := Lib.hid hs3
        have HBL3 := Lib.hid ((HBL.out.keep (show Below wo.heap.size wo wo.drew from (Below.refl _ _).drew)).keep hb3)
        have kA3 : w3.cell? ⟨v1.heap.size, 0, none⟩ = some (.int .i64 0) := hs3.cell 0
        have kB3 : w3.cell? ⟨v1.heap.size, 1, none⟩ = some (.slice A (fewL g).length c) := hs3.cell 1
        clear hv3 ho3 hb3 hs3 kA kB HS HBL
        go_wp2_with fail
        refine walkH_does _ rfl rfl ?_
        go_wp2_with fail
        refine (rof_any w3 0 A b c us (fewL g) HA.out HBL3.out hc HSM.out).mono ?_
        rintro e w4 ⟨v4, rfl, ho4, hb4⟩
        have HV4 := Lib.hid (HV3.out.keep hb4)
        have HU4 := Lib.hid ho4.grid
        have HB4 := Lib.hid (HB3.out.trans (hb4.mono HB3.out.size))
        have hs4 := HS3.out.below hb4
        have HS4 := Lib.hid hs4
        have kA4 : w4.cell? ⟨v1.heap.size, 0, none⟩ = some (.int .i64 0) := hs4.cell 0
        have kB4 : w4.cell? ⟨v1.heap.size, 1, none⟩ = some (.slice A (fewL g).length c) := hs4.cell 1
        clear ho4 hb4 hs4 kA3 kB3 HS3 HBL3 HV3 HB3
        go_wp2_with fail
        refine walkH_does _ rfl rfl ?_
        go_wp2_with fail
        refine (rows_any w4 _ _ _ _ HV4.out HU4.out).mono ?_
        rintro e w5 ⟨rfl, n5, hw⟩
        rw [show (lii (tidyN (fewL g)) == lii (tidyN (fewL g))) = true from beq_self_eq_true _]
        have HB5 := Lib.hid (show Below v1.heap.size v1 w5 by rw [hw]; exact below_drewN HB4.out n5)
        have hs5 : Str w5 v1.heap.size 31 [.int .i64 0, .slice A (fewL g).length c] := by rw [hw]; exact HS4.out
        have kA5 : w5.cell? ⟨v1.heap.size, 0, none⟩ = some (.int .i64 0) := hs5.cell 0
        have kB5 : w5.cell? ⟨v1.heap.size, 1, none⟩ = some (.slice A (fewL g).length c) := hs5.cell 1
        clear hw hs5 kA4 kB4 HS4 HV4 HU4 HB4
        go_wp2_with fail
        refine walkH_still _ ?e7 rfl rfl (by kernel_rfl) ?ey7 ?_
        case ey7 => intro w hS; obtain ⟨hS, hS2⟩ := hS; go_simp; first | done | with_reducible rfl
        simp only [Act.put]
        refine walkH_still _ ?e8 rfl rfl (by kernel_rfl) ?ey8 ?_
        case ey8 => intro w hS; obtain ⟨hS, hS2⟩ := hS; go_simp; first | done | with_reducible rfl
        simp only [Act.put]
        simp only [List.setIfInBounds_toArray, List.set_cons_zero, List.set_cons_succ]
        refine walkH_nil ?_
        go_wp2
        go_ret
        exact ⟨rfl, HB1.out.trans (HB5.out.mono HB1.out.size)⟩
      · have hkg2 : ¬ ((k : Int) < (g.length : Int)) := by omega
        clear hdone hkf
        go_wp2_with fail
        refine region_held_wp (fun w' => w'.cell? ⟨v1.heap.size, 0, none⟩ = some (.int .i64 0) ∧ w'.cell? ⟨v1.heap.size, 1, none⟩ = some (.slice A (fewL g).length c)) [0, 1, 2, 4, 7, 8] [0, 1, 2, 4, 3, 5, 6, 7, 8] (by kernel_rfl) (by kernel_rfl) (by kernel_rfl) rfl ?fspan ⟨kA, kB⟩ ?_
        case fspan => intro c a d v w h; cases d <;> exact h
        refine walkH_still _ ?f0 rfl rfl (by kernel_rfl) ?fy0 ?_
        case fy0 => intro w hS; obtain ⟨hS, hS2⟩ := hS; go_simp; first | done | with_reducible rfl
        simp only [Act.put]
        refine walkH_still _ ?f1 rfl rfl (by kernel_rfl) ?fy1 ?_
        case fy1 => intro w hS; obtain ⟨hS, hS2⟩ := hS; go_simp; first | done | with_reducible rfl
        simp only [Act.put]
        refine walkH_still _ ?f2 rfl rfl (by kernel_rfl) ?fy2 ?_
        case fy2 => intro w hS; obtain ⟨hS, hS2⟩ := hS; go_simp; first | done | with_reducible rfl
        simp only [Act.put]
        refine walkH_still _ ?f4 rfl rfl (by kernel_rfl) ?fy4 ?_
        case fy4 => intro w hS; obtain ⟨hS, hS2⟩ := hS; go_simp; first | done | with_reducible rfl
        simp only [Act.put]
        simp only [List.setIfInBounds_toArray, List.set_cons_zero, List.set_cons_succ]
        refine walkH_does _ rfl rfl ?_
        go_wp2_with fail
        refine (of_code _ 0 A b c us (fewL g) HA.out (HBL.out.keep (show Below wo.heap.size wo wo.drew from (Below.refl _ _).drew)) hc HSM.out).mono ?_
        rintro e w3 ⟨b3, rfl, ho3, hb3⟩
        have hv3 := ho3.grid.grid
        rw [lii_len] at hv3
        have HV3 := Lib.hid hv3
        have HB3 := Lib.hid ((show Below v1.heap.size v1 wo.drew from HB.out.drew).trans (hb3.mono HB.out.size))
        have hs3 : Str w3 v1.heap.size 31 [.int .i64 0, .slice A (fewL g).length c] := Str.below (w := wo.drew) HS.out hb3
        have HS3 := Lib.hid hs3
        have HBL3 := Lib.hid ((HBL.out.keep (show Below wo.heap.size wo wo.drew from (Below.refl _ _).drew)).keep hb3)
        have kA3 : w3.cell? ⟨v1.heap.size, 0, none⟩ = some (.int .i64 0) := hs3.cell 0
        have kB3 : w3.cell? ⟨v1.heap.size, 1, none⟩ = some (.slice A (fewL g).length c) := hs3.cell 1
        clear hv3 ho3 hb3 hs3 kA kB HS HBL
        go_wp2_with fail
        refine walkH_does _ rfl rfl ?_
        go_wp2_with fail
        refine (rof_any w3 0 A b c us (fewL g) HA.out HBL3.out hc HSM.out).mono ?_
        rintro e w4 ⟨v4, rfl, ho4, hb4⟩
        have HV4 := Lib.hid (HV3.out.keep hb4)
        have HU4 := Lib.hid ho4.grid
        have HB4 := Lib.hid (HB3.out.trans (hb4.mono HB3.out.size))
        have hs4 := HS3.out.below hb4
        have HS4 := Lib.hid hs4
        have kA4 : w4.cell? ⟨v1.heap.size, 0, none⟩ = some (.int .i64 0) := hs4.cell 0
        have kB4 : w4.cell? ⟨v1.heap.size, 1, none⟩ = some (.slice A (fewL g).length c) := hs4.cell 1
        clear ho4 hb4 hs4 kA3 kB3 HS3 HBL3 HV3 HB3
        go_wp2_with fail
        refine walkH_does _ rfl rfl ?_
        go_wp2_with fail
        refine (rows_any w4 _ _ _ _ HV4.out HU4.out).mono ?_
        rintro e w5 ⟨rfl, n5, hw⟩
        rw [show (lii (tidyN (fewL g)) == lii (tidyN (fewL g))) = true from beq_self_eq_true _]
        have HB5 := Lib.hid (show Below v1.heap.size v1 w5 by rw [hw]; exact below_drewN HB4.out n5)
        have hs5 : Str w5 v1.heap.size 31 [.int .i64 0, .slice A (fewL g).length c] := by rw [hw]; exact HS4.out
        have kA5 : w5.cell? ⟨v1.heap.size, 0, none⟩ = some (.int .i64 0) := hs5.cell 0
        have kB5 : w5.cell? ⟨v1.heap.size, 1, none⟩ = some (.slice A (fewL g).length c) := hs5.cell 1
        clear hw hs5 kA4 kB4 HS4 HV4 HU4 HB4
        go_wp2_with fail
        refine walkH_still _ ?f7 rfl rfl (by kernel_rfl) ?fy7 ?_
        case fy7 => intro w hS; obtain ⟨hS, hS2⟩ := hS; go_simp; first | done | with_reducible rfl
        simp only [Act.put]
        refine walkH_still _ ?f8 rfl rfl (by kernel_rfl) ?fy8 ?_
        case fy8 => intro w hS; obtain ⟨hS, hS2⟩ := hS; go_simp; first | done | with_reducible rfl
        simp only [Act.put]
        simp only [List.setIfInBounds_toArray, List.set_cons_zero, List.set_cons_succ]
        refine walkH_nil ?_
        go_wp2
        go_ret
        exact ⟨rfl, HB1.out.trans (HB5.out.mono HB1.out.size)⟩

/-! ### THE ROW's STEP: WRITTEN OUT: LEAVE IT -/
set_option maxRecDepth 100000 in
theorem lifted (os : Os) (started : os.Started) (H : Type) (enc : TypeId × Value → H) :
    ReturnsInHanded {} Try.checked os 4 .any (Rows.graphOfSpec.pre6 enc Try.prog Try.f4 Rows.graphOfRow.domain false) (Rows.graphOfSpec.post enc Try.prog Try.f4 false true false false) := by
  refine returnsInHanded_of_change (C := Try.checked) own started (by kernel_rfl) Try.func4
    (ChangeSpec.witness6 (enc := enc) (C := Try.checked) false ⟨#[], #[.slice none 0 0], []⟩ 8 (by kernel_rfl) (by kernel_rfl) (by kernel_rfl) (by kernel_rfl)) ?_
  intro W base args ds gs before hval0 hW hcnd _
  have hval : ∀ (j : Nat) t v, Try.f4.params[j]? = some t → args[j]? = some v → Value.okWide Try.prog W .any base t v := hval0
  have hW' := hW
  obtain ⟨p, q, hA0, hV, rfl, hfz, hnd⟩ := hW
  have hA : DataW.TrodAll enc Try.prog W 0 (fun _ => true) true Try.f4.params.toList args.toList ds p := hA0
  rw [Try.params4] at hA hval
  obtain ⟨v0, vs0, d0, ds0, p0, q0, hargs, rfl, rfl, h0, r0⟩ := trodAll_cons hA
  obtain ⟨rfl, rfl, rfl⟩ := trodAll_nil r0
  obtain rfl : args = #[v0] := by cases args; simp_all
  obtain ⟨rfl, rfl⟩ := trodVars_none hV
  obtain ⟨a0, len0, cap0, rfl⟩ := okWide_slice Try.underlying22 (hval 0 22 v0 rfl rfl)
  have k0 := h0
  have lt0 : ∀ x ∈ p0, x.block < W.heap.size := by obtain ⟨m, hm⟩ := k0; exact DataW.trod_lt m _ _ _ hm
  obtain ⟨g, w0⟩ : ∃ g, Grid W (.slice a0 len0 cap0) g := by
    obtain ⟨fuel, hf⟩ := h0
    exact open_grid hf
  clear hA0 hval0
  refine (walk a0 len0 cap0 g W w0).mono fun e W' ⟨he, bel⟩ => ?_
  subst he
  exact ⟨_, rfl, _, _, _, [], _, [], hW', trodAll_mk1 (shut_bool Try.underlying4 _), (trodAll_cons_mk (Below.trod laidOut (by kernel_rfl) (of_decide_eq_true (by kernel_rfl)) k0 bel lt0) trodAll_mk0), rfl, bel.frame _, fun h => by cases h⟩

theorem over : Rows.graphOfRow.holds Try.pinned (OpenSpec.ofChange Rows.graphOfSpec) :=
  OpenClaim.holds_of_wide 4 Try.f4 rfl rfl rfl rfl rfl rfl rfl ⟨rfl, rfl, rfl, rfl, rfl⟩ rfl rfl rfl rfl rfl (by kernel_rfl) Try.func4 (by kernel_rfl)
    (of_decide_eq_true (by kernel_rfl)) (by unfold Func.isWrapper; first | (rw [if_pos (by decide +kernel)]; kernel_rfl) | (rw [if_neg (by decide +kernel)]; exact ⟨rfl, rfl⟩))
    (fun os started H enc _ => lifted os started H enc)

/-- ████ THE STATEMENT ████ -/
theorem proved : Rows.GraphOfSaid := over
#print axioms proved
end Go.Proofs.Ythanbedmiaacdaa.graphOf
