/- What is proved: a graph without circles is told to be reducible and to have no headers; with one edge back to block 0 it has that as its header, all blocks as its body, and is reducible (law GraphTree): for every number of blocks and every row of numbers the law answers true. Conditions: none beside those that the given row's own sentence names. -/
import Derived.Test.YthanbedmiaacdaaRows
import Derived.Test.YthanbedmiaacdaaSameAll
import Derived.Test.YthanbedmiaacdaaMade
import Derived.Test.YthanbedmiaacdaaHeadC
import Derived.Test.YthanbedmiaacdaaReducC
import Derived.Test.YthanbedmiaacdaaBodyC
import Derived.WalkKit
import Derived.ProofKit
import Derived.OpenShut
import Derived.ShutString
import Derived.ChangeOld
import Derived.Below
namespace Go.Proofs.Ythanbedmiaacdaa.graphTree
open Go.ChangeShapes Go.WideShapes Go.ChangeAt Go.RowKit
open Go.ChangeMaps (open_string shut_string)
set_option linter.unusedVariables false

theorem own : ownKnob Try.prog.godebug = none := by kernel_rfl
theorem laidOut : laidOutB Try.prog = true := by kernel_rfl

/-- WHAT THE WALK IS TOLD OF A SLICE OF INTEGERS THAT CAME IN: it is nil; or it leads to a row of 'cap' cells, the numbers 'zs' (the first 'len' are its elements, the rest its spare room), each fitting its kind. -/
def IsRow (k : IntKind) (w : World) (a : Option Addr) (len cap : Nat) (zs : List Int) : Prop :=
  (a = none ∧ len = 0 ∧ cap = 0 ∧ zs = []) ∨
  ∃ x, a = some x ∧ len ≤ cap ∧ cap ≤ maxLen ∧ zs.length = cap ∧ (∀ i, i < zs.length → w.cell? (x.add i) = some (.int k (zs.getD i 0))) ∧ ∀ n ∈ zs, (Lit.int k n).wf = true

open Go.Proofs.Ythanbedmiaacdaa.Gl Go.Proofs.Ythanbedmiaacdaa.Mem Go.Proofs.Ythanbedmiaacdaa.Gr Go.Proofs.Ythanbedmiaacdaa.Gn Go.Proofs.Ythanbedmiaacdaa.Gc
/-- Rows of the call's own, no two of them in one place. -/
def OwnApart (B : Nat) (w : World) (o : Value) (g : List (List Int)) : Prop :=
  ∃ vs : List Value, w.ownsRow B 23 1 o g.length vs ∧ (∀ i (h : i < g.length), ∃ u, vs[i]? = some u ∧ OwnInts B w u g[i]) ∧
    ∀ (i j : Nat) (u v : Value), i < j → vs[i]? = some u → vs[j]? = some v → v.ownBlock = none ∨ v.ownBlock ≠ u.ownBlock
theorem OwnApart.none_ (B : Nat) (w : World) : OwnApart B w (.slice none 0 0) [] := ⟨[], World.ownsRow_nil _ _ _ _, fun i h => absurd h (by simp), fun i j u v _ h => by simp at h⟩
theorem OwnApart.below {B : Nat} {w w' : World} {o : Value} {g : List (List Int)} (h : OwnApart B w o g) (hb : Below w.heap.size w w') : OwnApart B w' o g := by
  obtain ⟨vs, h1, h2, h3⟩ := h
  refine ⟨vs, own_below h1 hb, fun i hi => ?_, h3⟩
  obtain ⟨u, e, hu⟩ := h2 i hi
  exact ⟨u, e, own_below hu hb⟩
theorem OwnApart.own {B : Nat} {w : World} {o : Value} {g : List (List Int)} (h : OwnApart B w o g) : OwnGrid B w o g := by
  obtain ⟨vs, h1, h2, _⟩ := h
  exact ⟨vs, h1, h2⟩
/-- One row more, of a place of its own. -/
theorem OwnApart.push {B B' : Nat} {wo w w1 : World} {o o' u : Value} {g : List (List Int)} {l : List Int} {vs : List Value} (h : ∀ i (h : i < g.length), ∃ u, vs[i]? = some u ∧ OwnInts B wo u g[i])
    (ha : ∀ (i j : Nat) (u v : Value), i < j → vs[i]? = some u → vs[j]? = some v → v.ownBlock = none ∨ v.ownBlock ≠ u.ownBlock) (hvs : w.ownsRow B 23 1 o g.length vs) (hb : Below wo.heap.size wo w) (hB : B ≤ wo.heap.size)
    (hu : OwnInts wo.heap.size w u l) (hg : w.grownBy w1 o.ownBlock) (h1 : w1.ownsRow B 23 1 o' (g.length + 1) (vs ++ [u])) : OwnApart B w1 o' (g ++ [l]) := by
  have hlen : vs.length = g.length := by have := hvs.1; omega
  have hu2 : OwnInts B w u l := own_base hu hB
  refine ⟨vs ++ [u], by rw [List.length_append]; exact h1, fun i hi => ?_, fun i j x y hij hx hy => ?_⟩
  · by_cases hi2 : i < g.length
    · obtain ⟨x, e, hx⟩ := h i hi2
      have hx := own_below hx hb
      refine ⟨x, by rw [List.getElem?_append_left (by omega)]; exact e, ?_⟩
      rw [List.getElem_append_left hi2]
      exact World.ownsRow.kept hx hg (own_apart hx hvs (by decide))
    · have hi3 : i = g.length := by rw [List.length_append, List.length_singleton] at hi; omega
      subst hi3
      refine ⟨u, by rw [List.getElem?_append_right (by omega), hlen]; simp, ?_⟩
      rw [List.getElem_append_right (Nat.le_refl _)]
      simp only [Nat.sub_self, List.getElem_cons_zero]
      exact World.ownsRow.kept hu2 hg (own_apart hu2 hvs (by decide))
  · have hj : j < (vs ++ [u]).length := (List.getElem?_eq_some_iff.1 hy).1
    rw [List.length_append, List.length_singleton] at hj
    rw [List.getElem?_append_left (by omega)] at hx
    by_cases hj2 : j < vs.length
    · rw [List.getElem?_append_left hj2] at hy
      exact ha i j x y hij hx hy
    · rw [List.getElem?_append_right (by omega), show j - vs.length = 0 by omega] at hy
      have hy : u = y := Option.some.inj hy
      subst hy
      obtain ⟨x', e, hx'⟩ := h i (by omega)
      rw [e] at hx
      have hx : x' = x := Option.some.inj hx
      subst hx
      rcases hub : u.ownBlock with _ | b
      · exact Or.inl rfl
      · right
        intro hxb
        have k1 := (hu.lt b hub).1
        have k2 := (World.ownsRow.lt hx' b hxb.symm).2
        omega
theorem grid_put {B : Nat} {w w5 : World} {gb n c m : Nat} {u v' : Value} {g : List (List Int)} {l l0 : List Int} {vs : List Value} (hm : m < n) (hg : g.length = n)
    (hvs : w.ownsRow B 23 1 (.slice (some ⟨gb, 0, none⟩) n c) n vs) (hr : ∀ i (h : i < g.length), ∃ u, vs[i]? = some u ∧ OwnInts B w u g[i])
    (ha : ∀ (i j : Nat) (u v : Value), i < j → vs[i]? = some u → vs[j]? = some v → v.ownBlock = none ∨ v.ownBlock ≠ u.ownBlock) (hu : vs[m]? = some u) (hou : OwnInts B w u l0) (hgrow : w.grownBy w5 u.ownBlock) (hown : OwnInts B w5 v' l) :
    w5.ownsRow B 23 1 (.slice (some ⟨gb, 0, none⟩) n c) n vs ∧ OwnGrid B (w5.setCell ⟨gb, m, none⟩ v') (.slice (some ⟨gb, 0, none⟩) n c) (g.set m l) := by
  have hlen : vs.length = n := by have := hvs.1; omega
  have h5 : w5.ownsRow B 23 1 (.slice (some ⟨gb, 0, none⟩) n c) n vs := World.ownsRow.kept hvs hgrow (own_apart hvs hou (by decide))
  refine ⟨h5, vs.set m v', ?_, fun i hi => ?_⟩
  · rw [List.length_set, hg]
    exact (World.ownsRow.stored h5 m v').1
  · rw [List.length_set] at hi
    by_cases e : m = i
    · subst e
      refine ⟨v', by rw [List.getElem?_set_self (by omega)], ?_⟩
      rw [List.getElem_set_self]
      exact World.ownsRow.kept hown (setCell_grownBy w5 ⟨gb, m, none⟩ v') (own_apart hown h5 (by decide))
    · obtain ⟨x, ex, hx⟩ := hr i hi
      refine ⟨x, by rw [List.getElem?_set_ne e]; exact ex, ?_⟩
      rw [List.getElem_set_ne e]
      have hx5 : OwnInts B w5 x g[i] := by
        refine World.ownsRow.kept hx hgrow ?_
        rcases Nat.lt_or_ge i m with k | k
        · rcases ha i m x u k ex hu with h | h
          · rw [h]; cases x.ownBlock <;> simp
          · exact Or.inr (fun e => h e.symm)
        · exact ha m i u x (by omega) hu ex
      exact World.ownsRow.kept hx5 (setCell_grownBy w5 ⟨gb, m, none⟩ v') (own_apart hx5 h5 (by decide))

/-! ### STEP 1: THE WALK: the Go text returns true, AND WRITES NOTHING THAT WAS THERE: 'Below w.heap.size w w'' (Derived/Below.lean: '.refl', '.alloc', '.drew', '.setCell' at a new block, '.trans'). Open each 'IsRow' by 'rcases' AHEAD of 'go_enter'; part every test ahead of the walk. -/
set_option maxRecDepth 100000 in
set_option maxHeartbeats 1000000 in
theorem walk (a0 : Int) (a1 : Option Addr) (len1 cap1 : Nat) (z1 : List Int) (w : World) (w0 : (Lit.int .i64 a0).wf = true) (w1 : IsRow .i64 w a1 len1 cap1 z1) :
    Calls Try.prog 11 #[.int .i64 a0, .slice a1 len1 cap1] w fun e w' => e = .returned (.bool true) ∧ Below w.heap.size w w' := by
  obtain ⟨hl1, hi1⟩ := row_ints w1 (Nat.le_refl len1)
  clear w0 w1
  have HI1 := Lib.hid hi1
  generalize z1.take len1 = s at *
  obtain ⟨A, ca, e, ha1, ha2, ha3⟩ := hi1
  injection e with e1 e2 e3
  subst e1 e2 e3
  unfold maxLen at ha2
  have HA0 := Lib.hid ha3
  clear hl1 ha3
  obtain ⟨i0, hi, hz0, hz1, hz2⟩ := info_parts info_int
  obtain ⟨i1, hj, hy0, hy1, hy2⟩ := info_parts Go.Proofs.Ythanbedmiaacdaa.Gr.info_row
  have HI := Lib.hid hi
  have HZ0 := Lib.hid hz0
  have HZ1 := Lib.hid hz1
  have HZ2 := Lib.hid hz2
  have HJ := Lib.hid hj
  have HY0 := Lib.hid hy0
  have HY1 := Lib.hid hy1
  have HY2 := Lib.hid hy2
  clear hi hz0 hz1 hz2 hj hy0 hy1 hy2
  go_enter Try.func11, Try.ntmps11
  go_wp2_with fail
  refine (awake_any _).mono ?_
  rintro e v1 ⟨rfl, hb1⟩
  have HB1 := Lib.hid hb1
  have HI2 := Lib.hid (HI1.out.keep hb1)
  obtain ⟨A, ca, e, ha1, ha2, ha3⟩ := HI2.out
  injection e with e1 e2 e3
  subst e1 e3
  have HA := Lib.hid ha3
  clear hb1 HI1 ha3 e2
  go_wp2_with fail
  refine (rest_any a0 10 (by decide) (by decide) _).mono ?_
  rintro e v2 ⟨rfl, rfl⟩
  obtain ⟨n, hn, hn1, hn2⟩ : ∃ n : Nat, (1 : Int) + a0 % (10 : Int) = n ∧ 1 ≤ n ∧ n ≤ 10 := by
    have := Int.emod_nonneg a0 (show (10 : Int) ≠ 0 by decide)
    have := Int.emod_lt_of_pos a0 (show (0 : Int) < 10 by decide)
    exact ⟨(1 + a0 % 10).toNat, by omega, by omega, by omega⟩
  go_wp2
  clear hn
  go_loopw [7, 8] (fun o i wr => ∃ k : Nat, k ≤ n ∧ i = .int .i64 k ∧ OwnApart v2.heap.size wr o (treeTo s n k) ∧ Below v2.heap.size v2 wr) (fun _ i _ => n - (intOf i).toNat)
  case atStart => exact ⟨0, by omega, rfl, OwnApart.none_ _ _, Below.refl _ _⟩
  case round =>
    obtain ⟨k, hk, rfl, hown, hb⟩ := hrel
    obtain ⟨wo, rfl⟩ : ∃ wo : World, wo = wr := ⟨_, rfl⟩
    have HO := Lib.hid hown
    have HB := Lib.hid hb
    clear hown hb
    by_cases hlt : k < n
    · have HR0 := Lib.hid (World.ownsRow_nil wo wo.heap.size 3 1)
      have HW0 := Lib.hid (Below.refl wo.heap.size wo)
      have hal := treeA_len n k
      by_cases hA : k + 1 < n
      · have HEA := Lib.hid (show treeA n k = [(k : Int) + 1] by unfold treeA; rw [if_pos hA])
        go_wp2_with (at_builtin; refine wpList_append_own _ rfl _ _ 23 rfl wo.heap.size 3 i0 (.int .i64 0) 1 8 Try.underlying23 HI.out HZ0.out HZ1.out HZ2.out rfl (by decide) _ _ _ rfl (HR0.out.alloc _) ⟨_, 0, none⟩ 1 1 [.int .i64 ((k : Int) + 1)] rfl rfl ?c1 ?c2 ?c3 ?c4 ?c5 ?_)
        case c1 =>
          intro i u hj
          match i, hj with
          | 0, hj => simp at hj; subst hj; simp [Addr.add]
        case c2 => intro u hu; simp at hu; subst hu; rfl
        case c3 => unfold maxLen; omega
        case c4 => omega
        case c5 => have := HW0.out.size; simp <;> omega
        intro vn w6 hown' hgrow _
        have hown2 : OwnInts wo.heap.size w6 vn (treeA n k) := by rw [HEA.out]; exact hown'
        have HO2 := Lib.hid hown2
        have HB2 := Lib.hid ((HW0.out.alloc HW0.out.size _).grown hgrow (by rw [World.size_alloc]; omega) (fun j hj => (HR0.out.lt j hj).1))
        clear hown' hgrow hown2
        obtain ⟨AY, cY, rfl⟩ := own_form HO2.out
        by_cases hin : k < s.length
        · obtain ⟨bd, hbd, hc2⟩ := HA.out k hin
          subst hbd
          have hc3 := cell_keep (HB.out.trans (HB2.out.mono HB.out.size)) (Nat.le_refl _) hc2
          have HG := Lib.hid (show s.getD k 0 = s[k] by rw [List.getD_eq_getElem?_getD, List.getElem?_eq_getElem hin]; rfl)
          clear hc2
          generalize s[k] = y at *
          go_wp2_with fail
          refine (rest_any y n (by omega) (by omega) _).mono ?_
          rintro e v5 ⟨rfl, hv5⟩
          have hv6 := hv5.symm
          subst hv6
          clear hv5
          have hq0 : 0 ≤ y % (n : Int) := Int.emod_nonneg _ (by omega)
          have hq1 : y % (n : Int) < n := Int.emod_lt_of_pos _ (by omega)
          by_cases hq : (k : Int) + 1 + y % (n : Int) < n
          · have HE := Lib.hid (show treeRow s n k = treeA n k ++ [(k : Int) + 1 + y % (n : Int)] by
              unfold treeRow treeB; rw [if_pos hin, HG.out, if_pos hq])
            generalize y % (n : Int) = q at *
            go_wp2_with (at_builtin; refine wpList_append_own _ rfl _ _ 23 rfl wo.heap.size 3 i0 (.int .i64 0) 1 8 Try.underlying23 HI.out HZ0.out HZ1.out HZ2.out rfl (by decide) _ _ _ rfl (HO2.out.alloc _) ⟨_, 0, none⟩ 1 1 [.int .i64 ((k : Int) + 1 + q)] rfl rfl ?c1 ?c2 ?c3 ?c4 ?c5 ?_)
            case c1 =>
              intro i u hj
              match i, hj with
              | 0, hj => simp at hj; subst hj; simp [Addr.add]
            case c2 => intro u hu; simp at hu; subst hu; rfl
            case c3 => unfold maxLen; omega
            case c4 => omega
            case c5 => have := HB2.out.size; simp <;> omega
            intro vn w7 hown' hgrow _
            have hown2 : OwnInts wo.heap.size w7 vn (treeRow s n k) := by
              rw [HE.out]
              unfold OwnInts
              rw [List.length_append, List.map_append]; exact hown'
            have HOX := Lib.hid hown2
            have HBX := Lib.hid ((HB2.out.alloc HB2.out.size _).grown hgrow (by rw [World.size_alloc]; have := HB2.out.size; omega) (fun j hj => (HO2.out.lt j hj).1))
            clear hown' hgrow hown2
            obtain ⟨AX, cX, rfl⟩ := own_form HOX.out
            obtain ⟨vs, hvs, hrows, hap⟩ := HO.out
            have hvs2 := own_below hvs HBX.out
            have hpl := treeTo_len s n k
            rw [hpl] at hvs2
            have HV := Lib.hid hvs2
            have HRX := Lib.hid hrows
            have HAP := Lib.hid hap
            clear hvs hvs2 hrows hap
            go_wp2_with (at_builtin; refine wpList_append_own _ rfl _ _ 22 rfl v2.heap.size 23 i1 (.slice none 0 0) 1 24 Try.underlying22 HJ.out HY0.out HY1.out HY2.out rfl (by decide) _ _ _ rfl (HV.out.alloc _) ⟨_, 0, none⟩ 1 1 [.slice AX (treeRow s n k).length cX] rfl rfl ?c1 ?c2 ?c3 ?c4 ?c5 ?_)
            case c1 =>
              intro i u hj
              match i, hj with
              | 0, hj => simp at hj; subst hj; simp [Addr.add]
            case c2 => intro u hu; simp at hu; subst hu; rfl
            case c3 => unfold maxLen; omega
            case c4 => omega
            case c5 => have := HB.out.size; have := HBX.out.size; simp; omega
            intro v' w9 hown' hgrow _
            have hgr2 : OwnApart v2.heap.size w9 v' (treeTo s n (k + 1)) := by
              rw [treeTo_succ]
              refine OwnApart.push (B' := wo.heap.size) (wo := wo) (HRX.out) HAP.out (by rw [hpl]; exact HV.out.alloc _) (HBX.out.alloc HBX.out.size _) HB.out.size (World.ownsRow.alloc HOX.out _) hgrow (by rw [hpl]; exact hown')
            have HO4 := Lib.hid hgr2
            have HB4 := Lib.hid (((HB.out.trans (HBX.out.mono HB.out.size)).alloc (Nat.le_trans HB.out.size HBX.out.size) _).grown hgrow (by rw [World.size_alloc]; have := HB.out.size; have := HBX.out.size; omega) (fun j hj => (HV.out.lt j hj).1))
            clear hown' hgrow hgr2 hpl
            go_wp2
            go_roundw
            case rel => exact ⟨k + 1, by omega, by go_num, HO4.out, HB4.out⟩
            case measure => simp [intOf]; omega
          · have HE := Lib.hid (show treeRow s n k = treeA n k by
              unfold treeRow treeB; rw [if_pos hin, HG.out, if_neg hq, List.append_nil])
            have HOX := Lib.hid (show OwnInts wo.heap.size _ _ (treeRow s n k) by rw [HE.out]; exact HO2.out)
            have HBX := HB2
            generalize y % (n : Int) = q at *
            obtain ⟨vs, hvs, hrows, hap⟩ := HO.out
            have hvs2 := own_below hvs HBX.out
            have hpl := treeTo_len s n k
            rw [hpl] at hvs2
            have HV := Lib.hid hvs2
            have HRX := Lib.hid hrows
            have HAP := Lib.hid hap
            clear hvs hvs2 hrows hap
            go_wp2_with (at_builtin; refine wpList_append_own _ rfl _ _ 22 rfl v2.heap.size 23 i1 (.slice none 0 0) 1 24 Try.underlying22 HJ.out HY0.out HY1.out HY2.out rfl (by decide) _ _ _ rfl (HV.out.alloc _) ⟨_, 0, none⟩ 1 1 [.slice AY (treeA n k).length cY] rfl rfl ?c1 ?c2 ?c3 ?c4 ?c5 ?_)
            case c1 =>
              intro i u hj
              match i, hj with
              | 0, hj => simp at hj; subst hj; simp [Addr.add]
            case c2 => intro u hu; simp at hu; subst hu; rfl
            case c3 => unfold maxLen; omega
            case c4 => omega
            case c5 => have := HB.out.size; have := HBX.out.size; simp; omega
            intro v' w9 hown' hgrow _
            have hgr2 : OwnApart v2.heap.size w9 v' (treeTo s n (k + 1)) := by
              rw [treeTo_succ]
              refine OwnApart.push (B' := wo.heap.size) (wo := wo) (HRX.out) HAP.out (by rw [hpl]; exact HV.out.alloc _) (HBX.out.alloc HBX.out.size _) HB.out.size (World.ownsRow.alloc HOX.out _) hgrow (by rw [hpl]; exact hown')
            have HO4 := Lib.hid hgr2
            have HB4 := Lib.hid (((HB.out.trans (HBX.out.mono HB.out.size)).alloc (Nat.le_trans HB.out.size HBX.out.size) _).grown hgrow (by rw [World.size_alloc]; have := HB.out.size; have := HBX.out.size; omega) (fun j hj => (HV.out.lt j hj).1))
            clear hown' hgrow hgr2 hpl
            go_wp2
            go_roundw
            case rel => exact ⟨k + 1, by omega, by go_num, HO4.out, HB4.out⟩
            case measure => simp [intOf]; omega
        · have HE := Lib.hid (show treeRow s n k = treeA n k by
            unfold treeRow treeB; rw [if_neg hin, List.append_nil])
          have HOX := Lib.hid (show OwnInts wo.heap.size _ _ (treeRow s n k) by rw [HE.out]; exact HO2.out)
          have HBX := HB2
          obtain ⟨vs, hvs, hrows, hap⟩ := HO.out
          have hvs2 := own_below hvs HBX.out
          have hpl := treeTo_len s n k
          rw [hpl] at hvs2
          have HV := Lib.hid hvs2
          have HRX := Lib.hid hrows
          have HAP := Lib.hid hap
          clear hvs hvs2 hrows hap
          go_wp2_with (at_builtin; refine wpList_append_own _ rfl _ _ 22 rfl v2.heap.size 23 i1 (.slice none 0 0) 1 24 Try.underlying22 HJ.out HY0.out HY1.out HY2.out rfl (by decide) _ _ _ rfl (HV.out.alloc _) ⟨_, 0, none⟩ 1 1 [.slice AY (treeA n k).length cY] rfl rfl ?c1 ?c2 ?c3 ?c4 ?c5 ?_)
          case c1 =>
            intro i u hj
            match i, hj with
            | 0, hj => simp at hj; subst hj; simp [Addr.add]
          case c2 => intro u hu; simp at hu; subst hu; rfl
          case c3 => unfold maxLen; omega
          case c4 => omega
          case c5 => have := HB.out.size; have := HBX.out.size; simp; omega
          intro v' w9 hown' hgrow _
          have hgr2 : OwnApart v2.heap.size w9 v' (treeTo s n (k + 1)) := by
            rw [treeTo_succ]
            refine OwnApart.push (B' := wo.heap.size) (wo := wo) (HRX.out) HAP.out (by rw [hpl]; exact HV.out.alloc _) (HBX.out.alloc HBX.out.size _) HB.out.size (World.ownsRow.alloc HOX.out _) hgrow (by rw [hpl]; exact hown')
          have HO4 := Lib.hid hgr2
          have HB4 := Lib.hid (((HB.out.trans (HBX.out.mono HB.out.size)).alloc (Nat.le_trans HB.out.size HBX.out.size) _).grown hgrow (by rw [World.size_alloc]; have := HB.out.size; have := HBX.out.size; omega) (fun j hj => (HV.out.lt j hj).1))
          clear hown' hgrow hgr2 hpl
          go_wp2
          go_roundw
          case rel => exact ⟨k + 1, by omega, by go_num, HO4.out, HB4.out⟩
          case measure => simp [intOf]; omega
      · have HEA := Lib.hid (show treeA n k = [] by unfold treeA; rw [if_neg hA])
        have HO2 := Lib.hid (show OwnInts wo.heap.size wo (.slice none 0 0) (treeA n k) by rw [HEA.out]; exact HR0.out)
        have HB2 := HW0
        by_cases hin : k < s.length
        · obtain ⟨bd, hbd, hc2⟩ := HA.out k hin
          subst hbd
          have hc3 := cell_keep (HB.out.trans (HB2.out.mono HB.out.size)) (Nat.le_refl _) hc2
          have HG := Lib.hid (show s.getD k 0 = s[k] by rw [List.getD_eq_getElem?_getD, List.getElem?_eq_getElem hin]; rfl)
          clear hc2
          generalize s[k] = y at *
          go_wp2_with fail
          refine (rest_any y n (by omega) (by omega) _).mono ?_
          rintro e v5 ⟨rfl, hv5⟩
          have hv6 := hv5.symm
          subst hv6
          clear hv5
          have hq0 : 0 ≤ y % (n : Int) := Int.emod_nonneg _ (by omega)
          have hq1 : y % (n : Int) < n := Int.emod_lt_of_pos _ (by omega)
          by_cases hq : (k : Int) + 1 + y % (n : Int) < n
          · exfalso; omega
          · have HE := Lib.hid (show treeRow s n k = treeA n k by
              unfold treeRow treeB; rw [if_pos hin, HG.out, if_neg hq, List.append_nil])
            have HOX := Lib.hid (show OwnInts wo.heap.size _ _ (treeRow s n k) by rw [HE.out]; exact HO2.out)
            have HBX := HB2
            generalize y % (n : Int) = q at *
            obtain ⟨vs, hvs, hrows, hap⟩ := HO.out
            have hvs2 := own_below hvs HBX.out
            have hpl := treeTo_len s n k
            rw [hpl] at hvs2
            have HV := Lib.hid hvs2
            have HRX := Lib.hid hrows
            have HAP := Lib.hid hap
            clear hvs hvs2 hrows hap
            go_wp2_with (at_builtin; refine wpList_append_own _ rfl _ _ 22 rfl v2.heap.size 23 i1 (.slice none 0 0) 1 24 Try.underlying22 HJ.out HY0.out HY1.out HY2.out rfl (by decide) _ _ _ rfl (HV.out.alloc _) ⟨_, 0, none⟩ 1 1 [.slice none 0 0] rfl rfl ?c1 ?c2 ?c3 ?c4 ?c5 ?_)
            case c1 =>
              intro i u hj
              match i, hj with
              | 0, hj => simp at hj; subst hj; simp [Addr.add]
            case c2 => intro u hu; simp at hu; subst hu; rfl
            case c3 => unfold maxLen; omega
            case c4 => omega
            case c5 => have := HB.out.size; have := HBX.out.size; simp; omega
            intro v' w9 hown' hgrow _
            have hgr2 : OwnApart v2.heap.size w9 v' (treeTo s n (k + 1)) := by
              rw [treeTo_succ]
              refine OwnApart.push (B' := wo.heap.size) (wo := wo) (HRX.out) HAP.out (by rw [hpl]; exact HV.out.alloc _) (HBX.out.alloc HBX.out.size _) HB.out.size (World.ownsRow.alloc HOX.out _) hgrow (by rw [hpl]; exact hown')
            have HO4 := Lib.hid hgr2
            have HB4 := Lib.hid (((HB.out.trans (HBX.out.mono HB.out.size)).alloc (Nat.le_trans HB.out.size HBX.out.size) _).grown hgrow (by rw [World.size_alloc]; have := HB.out.size; have := HBX.out.size; omega) (fun j hj => (HV.out.lt j hj).1))
            clear hown' hgrow hgr2 hpl
            go_wp2
            go_roundw
            case rel => exact ⟨k + 1, by omega, by go_num, HO4.out, HB4.out⟩
            case measure => simp [intOf]; omega
        · have HE := Lib.hid (show treeRow s n k = treeA n k by
            unfold treeRow treeB; rw [if_neg hin, List.append_nil])
          have HOX := Lib.hid (show OwnInts wo.heap.size _ _ (treeRow s n k) by rw [HE.out]; exact HO2.out)
          have HBX := HB2
          obtain ⟨vs, hvs, hrows, hap⟩ := HO.out
          have hvs2 := own_below hvs HBX.out
          have hpl := treeTo_len s n k
          rw [hpl] at hvs2
          have HV := Lib.hid hvs2
          have HRX := Lib.hid hrows
          have HAP := Lib.hid hap
          clear hvs hvs2 hrows hap
          go_wp2_with (at_builtin; refine wpList_append_own _ rfl _ _ 22 rfl v2.heap.size 23 i1 (.slice none 0 0) 1 24 Try.underlying22 HJ.out HY0.out HY1.out HY2.out rfl (by decide) _ _ _ rfl (HV.out.alloc _) ⟨_, 0, none⟩ 1 1 [.slice none 0 0] rfl rfl ?c1 ?c2 ?c3 ?c4 ?c5 ?_)
          case c1 =>
            intro i u hj
            match i, hj with
            | 0, hj => simp at hj; subst hj; simp [Addr.add]
          case c2 => intro u hu; simp at hu; subst hu; rfl
          case c3 => unfold maxLen; omega
          case c4 => omega
          case c5 => have := HB.out.size; have := HBX.out.size; simp; omega
          intro v' w9 hown' hgrow _
          have hgr2 : OwnApart v2.heap.size w9 v' (treeTo s n (k + 1)) := by
            rw [treeTo_succ]
            refine OwnApart.push (B' := wo.heap.size) (wo := wo) (HRX.out) HAP.out (by rw [hpl]; exact HV.out.alloc _) (HBX.out.alloc HBX.out.size _) HB.out.size (World.ownsRow.alloc HOX.out _) hgrow (by rw [hpl]; exact hown')
          have HO4 := Lib.hid hgr2
          have HB4 := Lib.hid (((HB.out.trans (HBX.out.mono HB.out.size)).alloc (Nat.le_trans HB.out.size HBX.out.size) _).grown hgrow (by rw [World.size_alloc]; have := HB.out.size; have := HBX.out.size; omega) (fun j hj => (HV.out.lt j hj).1))
          clear hown' hgrow hgr2 hpl
          go_wp2
          go_roundw
          case rel => exact ⟨k + 1, by omega, by go_num, HO4.out, HB4.out⟩
          case measure => simp [intOf]; omega
    · have hkn : k = n := by omega
      have hoo := HO.out
      rw [hkn] at hoo
      obtain ⟨Ag, cg, e, hrest⟩ := hoo.own.grid
      rw [treeTo_len] at e
      subst e
      clear hrest
      have HOA := Lib.hid hoo
      have HGG := Lib.hid hoo.own.grid
      have HS := Lib.hid (treeL_small s (show n ≤ 1000 by omega))
      have HSP := Lib.hid (spans_all (g := treeL s n) (by rw [treeL_len]; omega))
      clear hoo HO
      go_wp2_with fail
      refine (reducible_code wo _ (treeL s n) HGG.out HS.out HSP.out).mono ?_
      rintro e w3 ⟨rfl, hb3⟩
      rw [tree_red]
      have HG3 := Lib.hid (HGG.out.keep hb3)
      have HA3 := Lib.hid (HOA.out.below hb3)
      have HB3 := Lib.hid (HB.out.trans (hb3.mono HB.out.size))
      clear hb3
      go_wp2_with fail
      refine (headers_code w3 _ (treeL s n) HG3.out HS.out HSP.out).mono ?_
      rintro e w4 ⟨vh, rfl, hoh, hb4⟩
      rw [tree_head] at hoh
      obtain ⟨Ah, ch, e, _⟩ := hoh.ints
      have e : vh = .slice Ah 0 ch := e
      subst e
      have HA4 := Lib.hid (HA3.out.below hb4)
      have HB4 := Lib.hid (HB3.out.trans (hb4.mono HB3.out.size))
      clear hb4 hoh HA3 HB3 HG3
      obtain ⟨vs, hvs, hrows, hap⟩ := HA4.out
      rw [treeTo_len] at hvs
      obtain ⟨m, hm⟩ : ∃ m : Nat, (n : Int) - 1 = (m : Int) := ⟨n - 1, by omega⟩
      have hmn : m < n := by omega
      obtain ⟨u, hu, hou⟩ := hrows m (by rw [treeTo_len]; exact hmn)
      have er := treeL_row s hmn
      rw [getD_at (show m < (treeL s n).length by rw [treeL_len]; exact hmn)] at er
      have hou2 : OwnInts v2.heap.size w4 u (treeRow s n m) := by rw [← er]; exact hou
      clear hou er
      obtain ⟨Ar, cr, rfl⟩ := own_form hou2
      obtain ⟨gb, eg⟩ := own_at hvs (by omega)
      subst eg
      have hcell : w4.cell? ⟨gb, m, none⟩ = some (.slice Ar (treeRow s n m).length cr) := by have k := World.ownsRow.cells hvs (g := gb) rfl m _ hu; rw [add_at] at k; exact k
      have HV := Lib.hid hvs
      have HRX := Lib.hid hrows
      have HAP := Lib.hid hap
      have HU := Lib.hid hu
      have HOU := Lib.hid hou2
      have hrl := treeRow_len s n m
      clear hvs hrows hap hu hou2
      go_wp2_with (at_builtin; refine wpList_append_own _ rfl _ _ 23 rfl v2.heap.size 3 i0 (.int .i64 0) 1 8 Try.underlying23 HI.out HZ0.out HZ1.out HZ2.out rfl (by decide) _ _ _ rfl (HOU.out.alloc _) ⟨_, 0, none⟩ 1 1 [.int .i64 0] rfl rfl ?c1 ?c2 ?c3 ?c4 ?c5 ?_)
      case c1 =>
        intro i u hj
        match i, hj with
        | 0, hj => simp at hj; subst hj; simp [Addr.add]
      case c2 => intro u hu; simp at hu; subst hu; rfl
      case c3 => unfold maxLen; omega
      case c4 => omega
      case c5 => have := HB4.out.size; simp <;> omega
      intro v' w5 hown' hgrow _
      have hown2 : OwnInts v2.heap.size w5 v' (treeRow s n m ++ [0]) := by
        unfold OwnInts
        rw [List.length_append, List.map_append]; exact hown'
      obtain ⟨A5, c5, e5⟩ := own_form hown2
      rw [List.length_append, List.length_singleton] at e5
      subst e5
      have hB5 := (HB4.out.alloc HB4.out.size _).grown hgrow (by rw [World.size_alloc]; have := HB4.out.size; omega) (fun j hj => (HOU.out.lt j hj).1)
      obtain ⟨hv5, hg6⟩ := grid_put (g := treeTo s n n) hmn (treeTo_len s n n) (HV.out.alloc _) (fun i hi => by
        obtain ⟨x, e, hx⟩ := HRX.out i hi
        exact ⟨x, e, World.ownsRow.alloc hx _⟩) HAP.out HU.out (World.ownsRow.alloc HOU.out _) hgrow hown2
      have hgc := World.ownsRow.cells hv5 (g := gb) rfl m _ HU.out
      rw [add_at] at hgc
      have hgf := World.ownsRow.frozenAt hv5 m
      have e6 : (treeTo s n n).set m (treeRow s n m ++ [0]) = backL s n := by
        unfold backL
        rw [show n - 1 = m by omega, treeL_row s hmn]; rfl
      rw [e6] at hg6
      have HG6 := Lib.hid hg6.grid
      have HB6 := Lib.hid (Below.setCell (p := ⟨gb, m, none⟩) hB5 (show v2.heap.size ≤ gb from (HV.out.lt gb rfl).1) (.slice A5 ((treeRow s n m).length + 1) c5))
      have HS6 := Lib.hid (backL_small s (show n ≤ 1000 by omega))
      have HSP6 := Lib.hid (spans_all (g := backL s n) (by rw [backL_len]; omega))
      clear hown' hgrow hown2 hB5 hv5 hg6 e6
      go_wp2_with fail
      refine (headers_code _ _ (backL s n) HG6.out HS6.out HSP6.out).mono ?_
      rintro e w7 ⟨vl, rfl, hol, hb7⟩
      rw [back_head s (show 0 < n by omega)] at hol
      obtain ⟨Al, cl, rfl⟩ := own_form hol
      obtain ⟨lb, el⟩ := own_at hol (by decide)
      subst el
      have hlc := World.ownsRow.cells hol (g := lb) rfl 0 (.int .i64 0) rfl
      rw [add_at] at hlc
      have HG7 := Lib.hid (HG6.out.keep hb7)
      have HB7 := Lib.hid (HB6.out.trans (hb7.mono HB6.out.size))
      clear hol hb7 HG6 HB6 hgc hgf
      go_wp2_with fail
      refine (body_code w7 _ (backL s n) 0 HG7.out HS6.out HSP6.out).mono ?_
      rintro e w8 ⟨vb, rfl, hob, hb8⟩
      have hbl : (li (bodyN (tidyN (backL s n)) 0)).length = n := by
        unfold li
        rw [List.length_map, back_body s (show 0 < n by omega)]
      obtain ⟨Ab, cb, eb⟩ := own_form hob
      rw [hbl] at eb
      subst eb
      have HG8 := Lib.hid (HG7.out.keep hb8)
      have HB8 := Lib.hid (HB7.out.trans (hb8.mono HB7.out.size))
      clear hob hb8 hbl HG7 HB7 hlc
      go_wp2_with fail
      refine (reducible_code w8 _ (backL s n) HG8.out HS6.out HSP6.out).mono ?_
      rintro e w9 ⟨rfl, hb9⟩
      rw [back_red]
      have HB9 := Lib.hid (HB8.out.trans (hb9.mono HB8.out.size))
      clear hb9
      go_wp2_with fail
      go_ret
      exact ⟨rfl, HB1.out.trans (HB9.out.mono HB1.out.size)⟩

/-! ### THE ROW's STEP: WRITTEN OUT: LEAVE IT -/
set_option maxRecDepth 100000 in
theorem lifted (os : Os) (started : os.Started) (H : Type) (enc : TypeId × Value → H) :
    ReturnsInHanded {} Try.checked os 11 .any (Rows.graphTreeSpec.pre6 enc Try.prog Try.f11 Rows.graphTreeRow.domain false) (Rows.graphTreeSpec.post enc Try.prog Try.f11 false true false false) := by
  refine returnsInHanded_of_change (C := Try.checked) own started (by kernel_rfl) Try.func11
    (ChangeSpec.witness6 (enc := enc) (C := Try.checked) false ⟨#[], #[.int .i64 0, .slice none 0 0], []⟩ 8 (by kernel_rfl) (by kernel_rfl) (by kernel_rfl) (by kernel_rfl)) ?_
  intro W base args ds gs before hval0 hW hcnd _
  have hval : ∀ (j : Nat) t v, Try.f11.params[j]? = some t → args[j]? = some v → Value.okWide Try.prog W .any base t v := hval0
  have hW' := hW
  obtain ⟨p, q, hA0, hV, rfl, hfz, hnd⟩ := hW
  have hA : DataW.TrodAll enc Try.prog W 0 (fun _ => true) true Try.f11.params.toList args.toList ds p := hA0
  rw [Try.params11] at hA hval
  obtain ⟨v0, vs0, d0, ds0, p0, q0, hargs, rfl, rfl, h0, r0⟩ := trodAll_cons hA
  obtain ⟨v1, vs1, d1, ds1, p1, q1, rfl, rfl, rfl, h1, r1⟩ := trodAll_cons r0
  obtain ⟨rfl, rfl, rfl⟩ := trodAll_nil r1
  obtain rfl : args = #[v0, v1] := by cases args; simp_all
  obtain ⟨rfl, rfl⟩ := trodVars_none hV
  obtain ⟨a0, rfl, rfl, rfl, w0⟩ := open_int Try.underlying3 (hval 0 3 v0 rfl rfl) h0
  obtain ⟨a1, len1, cap1, rfl⟩ := okWide_slice Try.underlying23 (hval 1 23 v1 rfl rfl)
  have k1 := h1
  have lt1 : ∀ x ∈ p1, x.block < W.heap.size := by obtain ⟨m, hm⟩ := k1; exact DataW.trod_lt m _ _ _ hm
  obtain ⟨z1, w1⟩ : ∃ zs, IsRow .i64 W a1 len1 cap1 zs := by
    obtain ⟨fuel, hf⟩ := h1
    rcases open_ints Try.underlying23 Try.underlying3 (by kernel_rfl) hf with ⟨hcs, _⟩ | ⟨x, l, c, zs, hcs, _, hl, hm, hz, _, hcell, hwz⟩
    · simp [Value.cells] at hcs
      obtain ⟨rfl, rfl, rfl⟩ := hcs
      exact ⟨[], .inl ⟨rfl, rfl, rfl, rfl⟩⟩
    · simp [Value.cells] at hcs
      obtain ⟨rfl, rfl, rfl⟩ := hcs
      exact ⟨zs, .inr ⟨_, rfl, hl, hm, by simpa using hz, hcell, hwz⟩⟩
  clear hA0 hval0
  refine (walk a0 a1 len1 cap1 z1 W w0 w1).mono fun e W' ⟨he, bel⟩ => ?_
  subst he
  exact ⟨_, rfl, _, _, _, [], _, [], hW', trodAll_mk1 (shut_bool Try.underlying4 _), (trodAll_cons_mk (shut_int Try.underlying3 w0) (trodAll_cons_mk (Below.trod laidOut (by kernel_rfl) (of_decide_eq_true (by kernel_rfl)) k1 bel lt1) trodAll_mk0)), rfl, bel.frame _, fun h => by cases h⟩

theorem over : Rows.graphTreeRow.holds Try.pinned (OpenSpec.ofChange Rows.graphTreeSpec) :=
  OpenClaim.holds_of_wide 11 Try.f11 rfl rfl rfl rfl rfl rfl rfl ⟨rfl, rfl, rfl, rfl, rfl⟩ rfl rfl rfl rfl rfl (by kernel_rfl) Try.func11 (by kernel_rfl)
    (of_decide_eq_true (by kernel_rfl)) (by unfold Func.isWrapper; first | (rw [if_pos (by decide +kernel)]; kernel_rfl) | (rw [if_neg (by decide +kernel)]; exact ⟨rfl, rfl⟩))
    (fun os started H enc _ => lifted os started H enc)

/-- ████ THE STATEMENT ████ -/
theorem proved : Rows.GraphTreeSaid := over
#print axioms proved
end Go.Proofs.Ythanbedmiaacdaa.graphTree
