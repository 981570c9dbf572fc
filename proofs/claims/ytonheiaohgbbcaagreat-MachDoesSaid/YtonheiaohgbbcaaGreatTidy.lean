/- What package graph's tidy answers: a graph with the same edges, in rows of its own: rising, each once. -/
import Derived.Test.YtonheiaohgbbcaaGreatTidyP
import Derived.Test.YtonheiaohgbbcaaGreatSlices
import Derived.Test.YtonheiaohgbbcaaGreatAppend
import Derived.OwnWalk
namespace Go.Proofs.YtonheiaohgbbcaaGreat.Gc
open Go.ChangeShapes Go.WideShapes Go.ChangeAt Go.RowKit Go.Proofs.YtonheiaohgbbcaaGreat.Mem Go.Proofs.YtonheiaohgbbcaaGreat.Gr Go.Proofs.YtonheiaohgbbcaaGreat.Gn
set_option linter.unusedVariables false

theorem info_row : (Tryz.prog.info? 38).map (fun i => (i.zero, i.size, i.bytes)) = some (some (.slice none 0 0), 1, 24) := by kernel_rfl
/-- A graph that is small enough to be gone over. -/
def Small (g : List (List Int)) : Prop := g.length ≤ 1000 ∧ ∀ i (h : i < g.length), g[i].length ≤ 1000
/-- The rows that are done, and those that are still empty. -/
def tidyTo (g : List (List Int)) (k : Nat) : List (List Int) := (List.range g.length).map fun i => if i < k then tidyRow g.length (g.getD i []) else []
theorem tidyTo_len (g : List (List Int)) (k : Nat) : (tidyTo g k).length = g.length := by unfold tidyTo; rw [List.length_map, List.length_range]
theorem tidyTo_zero (g : List (List Int)) : tidyTo g 0 = List.replicate g.length [] := by
  unfold tidyTo
  simp [List.map_const']
theorem at_of {α : Type} {l : List α} {i : Nat} {x : α} (e : l[i]? = some x) (h : i < l.length) : l[i] = x := by
  rw [List.getElem?_eq_getElem h] at e; exact Option.some.inj e
theorem tidyTo_get {g : List (List Int)} (k : Nat) {i : Nat} (hi : i < g.length) : (tidyTo g k)[i]? = some (if i < k then tidyRow g.length (g.getD i []) else []) := by
  unfold tidyTo
  rw [List.getElem?_map, List.getElem?_range hi]; rfl
theorem tidyTo_at {g : List (List Int)} {k i : Nat} (hi : i < (tidyTo g k).length) (h : k ≤ i) : (tidyTo g k)[i] = [] := by
  refine at_of ?_ hi
  rw [tidyTo_get k (by rw [tidyTo_len] at hi; exact hi), if_neg (by omega)]
theorem tidyTo_succ {g : List (List Int)} {k : Nat} (h : k < g.length) : (tidyTo g k).set k (tidyRow g.length g[k]) = tidyTo g (k + 1) := by
  apply List.ext_getElem?
  intro i
  by_cases hi : i < g.length
  · rw [List.getElem?_set, tidyTo_get k hi, tidyTo_get (k + 1) hi, tidyTo_len]
    by_cases e : k = i
    · subst e
      rw [if_pos rfl, if_pos h, if_pos (by omega), List.getD_eq_getElem?_getD, List.getElem?_eq_getElem h]; rfl
    · rw [if_neg e]
      by_cases e2 : i < k
      · rw [if_pos e2, if_pos (by omega)]
      · rw [if_neg e2, if_neg (by omega)]
  · rw [List.getElem?_eq_none (by rw [List.length_set, tidyTo_len]; omega), List.getElem?_eq_none (by rw [tidyTo_len]; omega)]
theorem tidyTo_all (g : List (List Int)) : tidyTo g g.length = lii (tidyN g) := by
  apply List.ext_getElem?
  intro i
  by_cases hi : i < g.length
  · have h3 : i < (tidyN g).length := by rw [tidyN_len]; exact hi
    have h4 := tidyN_row hi
    rw [List.getD_eq_getElem?_getD, List.getElem?_eq_getElem h3, Option.getD_some] at h4
    rw [tidyTo_get _ hi, if_pos hi, lii, List.getElem?_map, List.getElem?_eq_getElem h3, Option.map_some, h4, List.getD_eq_getElem?_getD, List.getElem?_eq_getElem hi]
    rfl
  · rw [List.getElem?_eq_none (by rw [tidyTo_len]; omega), List.getElem?_eq_none (by rw [lii, List.length_map, tidyN_len]; omega)]
/-- A graph of the call's own. -/
def MadeGraph (T : G) (w : World) (e : Ending) (w' : World) : Prop := ∃ b, e = .returned (.slice (some ⟨b, 0, none⟩) T.length T.length) ∧ GridD w.heap.size b w' (lii T) ∧ Below w.heap.size w w'
theorem set_same {α : Type} : ∀ {l : List α} {i : Nat} (h : i < l.length), l.set i l[i] = l
  | [], i, h => by simp at h
  | a :: l, 0, _ => rfl
  | a :: l, i + 1, h => by simp
set_option maxRecDepth 100000 in
set_option maxHeartbeats 2000000 in
theorem tidy_any (w : World) (v : Value) (g : List (List Int)) (hg : Grid w v g) (hs : Small g) :
    Calls Tryz.prog 95 #[v] w (MadeGraph (tidyN g) w) := by
  obtain ⟨hs1, hs2⟩ := hs
  obtain ⟨A, ca, rfl, ha1, ha2, ha3⟩ := hg
  unfold maxLen at ha2
  have HA := Lib.hid ha3
  have HS := Lib.hid hs2
  clear ha3 hs2
  obtain ⟨i0, hi, hz0, hz1, hz2⟩ := info_parts info_int
  obtain ⟨i1, hj, hy0, hy1, hy2⟩ := info_parts info_row
  have HI := Lib.hid hi
  have HZ0 := Lib.hid hz0
  have HZ1 := Lib.hid hz1
  have HZ2 := Lib.hid hz2
  have HJ := Lib.hid hj
  have HY0 := Lib.hid hy0
  have HY1 := Lib.hid hy1
  have HY2 := Lib.hid hy2
  clear hi hz0 hz1 hz2 hj hy0 hy1 hy2
  go_enter Tryz.func95, Tryz.ntmps95
  go_wp2_with (at_make; refine wpList_make_full _ rfl _ _ 147 rfl w.heap.size 38 i1 (.slice none 0 0) 1 Tryz.underlying147 HJ.out HY0.out HY1.out .i64 .i64 _ _ g.length rfl rfl rfl rfl ?c1 ?c2 ?c3 ?_)
  case c1 => rw [HY2.out]; omega
  case c2 => unfold maxLen; omega
  case c3 => exact Nat.le_refl _
  intro w1 hown hgr
  have HO1 := Lib.hid (show GridD w.heap.size w.heap.size w1 (tidyTo g 0) by
    rw [tidyTo_zero]
    rw [toList_madeCells_one] at hown
    exact GridD.made hown)
  have HB1 := Lib.hid (show Below w.heap.size w w1 from (Below.refl _ _).grown hgr (Nat.le_refl _) (fun j hj => by cases hj))
  clear hown hgr
  go_wp2
  go_loopw [13] (fun i wr => ∃ k : Nat, k ≤ g.length ∧ i = .int .i64 k ∧ GridD w.heap.size w.heap.size wr (tidyTo g k) ∧ Below w.heap.size w wr) (fun i _ => g.length - (intOf i).toNat)
  case atStart => exact ⟨0, by omega, rfl, HO1.out, HB1.out⟩
  case round =>
    obtain ⟨k, hk, rfl, hown, hb⟩ := hrel
    obtain ⟨wo, rfl⟩ : ∃ wo : World, wo = wr := ⟨_, rfl⟩
    have HO := Lib.hid hown
    have HB := Lib.hid hb
    clear hown hb
    by_cases hlt : k < g.length
    · obtain ⟨ad, u, rfl, hc, hu⟩ := HA.out k hlt
      have hc' : wo.cell? (ad.add k) = some u := cell_keep HB.out (Nat.le_refl _) hc
      have hrl : g[k].length ≤ 1000 := HS.out k hlt
      have HT := Lib.hid (tidyTo_succ hlt)
      have HL := Lib.hid (tidyTo_len g k)
      have HE := Lib.hid (show (tidyTo g k).set k (keepTo g.length g[k] 0) = tidyTo g k from by
        have h1 : k < (tidyTo g k).length := by rw [tidyTo_len]; exact hlt
        have h2 := set_same h1
        rw [tidyTo_at h1 (Nat.le_refl _)] at h2
        exact h2)
      generalize g[k] = row at *
      obtain ⟨C, cc, rfl, hr1, hr2, hr3⟩ := hu
      unfold maxLen at hr2
      have HR := Lib.hid hr3
      clear hr3 hc
      go_wp2
      clear hc'
      go_loopw [20] (fun i wr => ∃ j : Nat, j ≤ row.length ∧ i = .int .i64 j ∧ GridD w.heap.size w.heap.size wr ((tidyTo g k).set k (keepTo g.length row j)) ∧ Below w.heap.size w wr) (fun i _ => row.length - (intOf i).toNat)
      case atStart => exact ⟨0, by omega, rfl, by rw [HE.out]; exact HO.out, HB.out⟩
      case round =>
        obtain ⟨j, hj, rfl, hown, hb⟩ := hrel
        obtain ⟨wo2, rfl⟩ : ∃ wo : World, wo = wr := ⟨_, rfl⟩
        have hkl : k < ((tidyTo g k).set k (keepTo g.length row j)).length := by rw [List.length_set, HL.out]; exact hlt
        obtain ⟨cu, hcu, hcf, hcur⟩ := hown.at k hkl
        rw [List.getElem_set_self] at hcur
        have HO2 := Lib.hid hown
        have HB2 := Lib.hid hb
        have HC := Lib.hid hcur
        have HKL := Lib.hid hkl
        have hkn := keepTo_len g.length row j
        clear hown hb hcur hkl
        by_cases hlt2 : j < row.length
        · obtain ⟨cd, rfl, hx⟩ := HR.out j hlt2
          have hx' : wo2.cell? (cd.add j) = some (.int .i64 row[j]) := cell_keep HB2.out (Nat.le_refl _) hx
          have HN := Lib.hid (keepTo_succ (n := g.length) hlt2)
          clear hx
          generalize row[j] = x at *
          by_cases h0 : 0 ≤ x
          · by_cases h1 : x < (g.length : Int)
            · have HE2 := Lib.hid (show keepTo g.length row (j + 1) = keepTo g.length row j ++ [x] by rw [HN.out, if_pos ⟨h0, h1⟩])
              go_wp2_with (at_builtin; refine wpList_append1 rfl _ _ 38 rfl w.heap.size 3 i0 (.int .i64 0) 8 Tryz.underlying38 HI.out HZ0.out HZ1.out HZ2.out rfl _ _ _ rfl (World.ownsRow.alloc HC.out _) ⟨_, 0, none⟩ (.int .i64 x) rfl ?c1 ?c2 ?c3 ?c4 ?c5 ?_)
              case c1 => simp
              case c2 => rfl
              case c3 => omega
              case c4 => omega
              case c5 => have := HB2.out.size; simp; omega
              intro v' w3 hown' hgrow hmv
              obtain ⟨A', c', rfl⟩ := own_form hown'
              have hcu2 := cell_keep ((Below.refl wo2.heap.size wo2).alloc (Nat.le_refl _) (.cells #[.int .i64 x] 3)) (Nat.le_refl _) hcu
              obtain ⟨hs3, hf3⟩ := (HO2.out.alloc _).still HKL.out hcu2 hgrow
              have hst := (HO2.out.alloc _).store HKL.out hcu2 hgrow (l := keepTo g.length row j ++ [x]) (by unfold OwnInts; rw [List.length_append, List.map_append]; exact hown') (hmv.or (Nat.le_refl _))
              have HO3 := Lib.hid (show GridD w.heap.size w.heap.size (w3.setCell ⟨w.heap.size, k, none⟩ (.slice A' ((keepTo g.length row j).length + 1) c')) ((tidyTo g k).set k (keepTo g.length row (j + 1))) by rw [HE2.out]; rw [List.set_set] at hst; exact hst)
              have HB3 := Lib.hid (((HB2.out.alloc HB2.out.size _).grown hgrow (by rw [World.size_alloc]; have := HB2.out.size; omega) (fun i hi => (HC.out.lt i hi).1)).setCell (p := ⟨w.heap.size, k, none⟩) (Nat.le_refl _) (.slice A' ((keepTo g.length row j).length + 1) c'))
              clear hst hown' hgrow hmv hcu2
              go_wp2
              go_roundw
              case rel => exact ⟨j + 1, by omega, by go_num, HO3.out, HB3.out⟩
              case measure => simp [intOf]; omega
            · have HE2 := Lib.hid (show keepTo g.length row (j + 1) = keepTo g.length row j by rw [HN.out, if_neg (by omega), List.append_nil])
              go_wp2
              go_roundw
              case rel => exact ⟨j + 1, by omega, by go_num, by rw [HE2.out]; exact HO2.out, HB2.out⟩
              case measure => simp [intOf]; omega
          · have HE2 := Lib.hid (show keepTo g.length row (j + 1) = keepTo g.length row j by rw [HN.out, if_neg (by omega), List.append_nil])
            have d0 : decide (0 ≤ x) = false := decide_eq_false h0
            go_wp2
            go_roundw
            case rel => exact ⟨j + 1, by omega, by go_num, by rw [HE2.out]; exact HO2.out, HB2.out⟩
            case measure => simp [intOf]; omega
        · obtain rfl : j = row.length := by omega
          go_wp2_with fail
          refine (sort_own _ w.heap.size cu _ HC.out (by have := keepTo_len g.length row row.length; omega)).mono ?_
          rintro e w3 ⟨rfl, hown3, hgr3⟩
          obtain ⟨hs3, hf3⟩ := HO2.out.still HKL.out hcu hgr3
          have HO3 := Lib.hid (HO2.out.turned HKL.out hcu hgr3 hown3)
          have HB3 := Lib.hid (HB2.out.grown hgr3 HB2.out.size (fun i hi => (HC.out.lt i hi).1))
          have HC3 := Lib.hid hown3
          clear hown3 hgr3 hcu hcf
          go_wp2_with fail
          refine (compact_own _ w.heap.size cu _ HC3.out (by rw [List.length_mergeSort]; have := keepTo_len g.length row row.length; omega)).mono ?_
          rintro e w4 ⟨v4, rfl, hbl, hown4, hgr4⟩
          obtain ⟨A', c', rfl⟩ := own_form hown4
          rw [List.set_set] at HO3
          have hkl3 : k < ((tidyTo g k).set k ((keepTo g.length row row.length).mergeSort fun x y => decide (x ≤ y))).length := by rw [List.length_set, HL.out]; exact hlt
          obtain ⟨hs4, hf4⟩ := HO3.out.still hkl3 hs3 hgr4
          have hst := HO3.out.store hkl3 hs3 hgr4 (l := tidyRow g.length row) hown4 (Or.inl hbl)
          rw [List.set_set, HT.out] at hst
          have HO4 := Lib.hid hst
          have HB4 := Lib.hid ((HB3.out.grown hgr4 HB3.out.size (fun i hi => (HC3.out.lt i hi).1)).setCell (p := ⟨w.heap.size, k, none⟩) (Nat.le_refl _) (.slice A' (tidyRow g.length row).length c'))
          clear hst hown4 hgr4 hs3 hf3
          go_wp2
          go_roundw
          case rel => exact ⟨k + 1, by omega, by go_num, HO4.out, HB4.out⟩
          case measure => simp [intOf]; omega
    · obtain rfl : k = g.length := by omega
      go_wp2
      go_ret
      exact ⟨w.heap.size, by rw [tidyN_len]; rfl, by rw [← tidyTo_all]; exact HO.out, HB.out⟩
end Go.Proofs.YtonheiaohgbbcaaGreat.Gc
