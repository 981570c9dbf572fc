/- What jacquardref02's Made answers: a graph by plain numbers, in rows of its own. -/
import Derived.Test.YthanbedmiaacdaaPreds
import Derived.Test.YthanbedmiaacdaaChain
namespace Go.Proofs.Ythanbedmiaacdaa.Gr
open Go.ChangeShapes Go.WideShapes Go.ChangeAt Go.RowKit Go.Proofs.Ythanbedmiaacdaa.Mem
set_option linter.unusedVariables false

/-- How many blocks. -/
def madeN (s : List Int) : Nat := if 0 < s.length then 1 + (s.getD 0 0 % 10).toNat else 1
/-- One number of a row, if there is one. -/
def madeOne (s : List Int) (n i k : Nat) : List Int :=
  if 3 * i + k < s.length then (if s.getD (3 * i + k) 0 % ((n : Int) + 3) < n then [s.getD (3 * i + k) 0 % ((n : Int) + 3)] else []) else []
def madeRow (s : List Int) (n i : Nat) : Nat → List Int
  | 0 => []
  | j + 1 => madeRow s n i j ++ madeOne s n i (j + 1)
def madeTo (s : List Int) (n k : Nat) : List (List Int) := (List.range k).map fun i : Nat => madeRow s n i 3
def madeL (s : List Int) : List (List Int) := madeTo s (madeN s) (madeN s)
theorem madeTo_succ (s : List Int) (n k : Nat) : madeTo s n (k + 1) = madeTo s n k ++ [madeRow s n k 3] := by
  unfold madeTo; rw [List.range_succ, List.map_append]; rfl
theorem madeTo_len (s : List Int) (n k : Nat) : (madeTo s n k).length = k := by simp [madeTo]
theorem madeOne_len (s : List Int) (n i k : Nat) : (madeOne s n i k).length ≤ 1 := by
  unfold madeOne
  split
  · split <;> simp
  · simp
theorem madeRow_len (s : List Int) (n i : Nat) : ∀ j, (madeRow s n i j).length ≤ j
  | 0 => Nat.le_refl _
  | j + 1 => by rw [madeRow, List.length_append]; have := madeRow_len s n i j; have := madeOne_len s n i (j + 1); omega
theorem madeN_bd (s : List Int) : 1 ≤ madeN s ∧ madeN s ≤ 10 := by unfold madeN; split <;> omega
set_option maxRecDepth 100000 in
set_option maxHeartbeats 2000000 in
theorem made_any (w : World) (v : Value) (s : List Int) (hs : Ints w v s) :
    Calls Try.prog 15 #[v] w (MadeGrid w.heap.size (madeL s) w) := by
  obtain ⟨A, ca, rfl, ha1, ha2, ha3⟩ := hs
  unfold maxLen at ha2
  have HA := Lib.hid ha3
  clear ha3
  obtain ⟨i0, hi, hz0, hz1, hz2⟩ := info_parts info_int
  obtain ⟨i1, hj, hy0, hy1, hy2⟩ := info_parts info_row
  have HI := Lib.hid hi
  have HZ0 := Lib.hid hz0
  have HZ1 := Lib.hid hz1
  have HZ2 := Lib.hid hz2
  have HJ := Lib.hid hj
  have HY0 := Lib.hid hy0
  have HY1 := Lib.hid hy1
  have HY2 := Lib.hid hy2
  clear hi hz0 hz1 hz2 hj hy0 hy1 hy2
  have hnb := madeN_bd s
  have HL := Lib.hid (show madeL s = madeTo s (madeN s) (madeN s) from rfl)
  by_cases h0 : 0 < s.length
  · obtain ⟨ad, rfl, hc⟩ := HA.out 0 h0
    have HN := Lib.hid (show (madeN s : Int) = (1 : Int) + s[0] % (10 : Int) by
      unfold madeN
      rw [if_pos h0, List.getD_eq_getElem?_getD, List.getElem?_eq_getElem h0]
      simp only [Option.getD_some]
      omega)
    have HR := Lib.hid (rest_is s[0] 10 (by decide))
    have hxx : s[0].tmod (10 : Int) % (10 : Int) = s[0] % (10 : Int) := by have h := rest_is s[0] 10 (by decide); rw [Int.add_emod_right] at h; exact h
    have e3 : (1 : Int) + s[0].tmod (10 : Int) % (10 : Int) = (madeN s : Int) := by have h := HN.out; omega
    obtain ⟨z, r1, r2, r3⟩ : ∃ z : Int, (s[0].tmod (10 : Int) + (10 : Int)) % (10 : Int) = z ∧ s[0].tmod (10 : Int) % (10 : Int) = z ∧ (1 : Int) + z = (madeN s : Int) := ⟨s[0] % (10 : Int), rest_is s[0] 10 (by decide), hxx, by have h := HN.out; omega⟩
    clear hxx e3
    generalize s[0] = x at *
    generalize madeN s = n at *
    obtain ⟨hx1, hx2⟩ := tmod_bd x 10 (by decide)
    have hc0 : w.cell? ad = some (.int .i64 x) := hc
    go_enter Try.func15, Try.ntmps15
    go_wp2
    rw [r1]
    clear hc hc0 r1 r2 r3 hx1 hx2
    go_loopw [4, 5] (fun o i wr => ∃ k : Nat, k ≤ n ∧ i = .int .i64 k ∧ OwnGrid w.heap.size wr o (madeTo s n k) ∧ Below w.heap.size w wr) (fun _ i _ => n - (intOf i).toNat)
    case atStart => exact ⟨0, by omega, rfl, OwnGrid.none_ _ _, Below.refl _ _⟩
    case round =>
      obtain ⟨k, hk, rfl, hown, hb⟩ := hrel
      obtain ⟨wo, rfl⟩ : ∃ wo : World, wo = wr := ⟨_, rfl⟩
      have HO := Lib.hid hown
      have HB := Lib.hid hb
      clear hown hb
      by_cases hlt : k < n
      · go_wp2
        go_loopw [6, 7] (fun o i wr => ∃ j : Nat, j ≤ 3 ∧ i = .int .i64 (j + 1) ∧ wr.ownsRow wo.heap.size 3 1 o (madeRow s n k j).length ((madeRow s n k j).map (Value.int .i64)) ∧ Below wo.heap.size wo wr) (fun _ i _ => 4 - (intOf i).toNat)
        case atStart => exact ⟨0, by omega, rfl, World.ownsRow_nil _ _ _ _, Below.refl _ _⟩
        case round =>
          obtain ⟨j, hj, rfl, hown, hb⟩ := hrel
          have HO2 := Lib.hid hown
          have HB2 := Lib.hid hb
          clear hown hb
          by_cases hlt2 : j < 3
          · have hrow := madeRow_len s n k j
            by_cases hin : 3 * k + (j + 1) < s.length
            · obtain ⟨bd, hbd, hc2⟩ := HA.out (3 * k + (j + 1)) hin
              injection hbd with hbd
              subst hbd
              have hc3 := cell_keep (HB.out.trans (HB2.out.mono HB.out.size)) (Nat.le_refl _) hc2
              have HG := Lib.hid (show s.getD (3 * k + (j + 1)) 0 = s[3 * k + (j + 1)] by rw [List.getD_eq_getElem?_getD, List.getElem?_eq_getElem hin]; rfl)
              clear hc2
              generalize s[3 * k + (j + 1)] = y at *
              obtain ⟨hy1, hy2⟩ := tmod_bd y ((n : Int) + 3) (by omega)
              have e4 : (y.tmod ((n : Int) + 3) + n + 3) % ((n : Int) + 3) = y % ((n : Int) + 3) := by
                rw [Int.add_assoc]; exact rest_is y ((n : Int) + 3) (by omega)
              have hq0 : 0 ≤ y % ((n : Int) + 3) := Int.emod_nonneg _ (by omega)
              have hq1 : y % ((n : Int) + 3) < n + 3 := Int.emod_lt_of_pos _ (by omega)
              have hz3 : ((n : Int) + 3 == 0) = false := beq_eq_false_iff_ne.2 (by omega)
              by_cases hq : y % ((n : Int) + 3) < n
              · have HE := Lib.hid (show madeRow s n k (j + 1) = madeRow s n k j ++ [y % ((n : Int) + 3)] by
                  rw [madeRow]; unfold madeOne; rw [if_pos hin, HG.out, if_pos hq])
                generalize y % ((n : Int) + 3) = q at *
                go_wp2_with (at_builtin; refine wpList_append_own _ rfl _ _ 23 rfl wo.heap.size 3 i0 (.int .i64 0) 1 8 Try.underlying23 HI.out HZ0.out HZ1.out HZ2.out rfl (by decide) _ _ _ rfl (HO2.out.alloc _) ⟨_, 0, none⟩ 1 1 [.int .i64 q] rfl rfl ?c1 ?c2 ?c3 ?c4 ?c5 ?_)
                case c1 =>
                  intro i u hj
                  match i, hj with
                  | 0, hj => simp at hj; subst hj; simp [Addr.add]
                case c2 => intro u hu; simp at hu; subst hu; rfl
                case c3 => unfold maxLen; omega
                case c4 => omega
                case c5 => have := HB2.out.size; simp; omega
                intro v' w1 hown' hgrow _
                have hown2 : w1.ownsRow wo.heap.size 3 1 v' (madeRow s n k (j + 1)).length ((madeRow s n k (j + 1)).map (Value.int .i64)) := by
                  rw [HE.out, List.length_append, List.map_append]; exact hown'
                have HO3 := Lib.hid hown2
                have HB3 := Lib.hid ((HB2.out.alloc HB2.out.size _).grown hgrow (by rw [World.size_alloc]; have := HB2.out.size; omega) (fun j hj => (HO2.out.lt j hj).1))
                clear hown' hgrow hown2
                go_wp2
                go_roundw
                case rel => exact ⟨j + 1, by omega, by go_num, HO3.out, HB3.out⟩
                case measure => simp [intOf]; omega
              · have HE := Lib.hid (show madeRow s n k (j + 1) = madeRow s n k j by
                  rw [madeRow]; unfold madeOne; rw [if_pos hin, HG.out, if_neg hq, List.append_nil])
                generalize y % ((n : Int) + 3) = q at *
                go_wp2
                go_roundw
                case rel => exact ⟨j + 1, by omega, by go_num, by rw [HE.out]; exact HO2.out, HB2.out⟩
                case measure => simp [intOf]; omega
            · have HE := Lib.hid (show madeRow s n k (j + 1) = madeRow s n k j by
                rw [madeRow]; unfold madeOne; rw [if_neg hin, List.append_nil])
              go_wp2
              go_roundw
              case rel => exact ⟨j + 1, by omega, by go_num, by rw [HE.out]; exact HO2.out, HB2.out⟩
              case measure => simp [intOf]; omega
          · obtain rfl : j = 3 := by omega
            obtain ⟨vs, hvs, hrows⟩ := HO.out.below HB2.out
            obtain ⟨A2, c2, rfl⟩ := own_form HO2.out
            have hpl := madeTo_len s n k
            rw [hpl] at hvs
            have HV := Lib.hid hvs
            have HR2 := Lib.hid hrows
            clear hvs hrows
            go_wp2_with (at_builtin; refine wpList_append_own _ rfl _ _ 22 rfl w.heap.size 23 i1 (.slice none 0 0) 1 24 Try.underlying22 HJ.out HY0.out HY1.out HY2.out rfl (by decide) _ _ _ rfl (HV.out.alloc _) ⟨_, 0, none⟩ 1 1 [.slice A2 (madeRow s n k 3).length c2] rfl rfl ?c1 ?c2 ?c3 ?c4 ?c5 ?_)
            case c1 =>
              intro i u hj
              match i, hj with
              | 0, hj => simp at hj; subst hj; simp [Addr.add]
            case c2 => intro u hu; simp at hu; subst hu; rfl
            case c3 => unfold maxLen; omega
            case c4 => omega
            case c5 => have := HB.out.size; have := HB2.out.size; simp; omega
            intro v' w1 hown' hgrow _
            have hu := own_base HO2.out HB.out.size
            have hgr2 : OwnGrid w.heap.size w1 v' (madeTo s n (k + 1)) := by
              rw [madeTo_succ]
              refine OwnGrid.push (fun i hi => ?_) (by rw [hpl]; exact HV.out.alloc _) (World.ownsRow.alloc hu _) hgrow (by rw [hpl]; exact hown')
              obtain ⟨x, e, hx⟩ := HR2.out i hi
              exact ⟨x, e, World.ownsRow.alloc hx _⟩
            have HO4 := Lib.hid hgr2
            have HB4 := Lib.hid (((HB.out.trans (HB2.out.mono HB.out.size)).alloc (Nat.le_trans HB.out.size HB2.out.size) _).grown hgrow (by rw [World.size_alloc]; have := HB.out.size; have := HB2.out.size; omega) (fun j hj => (HV.out.lt j hj).1))
            clear hown' hgrow hu hgr2 hpl
            go_wp2
            go_roundw
            case rel => exact ⟨k + 1, by omega, by go_num, HO4.out, HB4.out⟩
            case measure => simp [intOf]; omega
      · obtain rfl : k = n := by omega
        go_wp2
        go_ret
        exact ⟨_, rfl, by rw [HL.out]; exact HO.out, HB.out⟩
  · have hn1 : madeN s = 1 := if_neg h0
    have hl0 : s.length ≤ 0 := by omega
    have d0 : decide (0 < s.length) = false := decide_eq_false h0
    have d1 : decide ((0 : Int) < (s.length : Int)) = false := decide_eq_false (by omega)
    obtain ⟨n, hn⟩ : ∃ n, n = madeN s := ⟨_, rfl⟩
    have HL1 := Lib.hid (show madeL s = madeTo s n n by rw [HL.out, hn])
    have HN1 := Lib.hid (show n = 1 by rw [hn, hn1])
    have hnb2 : n ≤ 1 := by omega
    clear hnb hn1 h0 HL hn
    go_enter Try.func15, Try.ntmps15
    go_wp2
    go_loopw [4, 5] (fun o i wr => ∃ k : Nat, k ≤ n ∧ i = .int .i64 k ∧ OwnGrid w.heap.size wr o (madeTo s n k) ∧ Below w.heap.size w wr) (fun _ i _ => n - (intOf i).toNat)
    case atStart => exact ⟨0, by omega, rfl, OwnGrid.none_ _ _, Below.refl _ _⟩
    case round =>
      obtain ⟨k, hk, rfl, hown, hb⟩ := hrel
      obtain ⟨wo, rfl⟩ : ∃ wo : World, wo = wr := ⟨_, rfl⟩
      have HO := Lib.hid hown
      have HB := Lib.hid hb
      clear hown hb
      have HK := Lib.hid hk
      clear hk hnb2
      go_wp2
      · have hlt : (k : Int) < 1 := by assumption
        go_loopw [6, 7] (fun o i wr => ∃ j : Nat, j ≤ 3 ∧ i = .int .i64 (j + 1) ∧ wr.ownsRow wo.heap.size 3 1 o (madeRow s n k j).length ((madeRow s n k j).map (Value.int .i64)) ∧ Below wo.heap.size wo wr) (fun _ i _ => 4 - (intOf i).toNat)
        case atStart => exact ⟨0, by omega, rfl, World.ownsRow_nil _ _ _ _, Below.refl _ _⟩
        case round =>
          obtain ⟨j, hj, rfl, hown, hb⟩ := hrel
          have HO2 := Lib.hid hown
          have HB2 := Lib.hid hb
          clear hown hb
          by_cases hlt2 : j < 3
          · have hrow := madeRow_len s n k j
            have HE := Lib.hid (show madeRow s n k (j + 1) = madeRow s n k j by
              rw [madeRow]; unfold madeOne; rw [if_neg (by omega), List.append_nil])
            go_wp2
            go_roundw
            case rel => exact ⟨j + 1, by omega, by go_num, by rw [HE.out]; exact HO2.out, HB2.out⟩
            case measure => have := HN1.out; simp [intOf]; omega
          · obtain rfl : j = 3 := by omega
            obtain ⟨vs, hvs, hrows⟩ := HO.out.below HB2.out
            obtain ⟨A2, c2, rfl⟩ := own_form HO2.out
            have hpl := madeTo_len s n k
            rw [hpl] at hvs
            have HV := Lib.hid hvs
            have HR2 := Lib.hid hrows
            clear hvs hrows
            go_wp2_with (at_builtin; refine wpList_append_own _ rfl _ _ 22 rfl w.heap.size 23 i1 (.slice none 0 0) 1 24 Try.underlying22 HJ.out HY0.out HY1.out HY2.out rfl (by decide) _ _ _ rfl (HV.out.alloc _) ⟨_, 0, none⟩ 1 1 [.slice A2 (madeRow s n k 3).length c2] rfl rfl ?c1 ?c2 ?c3 ?c4 ?c5 ?_)
            case c1 =>
              intro i u hj
              match i, hj with
              | 0, hj => simp at hj; subst hj; simp [Addr.add]
            case c2 => intro u hu; simp at hu; subst hu; rfl
            case c3 => unfold maxLen; omega
            case c4 => omega
            case c5 => have := HB.out.size; have := HB2.out.size; simp; omega
            intro v' w1 hown' hgrow _
            have hu := own_base HO2.out HB.out.size
            have hgr2 : OwnGrid w.heap.size w1 v' (madeTo s n (k + 1)) := by
              rw [madeTo_succ]
              refine OwnGrid.push (fun i hi => ?_) (by rw [hpl]; exact HV.out.alloc _) (World.ownsRow.alloc hu _) hgrow (by rw [hpl]; exact hown')
              obtain ⟨x, e, hx⟩ := HR2.out i hi
              exact ⟨x, e, World.ownsRow.alloc hx _⟩
            have HO4 := Lib.hid hgr2
            have HB4 := Lib.hid (((HB.out.trans (HB2.out.mono HB.out.size)).alloc (Nat.le_trans HB.out.size HB2.out.size) _).grown hgrow (by rw [World.size_alloc]; have := HB.out.size; have := HB2.out.size; omega) (fun j hj => (HV.out.lt j hj).1))
            clear hown' hgrow hu hgr2 hpl
            go_wp2
            go_roundw
            case rel => exact ⟨k + 1, by have := HN1.out; omega, by go_num, HO4.out, HB4.out⟩
            case measure => have := HN1.out; simp [intOf]; omega
      · have hge : 1 ≤ (k : Int) := by assumption
        have hkn : k = n := by have := HK.out; have := HN1.out; omega
        subst hkn
        go_ret
        exact ⟨_, rfl, by rw [HL1.out]; exact HO.out, HB.out⟩
end Go.Proofs.Ythanbedmiaacdaa.Gr
