/- What jacquardref02's comparisons of rows answer. -/
import Derived.Test.YthanbedmiaacdaaRows
import Derived.Test.YthanbedmiaacdaaMem
import Derived.Deep.QuietTactic
import Derived.BigQuiet
import Derived.Lib.Hide
import Derived.Outline
namespace Go.Proofs.Ythanbedmiaacdaa.Gr
open Go.ChangeShapes Go.WideShapes Go.ChangeAt Go.RowKit Go.Proofs.Ythanbedmiaacdaa.Mem
set_option linter.unusedVariables false

theorem ret_bool {a b : Bool} (h : a = b) : Ending.returned (.bool a) = .returned (.bool b) := by rw [h]
def NumsPost (la lb : List Int) (w : World) (e : Ending) (w' : World) : Prop := e = .returned (.bool (la == lb)) ∧ ∃ n, w' = w.drewN n
theorem nums_any (w : World) (va vb : Value) (la lb : List Int) (ha : Ints w va la) (hb : Ints w vb lb) :
    Calls Try.prog 33 #[va, vb] w (NumsPost la lb w) := by
  obtain ⟨A, ca, rfl, ha1, ha2, ha3⟩ := ha
  obtain ⟨B, cb, rfl, hb1, hb2, hb3⟩ := hb
  unfold maxLen at ha2 hb2
  by_cases hl : la.length = lb.length
  · have HA := Lib.hid ha3
    have HB := Lib.hid hb3
    have HL := Lib.hid hl
    have hlb : ((la.length : Int) == (lb.length : Int)) = true := beq_iff_eq.2 (by omega)
    have hlb2 : ((la.length : Int) != (lb.length : Int)) = false := by rw [hl]; simp
    clear ha3 hb3 hl
    go_enter Try.func33, Try.ntmps33
    go_wp2
    go_loopw [5] (fun i wr => ∃ k : Nat, k ≤ la.length ∧ i = .int .i64 k ∧ la.take k = lb.take k ∧ ∃ n, wr = w.drewN n) (fun i _ => la.length - (intOf i).toNat)
    case atStart => exact ⟨0, by omega, rfl, rfl, 0, rfl⟩
    case round =>
      obtain ⟨k, hk, rfl, heq, n, rfl⟩ := hrel
      have HE := Lib.hid heq
      clear heq
      by_cases hlt : k < la.length
      · have hlt2 : k < lb.length := by have := HL.out; omega
        obtain ⟨ad, rfl, hc⟩ := HA.out k hlt
        obtain ⟨bd, rfl, hd⟩ := HB.out k hlt2
        have HX := Lib.hid (List.take_succ_eq_append_getElem hlt)
        have HY := Lib.hid (List.take_succ_eq_append_getElem hlt2)
        have HN := Lib.hid (show la = lb → la[k] = lb[k] from fun e => by subst e; rfl)
        generalize la[k] = x at *
        generalize lb[k] = y at *
        by_cases hxy : x = y
        · have h1 : (x != y) = false := by rw [hxy]; simp
          have HXY := Lib.hid hxy
          clear hxy
          go_wp2_with fail
          go_quiet (fail)
          go_wp2
          go_roundw
          case rel => exact ⟨k + 1, by omega, by go_num, by rw [HX.out, HY.out, HE.out, HXY.out], n + nq, by first | rfl | exact World.drewN_drewN _ _ _⟩
          case measure => simp [intOf]; omega
        · have h1 : (x != y) = true := by rw [bne_iff_ne]; exact hxy
          have hne : (la == lb) = false := beq_eq_false_iff_ne.2 fun e => hxy (HN.out e)
          have HNE := Lib.hid hne
          clear hne hxy
          go_wp2_with fail
          go_quiet (fail)
          go_wp2
          go_ret
          exact ⟨ret_bool HNE.out.symm, n + nq, by first | rfl | exact World.drewN_drewN _ _ _⟩
      · obtain rfl : k = la.length := by omega
        have hyes : (la == lb) = true := by
          rw [beq_iff_eq]
          have e1 := HE.out
          have e2 := HL.out
          rw [List.take_length, e2, List.take_length] at e1
          exact e1
        have HYES := Lib.hid hyes
        clear hyes
        go_wp2
        go_ret
        exact ⟨ret_bool HYES.out.symm, n, rfl⟩
  · have hlb : ((la.length : Int) != (lb.length : Int)) = true := by rw [bne_iff_ne]; omega
    have hlb2 : ((la.length : Int) == (lb.length : Int)) = false := beq_eq_false_iff_ne.2 (by omega)
    have HNE := Lib.hid (show (la == lb) = false from beq_eq_false_iff_ne.2 fun e => hl (by rw [e]))
    clear hl ha3 hb3
    go_enter Try.func33, Try.ntmps33
    go_wp2
    go_ret
    exact ⟨ret_bool HNE.out.symm, 0, rfl⟩

def RowsPost (ga gb : List (List Int)) (w : World) (e : Ending) (w' : World) : Prop := e = .returned (.bool (ga == gb)) ∧ ∃ n, w' = w.drewN n
theorem rows_any (w : World) (va vb : Value) (ga gb : List (List Int)) (ha : Grid w va ga) (hb : Grid w vb gb) :
    Calls Try.prog 16 #[va, vb] w (RowsPost ga gb w) := by
  obtain ⟨A, ca, rfl, ha1, ha2, ha3⟩ := ha
  obtain ⟨B, cb, rfl, hb1, hb2, hb3⟩ := hb
  unfold maxLen at ha2 hb2
  by_cases hl : ga.length = gb.length
  · have HA := Lib.hid ha3
    have HB := Lib.hid hb3
    have HL := Lib.hid hl
    have hlb : ((ga.length : Int) == (gb.length : Int)) = true := beq_iff_eq.2 (by omega)
    have hlb2 : ((ga.length : Int) != (gb.length : Int)) = false := by rw [hl]; simp
    clear ha3 hb3 hl
    go_enter Try.func16, Try.ntmps16
    go_wp2
    go_loopw [5] (fun i wr => ∃ k : Nat, k ≤ ga.length ∧ i = .int .i64 k ∧ ga.take k = gb.take k ∧ ∃ n, wr = w.drewN n) (fun i _ => ga.length - (intOf i).toNat)
    case atStart => exact ⟨0, by omega, rfl, rfl, 0, rfl⟩
    case round =>
      obtain ⟨k, hk, rfl, heq, n, hw⟩ := hrel
      have HW := Lib.hid hw
      clear hw
      have HE := Lib.hid heq
      clear heq
      by_cases hlt : k < ga.length
      · have hlt2 : k < gb.length := by have := HL.out; omega
        obtain ⟨ad, u, rfl, hc, hu⟩ := HA.out k hlt
        obtain ⟨bd, v, rfl, hd, hv⟩ := HB.out k hlt2
        have HX := Lib.hid (List.take_succ_eq_append_getElem hlt)
        have HY := Lib.hid (List.take_succ_eq_append_getElem hlt2)
        have HN := Lib.hid (show ga = gb → ga[k] = gb[k] from fun e => by subst e; rfl)
        have HU := Lib.hid (show Ints wr u ga[k] by rw [HW.out]; exact hu)
        have HV := Lib.hid (show Ints wr v gb[k] by rw [HW.out]; exact hv)
        have hc' : wr.cell? (ad.add k) = some u := by rw [HW.out]; exact hc
        have hd' : wr.cell? (bd.add k) = some v := by rw [HW.out]; exact hd
        clear hu hv hc hd
        generalize ga[k] = x at *
        generalize gb[k] = y at *
        by_cases hxy : x = y
        · have h1 : (x == y) = true := by rw [hxy]; simp
          have HXY := Lib.hid hxy
          clear hxy
          go_wp2_with fail
          go_quiet ((go_at_call 33; exact Calls.quiet_of (nums_any _ _ _ x y HU.out HV.out)))
          go_wp2
          go_roundw
          case rel => exact ⟨k + 1, by omega, by go_num, by rw [HX.out, HY.out, HE.out, HXY.out], n + nq, by rw [HW.out]; first | rfl | exact World.drewN_drewN _ _ _⟩
          case measure => simp [intOf]; omega
        · have h1 : (x == y) = false := beq_eq_false_iff_ne.2 hxy
          have HNE := Lib.hid (show (ga == gb) = false from beq_eq_false_iff_ne.2 fun e => hxy (HN.out e))
          clear hxy
          go_wp2_with fail
          go_quiet ((go_at_call 33; exact Calls.quiet_of (nums_any _ _ _ x y HU.out HV.out)))
          go_wp2
          go_ret
          exact ⟨ret_bool HNE.out.symm, n + nq, by rw [HW.out]; first | rfl | exact World.drewN_drewN _ _ _⟩
      · obtain rfl : k = ga.length := by omega
        have hyes : (ga == gb) = true := by
          rw [beq_iff_eq]
          have e1 := HE.out
          have e2 := HL.out
          rw [List.take_length, e2, List.take_length] at e1
          exact e1
        have HYES := Lib.hid hyes
        clear hyes
        go_wp2
        go_ret
        exact ⟨ret_bool HYES.out.symm, n, HW.out⟩
  · have hlb : ((ga.length : Int) != (gb.length : Int)) = true := by rw [bne_iff_ne]; omega
    have hlb2 : ((ga.length : Int) == (gb.length : Int)) = false := beq_eq_false_iff_ne.2 (by omega)
    have HNE := Lib.hid (show (ga == gb) = false from beq_eq_false_iff_ne.2 fun e => hl (by rw [e]))
    clear hl ha3 hb3
    go_enter Try.func16, Try.ntmps16
    go_wp2
    go_ret
    exact ⟨ret_bool HNE.out.symm, 0, rfl⟩

/-- Does an edge go from a to b? -/
def edgeB (g : List (List Int)) (a b : Int) : Bool := decide (0 ≤ a ∧ a < g.length ∧ 0 ≤ b ∧ b < g.length) && (g.getD a.toNat []).contains b
theorem edge_any (w : World) (v : Value) (g : List (List Int)) (a b : Int) (hg : Grid w v g) :
    Calls Try.prog 22 #[v, .int .i64 a, .int .i64 b] w fun e w' => e = .returned (.bool (edgeB g a b)) ∧ w' = w := by
  obtain ⟨A, ca, rfl, ha1, ha2, ha3⟩ := hg
  unfold maxLen at ha2
  have HA := Lib.hid ha3
  clear ha3
  by_cases hin : 0 ≤ a ∧ a < g.length ∧ 0 ≤ b ∧ b < g.length
  · have HE := Lib.hid (show edgeB g a b = (g.getD a.toNat []).contains b by unfold edgeB; rw [decide_eq_true hin]; rfl)
    obtain ⟨h1, h2, h3, h4⟩ := hin
    obtain ⟨k, rfl⟩ := Int.eq_ofNat_of_zero_le h1
    have hk : k < g.length := by omega
    obtain ⟨ad, u, rfl, hc, hu⟩ := HA.out k hk
    have HG := Lib.hid (show g.getD ((k : Int)).toNat [] = g[k] by rw [Int.toNat_natCast, List.getD_eq_getElem?_getD, List.getElem?_eq_getElem hk, Option.getD_some])
    have HU := Lib.hid hu
    clear hu
    generalize g[k] = l at *
    obtain ⟨B, cb, rfl, hb1, hb2, hb3⟩ := HU.out
    unfold maxLen at hb2
    have HB := Lib.hid hb3
    clear hb3
    have d1 : decide ((k : Int) < 0) = false := decide_eq_false (by omega)
    have d2 : decide (g.length ≤ k) = false := decide_eq_false (by omega)
    have d3 : decide (b < 0) = false := decide_eq_false (by omega)
    have d4 : decide ((g.length : Int) ≤ b) = false := decide_eq_false (by omega)
    go_enter Try.func22, Try.ntmps22
    go_wp2
    go_loop [7] (fun i => ∃ j : Nat, j ≤ l.length ∧ i = .int .i64 j ∧ b ∉ l.take j) (fun i => l.length - (intOf i).toNat)
    case atStart => exact ⟨0, by omega, rfl, by simp⟩
    case round =>
      obtain ⟨j, hj, rfl, hno⟩ := hrel
      have HNO := Lib.hid hno
      clear hno
      by_cases hlt : j < l.length
      · obtain ⟨bd, rfl, hbc⟩ := HB.out j hlt
        have HT := Lib.hid (List.take_succ_eq_append_getElem hlt)
        have HM := Lib.hid (show l[j] ∈ l from List.getElem_mem _)
        generalize l[j] = x at *
        by_cases hx : x = b
        · have h1 : (x == b) = true := beq_iff_eq.2 hx
          have HY := Lib.hid (show edgeB g k b = true by rw [HE.out, HG.out, List.contains_iff_mem, ← hx]; exact HM.out)
          clear hx
          go_wp2
          go_ret
          exact ⟨ret_bool HY.out.symm, rfl⟩
        · have h1 : (x == b) = false := beq_eq_false_iff_ne.2 hx
          have HX := Lib.hid hx
          clear hx
          go_wp2
          go_round
          case rel => exact ⟨j + 1, by omega, by go_num, by rw [HT.out, List.mem_append, List.mem_singleton]; exact fun h => h.elim HNO.out fun e => HX.out e.symm⟩
          case measure => simp [intOf]; omega
      · obtain rfl : j = l.length := by omega
        have HY := Lib.hid (show edgeB g k b = false by
          rw [HE.out, HG.out]
          have h := HNO.out
          rw [List.take_length] at h
          rw [Bool.eq_false_iff, ne_eq, List.contains_iff_mem]; exact h)
        go_wp2
        go_ret
        exact ⟨ret_bool HY.out.symm, rfl⟩
  · have HE := Lib.hid (show edgeB g a b = false by unfold edgeB; rw [decide_eq_false hin]; rfl)
    have hc : a < 0 ∨ (0 ≤ a ∧ g.length ≤ a) ∨ (0 ≤ a ∧ a < g.length ∧ b < 0) ∨ (0 ≤ a ∧ a < g.length ∧ 0 ≤ b ∧ g.length ≤ b) := by omega
    clear hin HA
    rcases hc with h1 | ⟨h1, h2⟩ | ⟨h1, h2, h3⟩ | ⟨h1, h2, h3, h4⟩
    all_goals
      go_enter Try.func22, Try.ntmps22
      go_wp2
      go_ret
      exact ⟨ret_bool HE.out.symm, rfl⟩
end Go.Proofs.Ythanbedmiaacdaa.Gr
