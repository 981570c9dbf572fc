/- What the reference's Pairs answers: are two rows of edges the same? -/
import Derived.Test.YthanbedmiaacdaaCritC
import Derived.ChangeKeysEq
import Derived.Laws.StructEq
import Derived.Deep.QuietTactic
import Derived.BigQuiet
namespace Go.Proofs.Ythanbedmiaacdaa.Gc
open Go.ChangeShapes Go.WideShapes Go.ChangeAt Go.RowKit Go.Shelf Go.Proofs.Ythanbedmiaacdaa.Mem Go.Proofs.Ythanbedmiaacdaa.Gr Go.Proofs.Ythanbedmiaacdaa.Gn Go.Proofs.Ythanbedmiaacdaa.Br Go.Proofs.Ythanbedmiaacdaa.Rp
set_option linter.unusedVariables false

theorem eqIn_pair (n : Nat) (w : World) (a b c d : Int) : (Op.equalIn (n + 2) 52 (.agg #[.int .i64 a, .int .i64 b]) (.agg #[.int .i64 c, .int .i64 d])).run Try.prog w = .ok (a == c && b == d) w := by
  obtain ⟨i1, hj, hy0, hy1, hy2⟩ := info_parts info_int2
  rw [run_equalIn_array w (n + 1) _ _ Try.underlying52 hj]
  have hc : Try.prog.cellsOf 3 = 1 := by kernel_rfl
  rw [hc]
  simp [Op.eqItems, List.range_succ, part, run_equalIn_int w n 3 .i64 .i64 _ _ Try.underlying3]
  by_cases h1 : a = c
  · by_cases h2 : b = d <;> simp [h1, h2]
  · simp [h1]
theorem neq_pair (w : World) (a b c d : Int) : (binOp .neq 52 (.agg #[.int .i64 a, .int .i64 b]) (.agg #[.int .i64 c, .int .i64 d])).run Try.prog w = .ok (.bool (!(a == c && b == d))) w := by
  rw [run_neq_struct]
  have := eqIn_pair 9998 w a b c d
  rw [show (9998 + 2 : Nat) = 10000 from rfl] at this
  rw [this]
  rfl
theorem OwnPairs.ranges {B : Nat} {w : World} {v : Value} {l : List (Int × Int)} (h : OwnPairs B w v l) : Ranges w v l := by
  rcases h.2 with ⟨rfl, h0⟩ | ⟨g, cap, cur, rfl, hg, hh, h1, h2, h3, h4⟩
  · exact ⟨none, 0, by rw [h0], by omega, Nat.zero_le _, fun j hj => by omega⟩
  · refine ⟨_, _, rfl, by omega, by omega, fun j hj => ⟨g, rfl, ?_⟩⟩
    obtain ⟨a1, a2⟩ := rgs_at l j
    rw [List.getElem?_eq_getElem hj] at a1 a2
    exact ⟨by rw [World.ownsRow.cellAt h _ (by omega), a1]; rfl, by rw [World.ownsRow.cellAt h _ (by omega), a2]; rfl⟩
def PairsPost (la lb : List (Int × Int)) (w : World) (e : Ending) (w' : World) : Prop := e = .returned (.bool (la == lb)) ∧ ∃ n, w' = w.drewN n
set_option maxRecDepth 100000 in
set_option maxHeartbeats 1000000 in
theorem pairs_any (w : World) (va vb : Value) (la lb : List (Int × Int)) (ha : Ranges w va la) (hb : Ranges w vb lb) (hla : la.length ≤ 1000000) (hlb' : lb.length ≤ 1000000) :
    Calls Try.prog 34 #[va, vb] w (PairsPost la lb w) := by
  obtain ⟨A, ca, rfl, ha1, ha2, ha3⟩ := ha
  obtain ⟨B, cb, rfl, hb1, hb2, hb3⟩ := hb
  unfold maxLen at ha2 hb2
  by_cases hl : la.length = lb.length
  · have HA := Lib.hid ha3
    have HB := Lib.hid hb3
    have HL := Lib.hid hl
    have hlb : ((la.length : Int) == (lb.length : Int)) = true := beq_iff_eq.2 (by omega)
    have hlb2 : ((la.length : Int) != (lb.length : Int)) = false := by rw [hl]; simp
    clear ha3 hb3 hl
    go_enter Try.func34, Try.ntmps34
    go_wp2
    go_loopw [5] (fun i wr => ∃ k : Nat, k ≤ la.length ∧ i = .int .i64 k ∧ la.take k = lb.take k ∧ ∃ n, wr = w.drewN n) (fun i _ => la.length - (intOf i).toNat)
    case atStart => exact ⟨0, by omega, rfl, rfl, 0, rfl⟩
    case round =>
      obtain ⟨k, hk, rfl, heq, n, rfl⟩ := hrel
      have HE := Lib.hid heq
      clear heq
      by_cases hlt : k < la.length
      · have hlt2 : k < lb.length := by have := HL.out; omega
        obtain ⟨ga, rfl, hc, hc'⟩ := HA.out k hlt
        obtain ⟨gb, rfl, hd, hd'⟩ := HB.out k hlt2
        have HX := Lib.hid (List.take_succ_eq_append_getElem hlt)
        have HY := Lib.hid (List.take_succ_eq_append_getElem hlt2)
        have HN := Lib.hid (show la = lb → la[k] = lb[k] from fun e => by subst e; rfl)
        generalize la[k] = x at *
        generalize lb[k] = y at *
        obtain ⟨x1, x2⟩ := x
        obtain ⟨y1, y2⟩ := y
        simp only at hc hc' hd hd'
        have hnq : ∀ W, (binOp .neq 52 (.agg #[.int .i64 x1, .int .i64 x2]) (.agg #[.int .i64 y1, .int .i64 y2])).run Try.prog W = .ok (.bool (!(x1 == y1 && x2 == y2))) W := fun W => neq_pair W x1 x2 y1 y2
        cases hxy : (x1 == y1 && x2 == y2) with
        | true =>
          rw [hxy] at hnq
          have HXY := Lib.hid (show (x1, x2) = (y1, y2) by rw [Bool.and_eq_true, beq_iff_eq, beq_iff_eq] at hxy; rw [hxy.1, hxy.2])
          clear hxy
          go_wp2_with fail
          go_quiet (fail)
          go_wp2
          go_roundw
          case rel => exact ⟨k + 1, by omega, by go_num, by rw [HX.out, HY.out, HE.out, HXY.out], n + nq, by first | rfl | exact World.drewN_drewN _ _ _⟩
          case measure => simp [intOf]; omega
        | false =>
          rw [hxy] at hnq
          have HNE := Lib.hid (show (la == lb) = false from beq_eq_false_iff_ne.2 fun e => by
            have := HN.out e
            injection this with e1 e2
            rw [e1, e2] at hxy
            simp at hxy)
          clear hxy
          go_wp2_with fail
          go_quiet (fail)
          go_wp2
          go_ret
          exact ⟨ret_bool HNE.out.symm, n + nq, by first | rfl | exact World.drewN_drewN _ _ _⟩
      · obtain rfl : k = la.length := by omega
        have hyes : (la == lb) = true := by
          rw [beq_iff_eq]
          have e1 := HE.out
          have e2 := HL.out
          rw [List.take_length, e2, List.take_length] at e1
          exact e1
        have HYES := Lib.hid hyes
        clear hyes
        go_wp2
        go_ret
        exact ⟨ret_bool HYES.out.symm, n, rfl⟩
  · have hlb : ((la.length : Int) != (lb.length : Int)) = true := by rw [bne_iff_ne]; omega
    have hlb2 : ((la.length : Int) == (lb.length : Int)) = false := beq_eq_false_iff_ne.2 (by omega)
    have HNE := Lib.hid (show (la == lb) = false from beq_eq_false_iff_ne.2 fun e => hl (by rw [e]))
    clear hl ha3 hb3
    go_enter Try.func34, Try.ntmps34
    go_wp2
    go_ret
    exact ⟨ret_bool HNE.out.symm, 0, rfl⟩
end Go.Proofs.Ythanbedmiaacdaa.Gc
