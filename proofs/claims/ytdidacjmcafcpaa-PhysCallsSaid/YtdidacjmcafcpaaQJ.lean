/- Stage 12: the law's nums: are two rows of numbers the same? -/
import Derived.Test.YtdidacjmcafcpaaQA
namespace Go.Proofs.Ytdidacjmcafcpaa.Ph
open Go.ChangeShapes Go.WideShapes Go.ChangeAt Go.RowKit Go.Proofs.Ytdidacjmcafcpaa.Mem Go.Proofs.Ytdidacjmcafcpaa.Kc Go.Proofs.Ytdidacjmcafcpaa.Pl Go.Proofs.Ytdidacjmcafcpaa.Mw Go.Proofs.Ytdidacjmcafcpaa.Mc Go.Proofs.Ytdidacjmcafcpaa.Br Go.Proofs.Ytdidacjmcafcpaa.Gr
set_option linter.unusedVariables false
set_option linter.unusedSimpArgs false
theorem below_drewJ {B : Nat} {w w' : World} (h : Below B w w') (n : Nat) : Below B w (w'.drewN n) := ⟨h.os, h.tape, h.output, h.size, h.block⟩
set_option maxRecDepth 100000 in
set_option maxHeartbeats 4000000 in
theorem nums_any (w : World) (va vb : Value) (la lb : List Int) (ha : Ints w va la) (hb : Ints w vb lb) :
    Calls Try.prog 8 #[va, vb] w fun e w' => e = .returned (.bool (decide (la = lb))) ∧ Below w.heap.size w w' := by
  obtain ⟨A, ca, rfl, a1, a2, a3⟩ := ha
  obtain ⟨B, cb, rfl, b1, b2, b3⟩ := hb
  unfold maxLen at a2 b2
  have HA := Lib.hid a3
  have HB := Lib.hid b3
  clear a3 b3
  by_cases hl : la.length = lb.length
  · have hlb : ((la.length : Int) != (lb.length : Int)) = false := by rw [hl]; simp
    have HL := Lib.hid hl
    clear hl
    go_enter Try.func8, Try.ntmps8
    go_wp2_with fail
    go_loopw [5] (fun i wr => ∃ k n : Nat, k ≤ la.length ∧ i = .int .i64 k ∧ la.take k = lb.take k ∧ wr = w.drewN n) (fun i _ => la.length - (intOf i).toNat)
    case atStart => exact ⟨0, 0, by omega, rfl, by simp, rfl⟩
    case round =>
      obtain ⟨k, n, hk, rfl, hpre, hw⟩ := hrel
      obtain ⟨wo, rfl⟩ : ∃ wo : World, wo = wr := ⟨_, rfl⟩
      have HPRE := Lib.hid hpre
      have HW := Lib.hid hw
      clear hpre
      by_cases hlt : k < la.length
      · have hrl : k < lb.length := by have := HL.out; omega
        obtain ⟨ad, rfl, hx⟩ := HA.out k hlt
        obtain ⟨bd, rfl, hy⟩ := HB.out k hrl
        have hx : wo.cell? (ad.add k) = some (.int .i64 la[k]) := by rw [hw]; exact hx
        have hy : wo.cell? (bd.add k) = some (.int .i64 lb[k]) := by rw [hw]; exact hy
        have HT := Lib.hid (show la.take (k + 1) = la.take k ++ [la[k]] from List.take_succ_eq_append_getElem hlt)
        have HR := Lib.hid (show lb.take (k + 1) = lb.take k ++ [lb[k]] from List.take_succ_eq_append_getElem hrl)
        have HNE := Lib.hid (show la[k] ≠ lb[k] → decide (la = lb) = false from fun hne => decide_eq_false (fun e => hne (by
          have h9 : la[k]? = lb[k]? := by rw [e]
          rw [List.getElem?_eq_getElem hlt, List.getElem?_eq_getElem hrl] at h9
          exact Option.some.inj h9)))
        generalize la[k] = x at *
        generalize lb[k] = y at *
        clear hw
        cases hxy : (x != y) with
        | true =>
          have HF := Lib.hid (HNE.out (bne_iff_ne.1 hxy))
          clear HT HR HNE
          go_wp2_with fail
          go_quiet (fail)
          go_wp2
          go_ret
          exact ⟨by rw [HF.out]; rfl, by rw [HW.out]; exact below_drewJ (below_drewJ (Below.refl _ w) _) _⟩
        | false =>
          have hxe : x = y := by simpa using hxy
          have HF := Lib.hid (show la.take (k + 1) = lb.take (k + 1) by rw [HT.out, HR.out, HPRE.out, hxe])
          clear HT HR HNE hxe
          go_wp2_with fail
          go_quiet (fail)
          go_wp2
          exact ⟨⟨k + 1, n + nq, by omega, by go_num, HF.out, by rw [HW.out]; simp [World.drewN, Nat.add_assoc]⟩, by simp [intOf]; omega⟩
      · obtain rfl : k = la.length := by omega
        have HF := Lib.hid (show decide (la = lb) = true from decide_eq_true (by have h9 := HPRE.out; rw [List.take_length, HL.out, List.take_length] at h9; exact h9))
        clear hw
        go_wp2
        go_ret
        exact ⟨by rw [HF.out]; rfl, by rw [HW.out]; exact below_drewJ (Below.refl _ w) n⟩
  · have HF := Lib.hid (show decide (la = lb) = false from decide_eq_false (fun e => hl (by rw [e])))
    have hlb : ((la.length : Int) != (lb.length : Int)) = true := by rw [bne_iff_ne]; omega
    clear hl
    go_enter Try.func8, Try.ntmps8
    go_wp2
    go_ret
    exact ⟨by rw [HF.out]; rfl, Below.refl _ _⟩
end Go.Proofs.Ytdidacjmcafcpaa.Ph
