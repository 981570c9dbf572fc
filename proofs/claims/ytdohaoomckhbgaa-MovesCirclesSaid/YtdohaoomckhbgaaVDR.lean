/- Moves: jacquardref11.Rows of rows that are the same. -/
import Derived.Test.YtdohaoomckhbgaaVDB
namespace Go.Proofs.Ytdohaoomckhbgaa.Vm
open Go.ChangeShapes Go.WideShapes Go.ChangeAt Go.RowKit Go.Maps Go.WideElems Go.ChangeMaps Go.Sort Go.Shelf Go.Proofs.Ytdohaoomckhbgaa.Mem Go.Proofs.Ytdohaoomckhbgaa.Br Go.Proofs.Ytdohaoomckhbgaa.Va Go.Proofs.Ytdohaoomckhbgaa.Vr
set_option linter.unusedVariables false
set_option linter.unusedSimpArgs false
attribute [local go_sem] Oper.semAt_some
theorem Grid.drawn {w : World} {v : Value} {g : List (List Int)} (h : Grid w v g) (n : Nat) : Grid (w.drewN n) v g := h
set_option maxRecDepth 100000 in
set_option maxHeartbeats 1000000 in
theorem rows_same (w : World) (va vb : Value) (g : List (List Int)) (ha : Grid w va g) (hb : Grid w vb g) :
    Calls Try.prog 25 #[va, vb] w fun e w' => e = .returned (.bool true) ∧ ∃ n, w' = w.drewN n := by
  obtain ⟨A, ca, rfl, a1, a2, a3⟩ := ha
  obtain ⟨B, cb, rfl, b1, b2, b3⟩ := hb
  unfold maxLen at a2 b2
  have HA := Lib.hid a3
  have HB := Lib.hid b3
  clear a3 b3
  have hlb : ((g.length : Int) != (g.length : Int)) = false := by simp
  go_enter Try.func25, Try.ntmps25
  go_wp2_with fail
  go_loopw [5] (fun i wr => ∃ k n : Nat, k ≤ g.length ∧ i = .int .i64 k ∧ wr = w.drewN n) (fun i _ => g.length - (intOf i).toNat)
  case atStart => exact ⟨0, 0, by omega, rfl, rfl⟩
  case round =>
    obtain ⟨k, n, hk, rfl, hw⟩ := hrel
    obtain ⟨wo, rfl⟩ : ∃ wo : World, wo = wr := ⟨_, rfl⟩
    have HW := Lib.hid hw
    by_cases hlt : k < g.length
    · obtain ⟨ad, u, rfl, hx, hu⟩ := HA.out k hlt
      obtain ⟨bd, u', rfl, hy, hu'⟩ := HB.out k hlt
      obtain ⟨A1, c1, rfl, p1, p2, p3⟩ := hu
      obtain ⟨B1, d1, rfl, q1, q2, q3⟩ := hu'
      unfold maxLen at p2 q2
      have HX := Lib.hid hx
      have HY := Lib.hid hy
      have hx : wo.cell? (ad.add k) = some (.slice A1 g[k].length c1) := by rw [hw]; exact hx
      have hy : wo.cell? (bd.add k) = some (.slice B1 g[k].length d1) := by rw [hw]; exact hy
      have HP := Lib.hid p3
      have HQ := Lib.hid q3
      clear p3 q3 hw
      generalize g[k] = r at *
      have hlr : ((r.length : Int) != (r.length : Int)) = false := by simp
      go_wp2_with fail
      go_quiet (fail)
      go_wp2_with fail
      have HW2 := Lib.hid (show ∃ m, wo.drewN nq = w.drewN m from ⟨n + nq, by rw [HW.out]; simp [World.drewN, Nat.add_assoc]⟩)
      generalize wo.drewN nq = wp at *
      go_loopw [6] (fun i wr => ∃ j m : Nat, j ≤ r.length ∧ i = .int .i64 j ∧ wr = w.drewN m) (fun i _ => r.length - (intOf i).toNat)
      case atStart => obtain ⟨m, hm⟩ := HW2.out; exact ⟨0, m, by omega, rfl, hm⟩
      case round =>
        obtain ⟨j, m, hj, rfl, hw⟩ := hrel
        obtain ⟨wv, rfl⟩ : ∃ wv : World, wv = wr := ⟨_, rfl⟩
        have HV := Lib.hid hw
        by_cases hjl : j < r.length
        · obtain ⟨ae, rfl, hz⟩ := HP.out j hjl
          obtain ⟨be, rfl, hz'⟩ := HQ.out j hjl
          have hx : wv.cell? (ad.add k) = some (.slice (some ae) r.length c1) := by rw [hw]; exact HX.out
          have hy : wv.cell? (bd.add k) = some (.slice (some be) r.length d1) := by rw [hw]; exact HY.out
          have hz : wv.cell? (ae.add j) = some (.int .i64 r[j]) := by rw [hw]; exact hz
          have hz' : wv.cell? (be.add j) = some (.int .i64 r[j]) := by rw [hw]; exact hz'
          clear hw
          generalize r[j] = z at *
          have hzz : (z != z) = false := by simp
          go_wp2_with fail
          go_quiet (fail)
          go_wp2
          exact ⟨⟨j + 1, m + nq, by omega, by go_num, by rw [HV.out]; simp [World.drewN, Nat.add_assoc]⟩, by simp [intOf]; omega⟩
        · obtain rfl : j = r.length := by omega
          have hx : wv.cell? (ad.add k) = some (.slice A1 r.length c1) := by rw [hw]; exact HX.out
          clear hw
          go_wp2
          exact ⟨⟨k + 1, m, by omega, by go_num, by rw [HV.out]⟩, by simp [intOf]; omega⟩
    · obtain rfl : k = g.length := by omega
      go_wp2
      go_ret
      exact ⟨rfl, n, rfl⟩
end Go.Proofs.Ytdohaoomckhbgaa.Vm
