/- What package graph's common answers. -/
import Derived.Test.YtdfehpcbcgbidaaOrder
namespace Go.Proofs.Ytdfehpcbcgbidaa.Gc
open Go.ChangeShapes Go.WideShapes Go.ChangeAt Go.RowKit Go.Proofs.Ytdfehpcbcgbidaa.Mem Go.Proofs.Ytdfehpcbcgbidaa.Gr Go.Proofs.Ytdfehpcbcgbidaa.Gn
set_option linter.unusedVariables false

/-- Each number's entry, but that of 0, is below it. -/
def Falls (l : List Nat) : Prop := ∀ k, 0 < k → k < l.length → l.getD k 0 < k
theorem ret_nat {a b : Nat} (h : a = b) : Ending.returned (.int .i64 (a : Int)) = .returned (.int .i64 (b : Int)) := by rw [h]
set_option maxRecDepth 100000 in
set_option maxHeartbeats 2000000 in
theorem common_any (w : World) (v : Value) (l : List Nat) (a b : Nat) (hv : Ints w v (li l)) (hl : l.length ≤ 1000) (hf : Falls l) (ha : a < l.length) (hb : b < l.length) :
    Calls Try.prog 91 #[v, .int .i64 a, .int .i64 b] w fun e w' => e = .returned (.int .i64 (commonN l (a + b) a b : Nat)) ∧ w = w' := by
  obtain ⟨A, c, rfl, h1, h2, h3⟩ := hv
  rw [li_len] at h1 ⊢
  unfold maxLen at h2
  have HA := Lib.hid h3
  have HF := Lib.hid hf
  clear h3 hf
  go_enter Try.func91, Try.ntmps91
  go_wp2
  go_step3
  go_wp2
  go_step3
  go_wp2
  go_loop [1, 2] (fun s t => ∃ (f x y : Nat), x + y ≤ f ∧ x < l.length ∧ y < l.length ∧ s = .int .i64 x ∧ t = .int .i64 y ∧ commonN l f x y = commonN l (a + b) a b) (fun s t => (intOf s).toNat + (intOf t).toNat)
  case atStart => exact ⟨a + b, a, b, by omega, ha, hb, rfl, rfl, rfl⟩
  case round =>
    obtain ⟨f, x, y, hxy, hx, hy, rfl, rfl, hc⟩ := hrel
    have HC := Lib.hid hc
    clear hc
    by_cases h5 : y < x
    · have hx1 : x < (li l).length := by rw [li_len]; exact hx
      obtain ⟨ad, rfl, hcx⟩ := HA.out x hx1
      rw [li_at hx hx1] at hcx
      have hfx := HF.out x (by omega) hx
      rw [List.getD_eq_getElem?_getD, List.getElem?_eq_getElem hx, Option.getD_some] at hfx
      have HN := Lib.hid (show commonN l (f - 1) l[x] y = commonN l (a + b) a b by
        rw [← HC.out]
        obtain ⟨g, rfl⟩ : ∃ g, f = g + 1 := ⟨f - 1, by omega⟩
        rw [show g + 1 - 1 = g by omega, commonN, if_pos h5, List.getD_eq_getElem?_getD, List.getElem?_eq_getElem hx, Option.getD_some])
      generalize l[x] = z at *
      go_wp2
      go_round
      case rel => exact ⟨f - 1, z, y, by omega, by omega, hy, rfl, rfl, HN.out⟩
      case measure => simp [intOf]; omega
    · by_cases h6 : x < y
      · have hy1 : y < (li l).length := by rw [li_len]; exact hy
        obtain ⟨ad, rfl, hcx⟩ := HA.out y hy1
        rw [li_at hy hy1] at hcx
        have hfx := HF.out y (by omega) hy
        rw [List.getD_eq_getElem?_getD, List.getElem?_eq_getElem hy, Option.getD_some] at hfx
        have HN := Lib.hid (show commonN l (f - 1) x l[y] = commonN l (a + b) a b by
          rw [← HC.out]
          obtain ⟨g, rfl⟩ : ∃ g, f = g + 1 := ⟨f - 1, by omega⟩
          rw [show g + 1 - 1 = g by omega, commonN, if_neg h5, if_pos h6, List.getD_eq_getElem?_getD, List.getElem?_eq_getElem hy, Option.getD_some])
        generalize l[y] = z at *
        go_wp2
        go_round
        case rel => exact ⟨f - 1, x, z, by omega, hx, by omega, rfl, rfl, HN.out⟩
        case measure => simp [intOf]; omega
      · have HN := Lib.hid (show x = commonN l (a + b) a b by
          rw [← HC.out]
          cases f with
          | zero => rfl
          | succ f => rw [commonN, if_neg h5, if_neg h6])
        go_wp2
        go_ret
        exact ⟨ret_nat HN.out, rfl⟩
end Go.Proofs.Ytdfehpcbcgbidaa.Gc
