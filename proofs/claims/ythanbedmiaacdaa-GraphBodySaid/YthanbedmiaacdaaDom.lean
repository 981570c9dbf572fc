/- What jacquardref02's Dom answers: does one block dominate another? -/
import Derived.Test.YthanbedmiaacdaaWithout
namespace Go.Proofs.Ythanbedmiaacdaa.Gr
open Go.ChangeShapes Go.WideShapes Go.ChangeAt Go.RowKit Go.Proofs.Ythanbedmiaacdaa.Mem
set_option linter.unusedVariables false

/-- Is block a there, by a row of bools? -/
def has (l : List Bool) (a : Int) : Bool := decide (0 ≤ a ∧ a < l.length) && l.getD a.toNat false
def domB (g : List (List Int)) (a b : Int) : Bool := has (withoutL g (-1)) a && has (withoutL g (-1)) b && (a == b || !has (withoutL g a) b)
theorem withoutL_len (g : List (List Int)) (gone : Int) : (withoutL g gone).length = g.length := by
  unfold withoutL; split
  · simp
  · exact sweeps_len _ _ _
theorem has_at {l : List Bool} {a : Nat} (h : a < l.length) : has l a = l[a] := by
  unfold has; rw [decide_eq_true ⟨by omega, by omega⟩, Int.toNat_natCast, List.getD_eq_getElem?_getD, List.getElem?_eq_getElem h]; rfl
theorem has_out {l : List Bool} {a : Int} (h : a < 0 ∨ l.length ≤ a) : has l a = false := by
  unfold has; rw [decide_eq_false (by omega)]; rfl
def Told (x : Bool) (w : World) (e : Ending) (w' : World) : Prop := e = .returned (.bool x) ∧ Below w.heap.size w w'
set_option maxRecDepth 100000 in
set_option maxHeartbeats 1000000 in
theorem dom_any (w : World) (v : Value) (g : List (List Int)) (a b : Int) (hg : Grid w v g) (hsz : g.length ≤ 4096) :
    Calls Try.prog 26 #[v, .int .i64 a, .int .i64 b] w (Told (domB g a b) w) := by
  have HG := Lib.hid hg
  obtain ⟨A, ca, rfl, ha1, ha2, ha3⟩ := hg
  unfold maxLen at ha2
  clear ha3
  have HL := Lib.hid (withoutL_len g (-1))
  by_cases hin : 0 ≤ a ∧ a < g.length ∧ 0 ≤ b ∧ b < g.length
  · obtain ⟨h1, h2, h3, h4⟩ := hin
    obtain ⟨a, rfl⟩ := Int.eq_ofNat_of_zero_le h1
    obtain ⟨b, rfl⟩ := Int.eq_ofNat_of_zero_le h3
    have hla : a < (withoutL g (-1)).length := by rw [HL.out]; omega
    have hlb : b < (withoutL g (-1)).length := by rw [HL.out]; omega
    have HA := Lib.hid (has_at hla)
    have HB := Lib.hid (has_at hlb)
    have d1 : decide ((a : Int) < 0) = false := decide_eq_false (by omega)
    have d2 : decide (g.length ≤ a) = false := decide_eq_false (by omega)
    have d3 : decide ((b : Int) < 0) = false := decide_eq_false (by omega)
    have d4 : decide (g.length ≤ b) = false := decide_eq_false (by omega)
    go_enter Try.func26, Try.ntmps26
    go_wp2_with fail
    refine (without_any _ _ g (-1) HG.out hsz).mono ?_
    rintro e w1 ⟨rfl, hown, hb⟩
    have hca := hown.cell hla
    have hcb := hown.cell hlb
    have HB1 := Lib.hid hb
    clear hown hb
    generalize (withoutL g (-1))[a] = x at *
    generalize (withoutL g (-1))[b] = y at *
    cases x
    · have HD := Lib.hid (show domB g a b = false by unfold domB; rw [HA.out]; rfl)
      rw [HL.out]
      go_wp2
      go_ret
      exact ⟨ret_bool HD.out.symm, HB1.out⟩
    · cases y
      · have HD := Lib.hid (show domB g a b = false by unfold domB; rw [HA.out, HB.out]; rfl)
        rw [HL.out]
        go_wp2
        go_ret
        exact ⟨ret_bool HD.out.symm, HB1.out⟩
      · by_cases hab : a = b
        · subst hab
          have HD := Lib.hid (show domB g a a = true by unfold domB; rw [HA.out]; simp)
          have hbe : ((a : Int) == (a : Int)) = true := by simp
          rw [HL.out]
          go_wp2
          go_ret
          exact ⟨ret_bool HD.out.symm, HB1.out⟩
        · have hbe : ((a : Int) == (b : Int)) = false := beq_eq_false_iff_ne.2 (by omega)
          have hlc : b < (withoutL g a).length := by rw [withoutL_len]; omega
          have HC := Lib.hid (has_at hlc)
          have HD := Lib.hid (show domB g a b = !has (withoutL g a) b by unfold domB; rw [HA.out, HB.out, hbe]; simp)
          clear hab
          rw [HL.out]
          go_wp2_with fail
          refine (without_any _ _ g a (HG.out.keep HB1.out) hsz).mono ?_
          rintro e w2 ⟨rfl, hown, hb⟩
          have hcc := hown.cell hlc
          have HB2 := Lib.hid (HB1.out.trans (hb.mono HB1.out.size))
          clear hown hb
          have HL2 := Lib.hid (withoutL_len g a)
          generalize (withoutL g a)[b] = z at *
          rw [HL2.out]
          go_wp2
          go_ret
          exact ⟨ret_bool (by rw [HD.out, HC.out]), HB2.out⟩
  · have hc : a < 0 ∨ (0 ≤ a ∧ g.length ≤ a) ∨ (0 ≤ a ∧ a < g.length ∧ b < 0) ∨ (0 ≤ a ∧ a < g.length ∧ 0 ≤ b ∧ g.length ≤ b) := by omega
    have HD := Lib.hid (show domB g a b = false by
      unfold domB
      rcases hc with h | ⟨_, h⟩ | ⟨_, _, h⟩ | ⟨_, _, _, h⟩
      · rw [has_out (Or.inl h)]; rfl
      · rw [has_out (Or.inr (by rw [HL.out]; exact h))]; rfl
      · rw [has_out (a := b) (Or.inl h)]; simp
      · rw [has_out (a := b) (Or.inr (by rw [HL.out]; exact h))]; simp)
    clear hin
    rcases hc with h1 | ⟨h1, h2⟩ | ⟨h1, h2, h3⟩ | ⟨h1, h2, h3, h4⟩
    all_goals
      go_enter Try.func26, Try.ntmps26
      go_wp2_with fail
      refine (without_any _ _ g (-1) HG.out hsz).mono ?_
      rintro e w1 ⟨rfl, hown, hb⟩
      have HB1 := Lib.hid hb
      clear hown hb
      rw [HL.out]
      go_wp2
      go_ret
      exact ⟨ret_bool HD.out.symm, HB1.out⟩
end Go.Proofs.Ythanbedmiaacdaa.Gr
