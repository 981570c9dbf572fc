/- Plain mathematics for the laws of graphs: chains; how a row that came in is read. -/
import Derived.Test.YthanbedmiaacdaaAwake
import Derived.Test.YthanbedmiaacdaaChain
import Derived.Test.YthanbedmiaacdaaDominates
namespace Go.Proofs.Ythanbedmiaacdaa.Gl
open Go.ChangeShapes Go.WideShapes Go.ChangeAt Go.RowKit Go.Proofs.Ythanbedmiaacdaa.Mem Go.Proofs.Ythanbedmiaacdaa.Gr Go.Proofs.Ythanbedmiaacdaa.Gn Go.Proofs.Ythanbedmiaacdaa.Gc
set_option linter.unusedVariables false

theorem known_iff {l : List Int} {n : Int} : known l n = true ↔ 0 ≤ n ∧ n < l.length := by
  unfold known
  rw [Bool.and_eq_true, decide_eq_true_eq, decide_eq_true_eq]
theorem chase_is {l : List Int} {a : Int} : ∀ (k : Nat) (b : Int), chase l a (k + 1) b = (a == chainTo l a k b)
  | 0, b => by
    unfold chase chainTo
    by_cases h : b = a
    · subst h; simp
    · rw [if_neg h]
      have : (a == b) = false := beq_eq_false_iff_ne.2 fun e => h e.symm
      rw [this]
      split <;> rfl
  | k + 1, b => by
    have ih := chase_is (l := l) (a := a) k (l.getD b.toNat 0)
    rw [chase, chainTo]
    by_cases h : b = a
    · subst h; simp
    · rw [if_neg h]
      have hab : (a == b) = false := beq_eq_false_iff_ne.2 fun e => h e.symm
      by_cases hk : 0 ≤ b ∧ b < l.length
      · rw [if_pos hk, ih]
        have : known l b = true := known_iff.2 hk
        rw [this, hab]; rfl
      · rw [if_neg hk]
        have : known l b = false := by
          rcases hb : known l b with _ | _
          · rfl
          · exact absurd (known_iff.1 hb) hk
        rw [this]
        simp [hab]
theorem dominates_same (l : List Int) (a b : Int) : dominatesN l a b = dominatesL l a b := by
  unfold dominatesN dominatesL
  by_cases h : 0 ≤ a ∧ a < l.length ∧ 0 ≤ b ∧ b < l.length
  · rw [if_pos h, chase_is]
    rcases hc : (a == chainTo l a l.length b) with _ | _
    · simp
    · have := beq_iff_eq.1 hc
      rw [← this, known_iff.2 ⟨h.1, h.2.1⟩]; rfl
  · rw [if_neg h]
    rcases hc : (a == chainTo l a l.length b) with _ | _
    · simp
    · have e := beq_iff_eq.1 hc
      rw [← e]
      rcases ha : known l a with _ | _
      · rfl
      · exfalso
        have ha' := known_iff.1 ha
        have hb : known l b = false := by
          rcases hb : known l b with _ | _
          · rfl
          · exact absurd ⟨ha'.1, ha'.2, known_iff.1 hb⟩ h
        have : chainTo l a l.length b = b := by
          cases l.length with
          | zero => rfl
          | succ k => rw [chainTo, hb]; rfl
        rw [this] at e
        rw [e, hb] at ha
        cases ha
theorem chain_self (l : List Int) (x : Int) : ∀ k, chainTo l x k x = x
  | 0 => rfl
  | k + 1 => by rw [chainTo]; simp
theorem dominates_self {l : List Int} {x : Int} (h : 0 ≤ x ∧ x < l.length) : dominatesN l x x = true := by
  unfold dominatesN
  rw [chain_self, known_iff.2 h]; simp
theorem dominates_nil (a b : Int) : dominatesN [] a b = false := by
  rw [dominates_same]
  unfold dominatesL
  rw [if_neg (by rintro ⟨h1, h2, _⟩; simp at h2; omega)]
/-- A row that came in, so far as it is read. -/
theorem row_ints {w : World} {a : Option Addr} {len cap : Nat} {zs : List Int} (h : (a = none ∧ len = 0 ∧ cap = 0 ∧ zs = []) ∨
    ∃ x, a = some x ∧ len ≤ cap ∧ cap ≤ maxLen ∧ zs.length = cap ∧ (∀ i, i < zs.length → w.cell? (x.add i) = some (.int .i64 (zs.getD i 0))) ∧ ∀ n ∈ zs, (Lit.int .i64 n).wf = true) {k : Nat} (hk : k ≤ len) :
    (zs.take k).length = k ∧ Ints w (.slice a k cap) (zs.take k) := by
  rcases h with ⟨rfl, rfl, rfl, rfl⟩ | ⟨x, rfl, h1, h2, h3, h4, h5⟩
  · have : k = 0 := by omega
    subst this
    exact ⟨rfl, none, 0, rfl, Nat.le_refl _, Nat.zero_le _, fun j hj => by cases hj⟩
  · have hl : (zs.take k).length = k := by rw [List.length_take]; omega
    refine ⟨hl, some x, cap, by rw [hl], by rw [hl]; omega, h2, fun j hj => ⟨x, rfl, ?_⟩⟩
    rw [hl] at hj
    rw [h4 j (by omega), List.getElem_take, List.getD_eq_getElem?_getD, List.getElem?_eq_getElem (by omega)]; rfl
end Go.Proofs.Ythanbedmiaacdaa.Gl
