/- The decimal text of a word: plain mathematics; no Go in sight. -/
import Derived.Test.YtcmhcpdfgcmbiaaPlain
namespace Go.Proofs.Ytcmhcpdfgcmbiaa.Pl
open Go.RowKit

/-- The digits of a number. -/
def digs (m : Nat) : List UInt8 := if h : m < 10 then [UInt8.ofNat (48 + m)] else digs (m / 10) ++ [UInt8.ofNat (48 + m % 10)]
termination_by m
decreasing_by omega
theorem digs_lt {m : Nat} (h : m < 10) : digs m = [UInt8.ofNat (48 + m)] := by rw [digs, dif_pos h]
theorem digs_ge {m : Nat} (h : ¬ m < 10) : digs m = digs (m / 10) ++ [UInt8.ofNat (48 + m % 10)] := by rw [digs, dif_neg h]
/-- The text of a word. -/
def textOf (n : Int) : List UInt8 := if n < 0 then 45 :: digs n.natAbs else digs n.natAbs
/-- The number that digits are. -/
def evalD (l : List UInt8) : Nat := l.foldl (fun v c => v * 10 + (c.toNat - 48)) 0
theorem evalD_snoc (l : List UInt8) (c : UInt8) : evalD (l ++ [c]) = evalD l * 10 + (c.toNat - 48) := by unfold evalD; rw [List.foldl_append]; rfl
theorem digit_nat {d : Nat} (h : d < 10) : (UInt8.ofNat (48 + d)).toNat = 48 + d := by
  rw [UInt8.toNat_ofNat']; omega
theorem digs_eval (m : Nat) : evalD (digs m) = m := by
  induction m using Nat.strongRecOn with
  | _ m ih =>
    by_cases h : m < 10
    · rw [digs_lt h]; unfold evalD; simp only [List.foldl_cons, List.foldl_nil]; rw [digit_nat h]; omega
    · rw [digs_ge h, evalD_snoc, ih (m / 10) (by omega), digit_nat (by omega)]; omega
theorem digs_all (m : Nat) : ∀ c ∈ digs m, 48 ≤ c.toNat ∧ c.toNat ≤ 57 := by
  induction m using Nat.strongRecOn with
  | _ m ih =>
    intro c hc
    by_cases h : m < 10
    · rw [digs_lt h, List.mem_singleton] at hc
      subst hc; rw [digit_nat h]; omega
    · rw [digs_ge h, List.mem_append, List.mem_singleton] at hc
      rcases hc with hc | hc
      · exact ih (m / 10) (by omega) c hc
      · subst hc; rw [digit_nat (by omega)]; omega
theorem digs_ne (m : Nat) : digs m ≠ [] := by
  by_cases h : m < 10
  · rw [digs_lt h]; simp
  · rw [digs_ge h]; simp
theorem digs_len (k : Nat) : ∀ m : Nat, m < 10 ^ (k + 1) → (digs m).length ≤ k + 1 := by
  induction k with
  | zero => intro m hm; rw [digs_lt (by simpa using hm)]; simp
  | succ k ih =>
    intro m hm
    by_cases h : m < 10
    · rw [digs_lt h]; simp
    · rw [digs_ge h, List.length_append]
      have := ih (m / 10) (by rw [Nat.pow_succ] at hm; omega)
      simp; omega
/-- No nought stands ahead of other digits. -/
theorem digs_head (m : Nat) (l : List UInt8) (h : digs m = 48 :: l) : m = 0 ∧ l = [] := by
  induction m using Nat.strongRecOn generalizing l with
  | _ m ih =>
    by_cases hm : m < 10
    · rw [digs_lt hm] at h
      injection h with h1 h2
      have := congrArg UInt8.toNat h1
      rw [digit_nat hm] at this
      exact ⟨by simpa using this, h2.symm⟩
    · rw [digs_ge hm] at h
      cases hd : digs (m / 10) with
      | nil => exact absurd hd (digs_ne _)
      | cons c r =>
        rw [hd] at h
        injection h with h1 h2
        subst h1
        have := ih (m / 10) (by omega) r hd
        omega
theorem digs_inj {a b : Nat} (h : digs a = digs b) : a = b := by rw [← digs_eval a, ← digs_eval b, h]
theorem digs_minus (m : Nat) (l : List UInt8) (c : UInt8) (hc : c.toNat < 48 ∨ 57 < c.toNat) : digs m ≠ c :: l := by
  intro h
  have := digs_all m c (by rw [h]; simp)
  omega
theorem textOf_inj {a b : Int} (h : textOf a = textOf b) : a = b := by
  unfold textOf at h
  by_cases ha : a < 0 <;> by_cases hb : b < 0
  · rw [if_pos ha, if_pos hb] at h; injection h with _ h; have := digs_inj h; omega
  · rw [if_pos ha, if_neg hb] at h; exact absurd h.symm (digs_minus _ _ 45 (by decide))
  · rw [if_neg ha, if_pos hb] at h; exact absurd h (digs_minus _ _ 45 (by decide))
  · rw [if_neg ha, if_neg hb] at h; have := digs_inj h; omega
theorem textOf_len {n : Int} (h : -2147483648 ≤ n ∧ n ≤ 2147483647) : (textOf n).length ≤ 11 := by
  have := digs_len 9 n.natAbs (by omega)
  unfold textOf; split
  · simp; omega
  · omega
theorem textOf_ne (n : Int) : textOf n ≠ [] := by
  unfold textOf; split
  · simp
  · exact digs_ne _
theorem no_nought (n m : Int) : textOf m ≠ 48 :: textOf n := by
  intro h
  unfold textOf at h
  by_cases hm : m < 0
  · rw [if_pos hm] at h; injection h with h _; revert h; decide
  · rw [if_neg hm] at h
    have := (digs_head _ _ h).2
    exact textOf_ne n this
theorem no_plus (m : Int) (l : List UInt8) : textOf m ≠ 43 :: l := by
  intro h
  unfold textOf at h
  by_cases hm : m < 0
  · rw [if_pos hm] at h; injection h with h _; revert h; decide
  · rw [if_neg hm] at h; exact digs_minus _ _ 43 (by decide) h
/-- A text that goes on by one sign: the sign is a digit, and what stands ahead is the word by ten. -/
theorem more_digit {n d : Int} {c : UInt8} (h : textOf d = textOf n ++ [c]) : 48 ≤ c.toNat ∧ c.toNat ≤ 57 ∧ d.tdiv 10 = n ∧ n ≠ 0 := by
  have key : ∀ (m : Nat) (l : List UInt8), l ≠ [] → digs m = l ++ [c] → 10 ≤ m ∧ l = digs (m / 10) ∧ 48 ≤ c.toNat ∧ c.toNat ≤ 57 := by
    intro m l hl hm
    have hc := digs_all m c (by rw [hm]; simp)
    by_cases h10 : m < 10
    · rw [digs_lt h10] at hm
      have := congrArg List.length hm
      have hlen : l.length ≠ 0 := fun e => hl (List.length_eq_zero_iff.1 e)
      rw [List.length_append] at this; simp only [List.length_singleton] at this; omega
    · rw [digs_ge h10] at hm
      have := List.append_inj' hm rfl
      exact ⟨by omega, this.1.symm, hc.1, hc.2⟩
  unfold textOf at h
  by_cases hd : d < 0 <;> by_cases hn : n < 0
  · rw [if_pos hd, if_pos hn] at h
    injection h with _ h
    obtain ⟨h1, h2, h3, h4⟩ := key _ _ (digs_ne _) h
    have := digs_inj h2
    have e : (-d).tdiv 10 = -(d.tdiv 10) := Int.neg_tdiv d 10
    have e2 : (-d).tdiv 10 = -d / 10 := Int.tdiv_eq_ediv_of_nonneg (by omega)
    exact ⟨h3, h4, by omega, by omega⟩
  · rw [if_pos hd, if_neg hn] at h
    cases hg : digs n.natAbs with
    | nil => exact absurd hg (digs_ne _)
    | cons x r =>
      rw [hg] at h
      injection h with h1 _
      subst h1
      exact absurd hg (digs_minus _ _ 45 (by decide))
  · rw [if_neg hd, if_pos hn] at h
    exact absurd h (digs_minus _ _ 45 (by decide))
  · rw [if_neg hd, if_neg hn] at h
    obtain ⟨h1, h2, h3, h4⟩ := key _ _ (digs_ne _) h
    have := digs_inj h2
    have e2 : d.tdiv 10 = d / 10 := Int.tdiv_eq_ediv_of_nonneg (by omega)
    exact ⟨h3, h4, by omega, by omega⟩
end Go.Proofs.Ytcmhcpdfgcmbiaa.Pl
