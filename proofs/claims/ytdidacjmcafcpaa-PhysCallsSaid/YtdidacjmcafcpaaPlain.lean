/- The plain mathematics of the package word: what its operations make of two words, as functions of whole numbers. No Go in sight. -/
import Derived.WalkKit
import Derived.ProofKit
namespace Go.Proofs.Ytdidacjmcafcpaa.Pl
open Go.RowKit

def bit (c : Bool) : Int := if c then 1 else 0
def wShl (a b : Int) : Int := wrap32 (a * 2 ^ (b % 32).toNat)
def wShr (a b : Int) : Int := wrap32 (a % 4294967296 / 2 ^ (b % 32).toNat)
def wSar (a b : Int) : Int := a / 2 ^ (b % 32).toNat
def wDiv (a b : Int) : Int := if b = 0 then 0 else wrap32 (a.tdiv b)

/-- The word that an operation makes of two words; 0, if there is none. -/
def doV (op a b : Int) : Int :=
  if op = 2 then wrap32 (a + b) else if op = 3 then wrap32 (a - b) else if op = 4 then wrap32 (a * b)
  else if op = 5 then bits .and .i32 a b else if op = 6 then bits .or .i32 a b else if op = 7 then bits .xor .i32 a b
  else if op = 8 then wShl a b else if op = 9 then wShr a b else if op = 10 then wSar a b
  else if op = 11 then bit (a == b) else if op = 12 then bit (decide (a < b)) else if op = 13 then bit (decide (a % 4294967296 < b % 4294967296))
  else if op = 14 then wDiv a b else 0

/-- Whether there is one. -/
def doB (op b : Int) : Bool := decide (2 ≤ op ∧ op ≤ 13 ∨ op = 14 ∧ b ≠ 0)

theorem u32_and31 (n : Int) : bits .and .u32 (n % 4294967296) 31 = n % 32 := by
  have h := bits_mask .u32 32 (by decide) (fun n h0 h1 => by rw [IntKind.wrap_u32]; omega) 5 (by decide) (n % 4294967296) (by omega) (by omega)
  have e : ((2 : Int) ^ 5 - 1) = 31 := by decide
  have e2 : ((2 : Int) ^ 5) = 32 := by decide
  rw [e, e2] at h
  rw [h]; omega

theorem min32 (n : Int) : min (n % 32).toNat 32 = (n % 32).toNat := Nat.min_eq_left (by have h := Int.emod_lt_of_pos n (b := 32) (by decide); omega)

theorem wrap32_bd (n : Int) : -2147483648 ≤ wrap32 n ∧ wrap32 n ≤ 2147483647 := by unfold wrap32; omega
theorem wrap32_mod (n : Int) : wrap32 (n % 4294967296) = wrap32 n := by unfold wrap32; omega
theorem wrap32_wrap64 (n : Int) : wrap32 (wrap64 n) = wrap32 n := by unfold wrap32 wrap64; omega
theorem bits_i32 (op : BinOp) (a b : Int) : ∃ n : Int, bits op .i32 a b = wrap32 n := by
  unfold bits; exact ⟨_, IntWalk.i32_left _⟩


def wLow (a b : Int) : Int := wrap32 (a * b)
def wHigh (a b : Int) : Int := wrap32 (wrap64 (a * b) / 4294967296)

theorem high_u (x : Int) : wrap32 (IntKind.u64.wrap (wrap64 x) / 4294967296 % 4294967296) = wrap32 (wrap64 x / 4294967296) := by
  have e : IntKind.u64.wrap (wrap64 x) = wrap64 x % 18446744073709551616 := by simp [IntKind.wrap, IntKind.bits, IntKind.signed]
  rw [e]; unfold wrap32 wrap64; omega
theorem low_u (x : Int) : wrap32 (IntKind.u64.wrap (wrap64 x) % 4294967296) = wrap32 x := by
  have e : IntKind.u64.wrap (wrap64 x) = wrap64 x % 18446744073709551616 := by simp [IntKind.wrap, IntKind.bits, IntKind.signed]
  rw [e]; unfold wrap32 wrap64; omega
theorem mod_mul (a p : Int) : ∃ q : Int, a % 4294967296 * p = a * p - 4294967296 * q := by
  refine ⟨a / 4294967296 * p, ?_⟩
  have h : a % 4294967296 = a - 4294967296 * (a / 4294967296) := by omega
  rw [h, Int.sub_mul, Int.mul_assoc]
theorem shl_u (a p : Int) : wrap32 (a % 4294967296 * p % 4294967296) = wrap32 (a * p) := by
  obtain ⟨q, h⟩ := mod_mul a p
  rw [h]; unfold wrap32; omega

/-- Whether a word fits into so many bits. -/
def fitB (n b : Int) : Bool := if b < 1 then n == 0 else if 31 < b then true else decide (-(2 ^ (b.toNat - 1)) ≤ n ∧ n < 2 ^ (b.toNat - 1))

theorem pow_bd (b : Int) (h1 : 1 ≤ b) (h2 : b ≤ 31) : (1 : Int) ≤ 2 ^ (b.toNat - 1) ∧ (2 : Int) ^ (b.toNat - 1) ≤ 1073741824 := by
  obtain ⟨k, hk⟩ : ∃ k : Nat, b.toNat - 1 = k := ⟨_, rfl⟩
  rw [hk]
  have hk2 : k ≤ 30 := by omega
  have e : (2 : Int) ^ k = ((2 ^ k : Nat) : Int) := by simp
  have a1 : 1 ≤ 2 ^ k := Nat.one_le_two_pow
  have a2 : 2 ^ k ≤ 2 ^ 30 := Nat.pow_le_pow_right (by decide) hk2
  rw [e]; omega
theorem fit_no (n b : Int) (h1 : 1 ≤ b) (h2 : b ≤ 31) (h : n < wrap64 (-wrap64 (2 ^ (b.toNat - 1)))) : fitB n b = false := by
  have hp := pow_bd b h1 h2
  unfold fitB
  rw [if_neg (by omega), if_neg (by omega), decide_eq_false_iff_not]
  generalize (2 : Int) ^ (b.toNat - 1) = p at *
  unfold wrap64 at h; omega
theorem fit_if (n b : Int) (h1 : 1 ≤ b) (h2 : b ≤ 31) (h : wrap64 (-wrap64 (2 ^ (b.toNat - 1))) ≤ n) : decide (n < wrap64 (2 ^ (b.toNat - 1))) = fitB n b := by
  have hp := pow_bd b h1 h2
  unfold fitB
  rw [if_neg (by omega), if_neg (by omega), decide_eq_decide]
  generalize (2 : Int) ^ (b.toNat - 1) = p at *
  unfold wrap64 at *; omega

end Go.Proofs.Ytdidacjmcafcpaa.Pl
