/- The operations on bits, of words, as those on rows of 32 bits: plain mathematics; no Go in sight. -/
import Derived.Test.YtdidacjmcafcpaaPlain
namespace Go.Proofs.Ytdidacjmcafcpaa.Pl
open Go.RowKit

theorem nat_bits (x : Nat) : ∀ y : Nat, (x &&& y) + (x ||| y) = x + y ∧ (x ^^^ y) + 2 * (x &&& y) = x + y := by
  induction x using Nat.strongRecOn with
  | _ x ih =>
    intro y
    by_cases hx : x = 0
    · subst hx; simp
    · have h := ih (x / 2) (by omega) (y / 2)
      rw [← Nat.and_div_two, ← Nat.or_div_two, ← Nat.xor_div_two] at h
      have a1 : (x &&& y) % 2 = (x % 2) &&& (y % 2) := by have := Nat.and_mod_two_pow (a := x) (b := y) (n := 1); simpa using this
      have a2 : (x ||| y) % 2 = (x % 2) ||| (y % 2) := by have := Nat.or_mod_two_pow (a := x) (b := y) (n := 1); simpa using this
      have a3 : (x ^^^ y) % 2 = (x % 2) ^^^ (y % 2) := by have := Nat.xor_mod_two_pow (a := x) (b := y) (n := 1); simpa using this
      have hx2 : x % 2 = 0 ∨ x % 2 = 1 := by omega
      have hy2 : y % 2 = 0 ∨ y % 2 = 1 := by omega
      rcases hx2 with e | e <;> rcases hy2 with f | f <;> rw [e, f] at a1 a2 a3 <;> simp only [Nat.and_self, Nat.zero_and, Nat.and_zero, Nat.or_self, Nat.zero_or, Nat.or_zero, Nat.xor_self, Nat.zero_xor, Nat.xor_zero] at a1 a2 a3 <;> omega

abbrev bv (n : Int) : BitVec 32 := BitVec.ofInt 32 n

theorem toInt_wrap (x : BitVec 32) : wrap32 x.toNat = x.toInt := by
  have h := BitVec.toInt_eq_toNat_cond x
  have hlt := x.isLt
  unfold wrap32
  split at h <;> omega
theorem wrap_bv (n : Int) : wrap32 n = (bv n).toInt := by
  rw [← toInt_wrap, BitVec.toNat_ofInt]; unfold wrap32; omega
theorem bv_word {n : Int} (h : -2147483648 ≤ n ∧ n ≤ 2147483647) : (bv n).toInt = n := by
  rw [← wrap_bv]; unfold wrap32; omega
theorem bv_toInt (x : BitVec 32) : bv x.toInt = x := BitVec.ofInt_toInt
theorem bits_and (a b : Int) : bits .and .i32 a b = (bv a &&& bv b).toInt := by
  show IntKind.i32.wrap _ = _
  rw [IntWalk.i32_left]; exact toInt_wrap _
theorem bits_or (a b : Int) : bits .or .i32 a b = (bv a ||| bv b).toInt := by
  show IntKind.i32.wrap _ = _
  rw [IntWalk.i32_left]; exact toInt_wrap _
theorem bits_xor (a b : Int) : bits .xor .i32 a b = (bv a ^^^ bv b).toInt := by
  show IntKind.i32.wrap _ = _
  rw [IntWalk.i32_left]; exact toInt_wrap _
theorem bv_add (a b : Int) : bv (a + b) = bv a + bv b := BitVec.ofInt_add a b
theorem bv_wrap (n : Int) : bv (wrap32 n) = bv n := by rw [wrap_bv, bv_toInt]
theorem toNat_pow (k : Nat) : ((2 : Int) ^ k) = ((2 ^ k : Nat) : Int) := by simp
theorem bv_shl (a : Int) (k : Nat) : bv (a * 2 ^ k) = bv a <<< k := by
  apply BitVec.eq_of_toNat_eq
  rw [BitVec.toNat_shiftLeft, BitVec.toNat_ofInt, BitVec.toNat_ofInt, Nat.shiftLeft_eq, toNat_pow]
  have e : (a * ((2 ^ k : Nat) : Int)) % ((2 ^ 32 : Nat) : Int) = ((a % ((2 ^ 32 : Nat) : Int)) * ((2 ^ k : Nat) : Int)) % ((2 ^ 32 : Nat) : Int) := by
    simp only [Int.mul_emod, Int.emod_emod]
  rw [e]
  have hn : 0 ≤ a % ((2 ^ 32 : Nat) : Int) := Int.emod_nonneg _ (by decide)
  obtain ⟨m, hm⟩ := Int.eq_ofNat_of_zero_le hn
  rw [hm, Int.toNat_natCast, ← Int.natCast_mul, ← Int.natCast_emod, Int.toNat_natCast]
theorem bv_ushr (a : Int) (k : Nat) : bv (a % 4294967296 / 2 ^ k) = bv a >>> k := by
  apply BitVec.eq_of_toNat_eq
  rw [BitVec.toNat_ushiftRight, BitVec.toNat_ofInt, BitVec.toNat_ofInt, Nat.shiftRight_eq_div_pow, toNat_pow]
  have hn : 0 ≤ a % 4294967296 := Int.emod_nonneg _ (by decide)
  obtain ⟨m, hm⟩ := Int.eq_ofNat_of_zero_le hn
  have hm2 : a % ((2 ^ 32 : Nat) : Int) = m := hm
  have hlt : m < 2 ^ 32 := by have := Int.emod_lt_of_pos a (b := 4294967296) (by decide); omega
  rw [hm2, hm, Int.toNat_natCast, ← Int.natCast_ediv, ← Int.natCast_emod, Int.toNat_natCast]
  exact Nat.mod_eq_of_lt (Nat.lt_of_le_of_lt (Nat.div_le_self _ _) hlt)
theorem bv_sshr {a : Int} (h : -2147483648 ≤ a ∧ a ≤ 2147483647) (k : Nat) : a / 2 ^ k = ((bv a).sshiftRight k).toInt := by
  rw [BitVec.toInt_sshiftRight, bv_word h, Int.shiftRight_eq_div_pow, toNat_pow]
theorem add_and_or (x y : BitVec 32) : (x &&& y) + (x ||| y) = x + y := by
  apply BitVec.eq_of_toNat_eq
  simp only [BitVec.toNat_add, BitVec.toNat_and, BitVec.toNat_or]
  rw [(nat_bits _ _).1]
theorem xor_and (x y : BitVec 32) : (x ^^^ y) + ((x &&& y) <<< 1) = x + y := by
  apply BitVec.eq_of_toNat_eq
  have h := (nat_bits x.toNat y.toNat).2
  simp only [BitVec.toNat_add, BitVec.toNat_and, BitVec.toNat_xor, BitVec.toNat_shiftLeft, Nat.shiftLeft_eq]
  omega
end Go.Proofs.Ytdidacjmcafcpaa.Pl
