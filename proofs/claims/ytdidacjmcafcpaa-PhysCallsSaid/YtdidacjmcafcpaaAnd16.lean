/- A number's lowest sixteen bits. -/
import Derived.WalkKit
import Derived.IntWalk
namespace Go.Proofs.Ytdidacjmcafcpaa.Kc
open Go.RowKit
theorem and16 (n : Int) : bits .and .i64 n 65535 = n % 65536 := by
  have key : (((BitVec.ofInt 64 n) &&& (BitVec.ofInt 64 65535)).toNat : Int) = n % 65536 := by
    rw [BitVec.toNat_and]
    have e : (BitVec.ofInt 64 65535).toNat = 2 ^ 16 - 1 := by decide +kernel
    rw [e, Nat.and_two_pow_sub_one_eq_mod, BitVec.toNat_ofInt]
    omega
  show IntKind.i64.wrap (((BitVec.ofInt 64 n) &&& (BitVec.ofInt 64 65535)).toNat : Int) = _
  rw [key]
  exact IntWalk.i64_in _ (by omega)
end Go.Proofs.Ytdidacjmcafcpaa.Kc
