/- The lowest bits of any number, below zero too (two's complement). No program is named. -/
import Derived.Test.YtadjkidjkgnkoaaBits
namespace Go.Proofs.Ytadjkidjkgnkoaa.Bits2
open Go.RowKit Go.Proofs.Ytadjkidjkgnkoaa.Bits

theorem nat_any (a : Int) : (((BitVec.ofInt 64 a).toNat : Nat) : Int) = a % 18446744073709551616 := by
  rw [BitVec.toNat_ofInt]
  have : (0 : Int) ≤ a % 18446744073709551616 := Int.emod_nonneg _ (by decide)
  show ((a % (2 ^ 64 : Nat)).toNat : Int) = _
  have e : ((2 ^ 64 : Nat) : Int) = 18446744073709551616 := by decide
  rw [e, Int.toNat_of_nonneg this]
theorem and_any (a : Int) (m : Nat) (hm : m < 9223372036854775808) : bits .and .i64 a (m : Int) = (((BitVec.ofInt 64 a).toNat &&& m : Nat) : Int) := by
  show IntKind.i64.wrap ((BitVec.ofInt 64 a &&& BitVec.ofInt 64 (m : Int)).toNat : Int) = _
  have e : (BitVec.ofInt 64 (m : Int)).toNat = m := by rw [BitVec.toNat_ofInt]; simp; omega
  rw [BitVec.toNat_and, e, IntKind.wrap_i64]
  have : (BitVec.ofInt 64 a).toNat &&& m ≤ m := Nat.and_le_right
  omega
theorem and_1 (a : Int) : bits .and .i64 a 1 = a % 2 := by
  have h := and_any a 1 (by decide)
  have n := nat_any a
  have e := Nat.and_two_pow_sub_one_eq_mod (BitVec.ofInt 64 a).toNat 1
  rw [show (2 ^ 1 - 1 : Nat) = 1 from rfl, show (2 ^ 1 : Nat) = 2 from rfl] at e
  rw [e] at h
  rw [show ((1 : Nat) : Int) = 1 from rfl] at h
  rw [h]
  omega
theorem and_2 (a : Int) : bits .and .i64 a 2 = (a / 2 % 2) * 2 := by
  have h := and_any a 2 (by decide)
  have n := nat_any a
  have e := and_pow (BitVec.ofInt 64 a).toNat 1
  rw [show (2 ^ 1 : Nat) = 2 from rfl] at e
  rw [e] at h
  rw [show ((2 : Nat) : Int) = 2 from rfl] at h
  rw [h]
  omega
theorem and_3 (a : Int) : bits .and .i64 a 3 = a % 4 := by
  have h := and_any a 3 (by decide)
  have n := nat_any a
  have e := Nat.and_two_pow_sub_one_eq_mod (BitVec.ofInt 64 a).toNat 2
  rw [show (2 ^ 2 - 1 : Nat) = 3 from rfl, show (2 ^ 2 : Nat) = 4 from rfl] at e
  rw [e] at h
  rw [show ((3 : Nat) : Int) = 3 from rfl] at h
  rw [h]
  omega
end Go.Proofs.Ytadjkidjkgnkoaa.Bits2
