/- Bits of numbers that are not below zero, as arithmetic. No program is named. -/
import Derived.WalkKit
import Derived.IntWalk
import Derived.Laws.BitsAllLaws
import Derived.Laws.BitsLemmas
namespace Go.Proofs.YtnpggkpcadefjaaDoor.Bits
open Go.RowKit

theorem nat64 {a : Int} (h1 : 0 ≤ a) (h2 : a < 9223372036854775808) : (BitVec.ofInt 64 a).toNat = a.toNat := by
  rw [BitVec.toNat_ofInt]; simp; omega
theorem i64_or {a b : Int} (h1 : 0 ≤ a) (h2 : a < 9223372036854775808) (h3 : 0 ≤ b) (h4 : b < 9223372036854775808) : bits .or .i64 a b = ((a.toNat ||| b.toNat : Nat) : Int) := by
  show IntKind.i64.wrap ((BitVec.ofInt 64 a ||| BitVec.ofInt 64 b).toNat : Int) = _
  rw [BitVec.toNat_or, nat64 h1 h2, nat64 h3 h4, IntKind.wrap_i64]
  have : a.toNat ||| b.toNat < 2 ^ 63 := Nat.or_lt_two_pow (by omega) (by omega)
  omega
theorem i64_and {a b : Int} (h1 : 0 ≤ a) (h2 : a < 9223372036854775808) (h3 : 0 ≤ b) (h4 : b < 9223372036854775808) : bits .and .i64 a b = ((a.toNat &&& b.toNat : Nat) : Int) := by
  show IntKind.i64.wrap ((BitVec.ofInt 64 a &&& BitVec.ofInt 64 b).toNat : Int) = _
  rw [BitVec.toNat_and, nat64 h1 h2, nat64 h3 h4, IntKind.wrap_i64]
  have : a.toNat &&& b.toNat < 2 ^ 63 := Nat.and_lt_two_pow _ (by omega)
  omega

theorem or_low (k : Nat) {a b : Int} (h1 : 0 ≤ a) (h2 : a * (2 ^ k : Nat) < 9223372036854775808) (h3 : 0 ≤ b) (h4 : b < (2 ^ k : Nat)) (hk : k < 63) : bits .or .i64 (a * (2 ^ k : Nat)) b = a * (2 ^ k : Nat) + b := by
  have hp : (2 ^ k : Nat) ≤ 2 ^ 62 := Nat.pow_le_pow_right (by decide) (by omega)
  have h0 : 0 ≤ a * (2 ^ k : Nat) := Int.mul_nonneg h1 (by omega)
  rw [i64_or h0 h2 h3 (by omega)]
  obtain ⟨m, rfl⟩ : ∃ m : Nat, a = m := ⟨a.toNat, by omega⟩
  obtain ⟨n, rfl⟩ : ∃ n : Nat, b = n := ⟨b.toNat, by omega⟩
  have e := Nat.shiftLeft_add_eq_or_of_lt (i := k) (b := n) (by omega) m
  rw [Nat.shiftLeft_eq] at e
  have e1 : ((m : Int) * (2 ^ k : Nat)).toNat = m * 2 ^ k := by rw [← Int.natCast_mul, Int.toNat_natCast]
  rw [e1, Int.toNat_natCast, ← e]
  simp
theorem or_comm (a b : Int) : bits .or .i64 a b = bits .or .i64 b a := by
  show IntKind.i64.wrap ((BitVec.ofInt 64 a ||| BitVec.ofInt 64 b).toNat : Int) = IntKind.i64.wrap ((BitVec.ofInt 64 b ||| BitVec.ofInt 64 a).toNat : Int)
  rw [BitVec.or_comm]
theorem and_pow (m k : Nat) : m &&& 2^k = (m / 2^k % 2) * 2^k := by
  apply Nat.eq_of_testBit_eq
  intro i
  rw [Nat.testBit_and, Nat.testBit_two_pow, Nat.testBit_mul_two_pow]
  rcases Nat.lt_trichotomy i k with h | h | h
  · simp [show ¬ k ≤ i by omega, show ¬ k = i by omega]
  · subst h
    simp [Nat.testBit_eq_decide_div_mod_eq]
  · have e : i - k ≠ 0 := by omega
    simp [show ¬ k = i by omega, show k ≤ i by omega, Nat.testBit_eq_decide_div_mod_eq]
    have h2 : m / 2 ^ k % 2 < 2 := Nat.mod_lt _ (by decide)
    have : 2 ≤ 2 ^ (i - k) := by
      calc 2 = 2 ^ 1 := rfl
        _ ≤ 2 ^ (i - k) := Nat.pow_le_pow_right (by decide) (by omega)
    rw [Nat.div_eq_of_lt (by omega)]
theorem and_bit (k : Nat) {a : Int} (h1 : 0 ≤ a) (h2 : a < 65536) (hk : k < 16) : bits .and .i64 a (2 ^ k : Nat) = (a / (2 ^ k : Nat) % 2) * (2 ^ k : Nat) := by
  have hp : (2 ^ k : Nat) ≤ 2 ^ 15 := Nat.pow_le_pow_right (by decide) (by omega)
  have h0 : (0 : Int) ≤ ((2 ^ k : Nat) : Int) := Int.natCast_nonneg _
  rw [i64_and h1 (by omega) h0 (by omega), Int.toNat_natCast]
  obtain ⟨m, rfl⟩ : ∃ m : Nat, a = m := ⟨a.toNat, by omega⟩
  rw [Int.toNat_natCast, and_pow]
  simp
theorem and_mask (k : Nat) {a : Int} (h1 : 0 ≤ a) (h2 : a < 65536) (hk : k < 32) : bits .and .i64 a ((2 ^ k - 1 : Nat) : Int) = a % (2 ^ k : Nat) := by
  have hp : (2 ^ k : Nat) ≤ 2 ^ 32 := Nat.pow_le_pow_right (by decide) (by omega)
  rw [i64_and h1 (by omega) (by omega) (by omega), Int.toNat_natCast]
  obtain ⟨m, rfl⟩ : ∃ m : Nat, a = m := ⟨a.toNat, by omega⟩
  rw [Int.toNat_natCast, Nat.and_two_pow_sub_one_eq_mod]
  simp

theorem or_zero {a : Int} (h1 : 0 ≤ a) (h2 : a < 9223372036854775808) : bits .or .i64 0 a = a := by
  rw [i64_or (by omega) (by omega) h1 h2]; simp; omega
theorem or_byte {y z : Int} (y0 : 0 ≤ y) (y1 : y ≤ 255) (z0 : 0 ≤ z) (z1 : z ≤ 255) : bits .or .i64 (y * 256) z = 256 * y + z := by
  have := or_low 8 (a := y) (b := z) y0 (by simp; omega) z0 (by simp; omega) (by decide)
  simp at this
  rw [this]; omega
theorem or_first {s : Int} (h0 : 0 ≤ s) (h1 : s < 64) : bits .or .i64 64 s = 64 + s := by
  have := or_low 6 (a := 1) (b := s) (by decide) (by decide) h0 (by simpa using h1) (by decide)
  simpa using this
theorem or_df {x : Int} (h0 : 0 ≤ x) (h1 : x < 16384) : bits .or .i64 x 16384 = x + 16384 := by
  have := or_low 14 (a := 1) (b := x) (by decide) (by decide) h0 (by simpa using h1) (by decide)
  rw [or_comm]
  simp at this
  rw [this]; omega
theorem or_mf {x : Int} (h0 : 0 ≤ x) (h1 : x < 8192) : bits .or .i64 x 8192 = x + 8192 := by
  have := or_low 13 (a := 1) (b := x) (by decide) (by decide) h0 (by simpa using h1) (by decide)
  rw [or_comm]
  simp at this
  rw [this]; omega
theorem or_mf2 {x : Int} (h0 : 0 ≤ x) (h1 : x < 8192) : bits .or .i64 (x + 16384) 8192 = x + 16384 + 8192 := by
  have e1 := i64_or (a := x + 16384) (b := 8192) (by omega) (by omega) (by decide) (by decide)
  rw [e1]
  obtain ⟨m, rfl⟩ : ∃ m : Nat, x = m := ⟨x.toNat, by omega⟩
  have a1 := Nat.shiftLeft_add_eq_or_of_lt (i := 14) (b := m) (by omega) 1
  have a2 := Nat.shiftLeft_add_eq_or_of_lt (i := 13) (b := m) (by omega) 1
  have a3 := Nat.shiftLeft_add_eq_or_of_lt (i := 14) (b := 8192 + m) (by omega) 1
  have s1 : (1 <<< 14 : Nat) = 16384 := by decide
  have s2 : (1 <<< 13 : Nat) = 8192 := by decide
  rw [s1] at a1 a3
  rw [s2] at a2
  have t1 : ((m : Int) + 16384).toNat = 16384 + m := by omega
  rw [t1, a1, show (8192 : Int).toNat = 8192 from rfl, Nat.or_assoc, Nat.or_comm m 8192, ← a2, ← a3]
  omega
theorem and_15 {a : Int} (h0 : 0 ≤ a) (h1 : a < 65536) : bits .and .i64 a 15 = a % 16 := by
  have := and_mask 4 h0 h1 (by decide); simpa using this
theorem and_8191 {a : Int} (h0 : 0 ≤ a) (h1 : a < 65536) : bits .and .i64 a 8191 = a % 8192 := by
  have := and_mask 13 h0 h1 (by decide); simpa using this
theorem and_32768 {a : Int} (h0 : 0 ≤ a) (h1 : a < 65536) : bits .and .i64 a 32768 = (a / 32768 % 2) * 32768 := by
  have := and_bit 15 h0 h1 (by decide); simpa using this
theorem and_16384 {a : Int} (h0 : 0 ≤ a) (h1 : a < 65536) : bits .and .i64 a 16384 = (a / 16384 % 2) * 16384 := by
  have := and_bit 14 h0 h1 (by decide); simpa using this
theorem and_8192 {a : Int} (h0 : 0 ≤ a) (h1 : a < 65536) : bits .and .i64 a 8192 = (a / 8192 % 2) * 8192 := by
  have := and_bit 13 h0 h1 (by decide); simpa using this

end Go.Proofs.YtnpggkpcadefjaaDoor.Bits
