/- Sums of bits (XOR) of numbers that are not below zero. No program is named. -/
import Derived.Test.YtedojbhebbdagaaBits
namespace Go.Proofs.Ytedojbhebbdagaa.Bits3
open Go.RowKit Go.Proofs.Ytedojbhebbdagaa.Bits

theorem i64_xor {a b : Nat} (h1 : a < 4611686018427387904) (h2 : b < 4611686018427387904) : bits .xor .i64 (a : Int) (b : Int) = ((a ^^^ b : Nat) : Int) := by
  show IntKind.i64.wrap ((BitVec.ofInt 64 (a : Int) ^^^ BitVec.ofInt 64 (b : Int)).toNat : Int) = _
  rw [BitVec.toNat_xor, nat64 (by omega) (by omega), nat64 (by omega) (by omega), IntKind.wrap_i64]
  have : a ^^^ b < 2 ^ 62 := Nat.xor_lt_two_pow (by omega) (by omega)
  simp only [Int.toNat_natCast]
  omega
theorem u8_xor {a b : Nat} (h1 : a < 256) (h2 : b < 256) : bits .xor .u8 (a : Int) (b : Int) = ((a ^^^ b : Nat) : Int) := by
  have n8 : ∀ c : Nat, c < 256 → (BitVec.ofInt 8 (c : Int)).toNat = c := fun c hc => by rw [BitVec.toNat_ofInt]; simp; omega
  show IntKind.u8.wrap ((BitVec.ofInt 8 (a : Int) ^^^ BitVec.ofInt 8 (b : Int)).toNat : Int) = _
  rw [BitVec.toNat_xor, n8 a h1, n8 b h2, IntKind.wrap_u8]
  have : a ^^^ b < 2 ^ 8 := Nat.xor_lt_two_pow (by omega) (by omega)
  omega
/-- Rows of bytes as numbers, and back. -/
def ints (l : List Nat) : List Int := List.map (fun n : Nat => (n : Int)) l
def nats (l : List Int) : List Nat := l.map Int.toNat
theorem ints_nats {l : List Int} (h : ∀ z ∈ l, 0 ≤ z ∧ z ≤ 255) : ints (nats l) = l := by
  unfold ints nats
  rw [List.map_map]
  refine (List.map_congr_left fun z hz => ?_).trans (List.map_id l)
  have := h z hz
  simp only [Function.comp, id]
  omega
theorem nats_ints (l : List Nat) : nats (ints l) = l := by
  unfold ints nats
  rw [List.map_map]
  exact (List.map_congr_left fun z _ => Int.toNat_natCast z).trans (List.map_id l)
theorem nats_lt {l : List Int} (h : ∀ z ∈ l, 0 ≤ z ∧ z ≤ 255) : ∀ x ∈ nats l, x < 256 := by
  intro x hx
  obtain ⟨z, hz, rfl⟩ := List.mem_map.1 hx
  have := h z hz
  omega
theorem ints_in {l : List Nat} (h : ∀ x ∈ l, x < 256) : ∀ z ∈ ints l, 0 ≤ z ∧ z ≤ 255 := by
  intro z hz
  obtain ⟨x, hx, rfl⟩ := List.mem_map.1 hz
  have := h x hx
  omega
theorem ints_getD (l : List Nat) (i : Nat) : (ints l).getD i 0 = ((l.getD i 0 : Nat) : Int) := by
  unfold ints
  rw [List.getD_eq_getElem?_getD, List.getD_eq_getElem?_getD, List.getElem?_map]
  cases l[i]? <;> rfl
end Go.Proofs.Ytedojbhebbdagaa.Bits3
