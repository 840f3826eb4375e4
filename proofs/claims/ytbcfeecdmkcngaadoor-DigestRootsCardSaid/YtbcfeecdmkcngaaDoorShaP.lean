/- The constants are roots of primes: plain facts. No function is named. -/
import Derived.Test.YtbcfeecdmkcngaaDoorShaD
set_option linter.unusedVariables false
namespace Go.Proofs.YtbcfeecdmkcngaaDoor.ShaP
open Go.Proofs.YtbcfeecdmkcngaaDoor.ShaD

/-- Is a number a prime? Tried from k on; so many tries at most. -/
def isgo (p : Nat) : Nat → Nat → Bool → Bool
  | 0, _, b => b
  | f + 1, k, b => if k * k ≤ p then isgo p f (k + 1) (b && decide (p % k ≠ 0)) else b
def isP (p : Nat) : Bool := isgo p 20 2 true
/-- Once the square is behind, more tries change nothing. -/
theorem isgo_stop {p f k : Nat} {b : Bool} (h : ¬ k * k ≤ p) : isgo p f k b = b := by
  cases f with
  | zero => rfl
  | succ f => rw [isgo, if_neg h]
theorem isgo_step {p f k : Nat} {b : Bool} (h : k * k ≤ p) : isgo p (f + 1) k b = isgo p f (k + 1) (b && decide (p % k ≠ 0)) := by
  rw [isgo, if_pos h]
/-- The bound of the tries: below 400 the root is below 20. -/
theorem root_small {p k : Nat} (hp : p < 400) (h : k * k ≤ p) : k < 20 := by
  rcases Nat.lt_or_ge k 20 with q | q
  · exact q
  · have := Nat.mul_le_mul q q
    omega
/-- How many primes there are among 2, .., k + 1. -/
def cn : Nat → Nat
  | 0 => 0
  | k + 1 => cn k + (if isP (k + 2) then 1 else 0)
theorem cn_full : cn 310 = 64 := by decide +kernel
theorem cn_mono : ∀ (a b : Nat), cn a ≤ cn (a + b)
  | _, 0 => Nat.le_refl _
  | a, b + 1 => Nat.le_trans (cn_mono a b) (by show cn (a + b) ≤ cn (a + b + 1); rw [cn]; omega)
/-- So the 64 primes are found below 312. -/
theorem cn_bound {k t : Nat} (ht : t < 64) (h : cn k ≤ t) : k < 310 := by
  rcases Nat.lt_or_ge k 310 with q | q
  · exact q
  · have := cn_mono 310 (k - 310)
    rw [show 310 + (k - 310) = k by omega, cn_full] at this
    omega
/-- A number with 32 bits behind the point: is it the root of p, as far as it is told? -/
def third (x p : Nat) : Bool := decide (x * x * x / 2 ^ 96 < p) && decide (p ≤ (x + 1) * (x + 1) * (x + 1) / 2 ^ 96)
def second (x p : Nat) : Bool := decide (x * x / 2 ^ 64 < p) && decide (p ≤ (x + 1) * (x + 1) / 2 ^ 64)
def num (whole c : Nat) : Nat := whole * 4294967296 + c
theorem roots_third : ∀ k : Fin 310, isP (k.val + 2) = true → (List.range 19).any (fun w => third (num (w + 1) (K.getD (cn k.val) 0)) (k.val + 2)) = true := by decide +kernel
theorem roots_second : ∀ k : Fin 20, isP (k.val + 2) = true → cn k.val < 8 → (List.range 19).any (fun w => second (num (w + 1) (K.getD (64 + cn k.val) 0)) (k.val + 2)) = true := by decide +kernel
theorem cn_small {k : Nat} (h : cn k < 8) : k < 18 := by
  rcases Nat.lt_or_ge k 18 with q | q
  · exact q
  · have := cn_mono 18 (k - 18)
    rw [show 18 + (k - 18) = k by omega, show cn 18 = 8 by decide +kernel] at this
    omega
/-- Two numbers told by their parts of 16 bits. -/
def val16 : List Nat → Nat
  | [] => 0
  | x :: l => x + 65536 * val16 l
theorem val16_app : ∀ (a b : List Nat), val16 (a ++ b) = val16 a + 65536 ^ a.length * val16 b
  | [], b => by simp [val16]
  | x :: a, b => by
    rw [List.cons_append, val16, val16, val16_app a b, List.length_cons, Nat.pow_succ, Nat.mul_add, Nat.add_assoc, ← Nat.mul_assoc, Nat.mul_comm 65536 (65536 ^ a.length)]
theorem val16_lt : ∀ (a : List Nat), (∀ x ∈ a, x < 65536) → val16 a < 65536 ^ a.length
  | [], _ => by simp [val16]
  | x :: a, h => by
    have h1 := h x List.mem_cons_self
    have h2 := val16_lt a fun y hy => h y (List.mem_cons_of_mem _ hy)
    rw [val16, List.length_cons, Nat.pow_succ]
    omega
/-- What stands in front of n parts. -/
theorem val16_front {a : List Nat} (h : ∀ x ∈ a, x < 65536) (n : Nat) : val16 (a.drop n) = val16 a / 65536 ^ n := by
  rcases Nat.lt_or_ge a.length n with q | q
  · rw [List.drop_eq_nil_of_le (Nat.le_of_lt q), val16, Nat.div_eq_of_lt]
    exact Nat.lt_of_lt_of_le (val16_lt a h) (Nat.pow_le_pow_right (by decide) (Nat.le_of_lt q))
  · have e := val16_app (a.take n) (a.drop n)
    rw [List.take_append_drop, List.length_take, Nat.min_eq_left q] at e
    have l := val16_lt (a.take n) fun x hx => h x (List.mem_of_mem_take hx)
    rw [List.length_take, Nat.min_eq_left q] at l
    rw [e, Nat.add_mul_div_left _ _ (Nat.pow_pos (by decide)), Nat.div_eq_of_lt l, Nat.zero_add]
end Go.Proofs.YtbcfeecdmkcngaaDoor.ShaP
