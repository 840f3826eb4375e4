/- Products of numbers that are told by their parts of 16 bits: plain facts. No function is named. -/
import Derived.Test.YtbcfeecdmkcngaaDoorShaP
set_option linter.unusedVariables false
namespace Go.Proofs.YtbcfeecdmkcngaaDoor.ShaT
open Go.Proofs.YtbcfeecdmkcngaaDoor.ShaP

theorem val16_set : ∀ (l : List Nat) (j y : Nat), j < l.length → val16 (l.set j y) + l.getD j 0 * 65536 ^ j = val16 l + y * 65536 ^ j
  | x :: l, 0, y, _ => by simp [val16]; omega
  | x :: l, j + 1, y, h => by
    have h' : j < l.length := by simpa using h
    have e := val16_set l j y h'
    rw [List.set_cons_succ, val16, val16, List.getD_cons_succ, Nat.pow_succ]
    have e2 : 65536 * val16 (l.set j y) + 65536 * (l.getD j 0 * 65536 ^ j) = 65536 * val16 l + 65536 * (y * 65536 ^ j) := by rw [← Nat.mul_add, ← Nat.mul_add, e]
    have a1 : l.getD j 0 * (65536 ^ j * 65536) = 65536 * (l.getD j 0 * 65536 ^ j) := by rw [← Nat.mul_assoc, Nat.mul_comm _ 65536]
    have a2 : y * (65536 ^ j * 65536) = 65536 * (y * 65536 ^ j) := by rw [← Nat.mul_assoc, Nat.mul_comm _ 65536]
    rw [a1, a2]
    omega
/-- One product is added at place j; what is too much goes one place on. -/
def bump (l : List Nat) (j v : Nat) : List Nat := (l.set (j + 1) (l.getD (j + 1) 0 + (l.getD j 0 + v) / 65536)).set j ((l.getD j 0 + v) % 65536)
theorem bump_len (l : List Nat) (j v : Nat) : (bump l j v).length = l.length := by simp [bump]
theorem getD_set_ne {l : List Nat} {i j y : Nat} (h : i ≠ j) : (l.set i y).getD j 0 = l.getD j 0 := by
  rw [List.getD_eq_getElem?_getD, List.getElem?_set_ne h, ← List.getD_eq_getElem?_getD]
theorem getD_set_eq {l : List Nat} {j y : Nat} (h : j < l.length) : (l.set j y).getD j 0 = y := by
  rw [List.getD_eq_getElem?_getD, List.getElem?_set_self h]; rfl
theorem bump_val {l : List Nat} {j v : Nat} (h : j + 1 < l.length) : val16 (bump l j v) = val16 l + v * 65536 ^ j := by
  have e1 := val16_set l (j + 1) (l.getD (j + 1) 0 + (l.getD j 0 + v) / 65536) h
  have e2 := val16_set (l.set (j + 1) (l.getD (j + 1) 0 + (l.getD j 0 + v) / 65536)) j ((l.getD j 0 + v) % 65536) (by rw [List.length_set]; omega)
  rw [getD_set_ne (by omega)] at e2
  unfold bump
  rw [Nat.pow_succ] at e1
  obtain ⟨p, hp⟩ : ∃ p, p = 65536 ^ j := ⟨_, rfl⟩
  rw [← hp] at e1 e2 ⊢
  obtain ⟨x, hx⟩ : ∃ x, x = l.getD j 0 := ⟨_, rfl⟩
  obtain ⟨y, hy⟩ : ∃ y, y = l.getD (j + 1) 0 := ⟨_, rfl⟩
  rw [← hx, ← hy] at e1 e2 ⊢
  obtain ⟨q, hq⟩ : ∃ q, q = (x + v) / 65536 := ⟨_, rfl⟩
  obtain ⟨r, hr⟩ : ∃ r, r = (x + v) % 65536 := ⟨_, rfl⟩
  rw [← hq] at e1 e2 ⊢
  rw [← hr] at e2 ⊢
  have hs : x + v = 65536 * q + r := by rw [hq, hr]; exact (Nat.div_add_mod _ _).symm
  have m1 : (y + q) * (p * 65536) = y * (p * 65536) + 65536 * q * p := by
    rw [Nat.add_mul]
    congr 1
    rw [Nat.mul_comm p 65536, ← Nat.mul_assoc, Nat.mul_comm q 65536]
  rw [m1] at e1
  have m2 : (x + v) * p = 65536 * q * p + r * p := by rw [hs, Nat.add_mul]
  rw [Nat.add_mul] at m2
  omega
theorem bump_at {l : List Nat} {j v : Nat} (h : j + 1 < l.length) : (bump l j v).getD j 0 = (l.getD j 0 + v) % 65536 := by
  unfold bump
  rw [getD_set_eq (by rw [List.length_set]; omega)]
theorem bump_next {l : List Nat} {j v : Nat} (h : j + 1 < l.length) : (bump l j v).getD (j + 1) 0 = l.getD (j + 1) 0 + (l.getD j 0 + v) / 65536 := by
  unfold bump
  rw [getD_set_ne (by omega), getD_set_eq h]
theorem bump_far {l : List Nat} {j v i : Nat} (h1 : i ≠ j) (h2 : i ≠ j + 1) : (bump l j v).getD i 0 = l.getD i 0 := by
  unfold bump
  rw [getD_set_ne (by omega), getD_set_ne (by omega)]
/-- Within row i of a product (b parts long), ahead of place k. -/
structure Mid (l : List Nat) (n i k : Nat) : Prop where
  small : ∀ j, j ≠ i + k → l.getD j 0 < 65536
  here : l.getD (i + k) 0 < 131071
  zero : k < n → ∀ j, i + n ≤ j → l.getD j 0 = 0
theorem Mid.next {l : List Nat} {n i k v : Nat} (h : Mid l n i k) (hl : i + k + 1 < l.length) (hk : k < n) (hv : v ≤ 4294836225) : Mid (bump l (i + k) v) n i (k + 1) := by
  have hh := h.here
  have hq : (l.getD (i + k) 0 + v) / 65536 < 65536 := by omega
  refine ⟨fun j hj => ?_, ?_, fun hk2 j hj => ?_⟩
  · by_cases e : j = i + k
    · subst e
      rw [bump_at hl]
      exact Nat.mod_lt _ (by decide)
    · rw [bump_far e (by omega)]
      exact h.small j e
  · rw [show i + (k + 1) = i + k + 1 by omega, bump_next hl]
    have := h.small (i + k + 1) (by omega)
    omega
  · rw [bump_far (by omega) (by omega)]
    exact h.zero hk j hj
/-- Behind the row's last place: all are below 65536, and the rest is still nothing. -/
theorem Mid.row {l : List Nat} {n i v : Nat} (h : Mid l (n + 1) i n) (hl : i + n + 1 < l.length) (hv : v ≤ 4294836225) : (∀ j, (bump l (i + n) v).getD j 0 < 65536) ∧ ∀ j, i + 1 + (n + 1) ≤ j → (bump l (i + n) v).getD j 0 = 0 := by
  have hh := h.here
  have hz := h.zero (by omega)
  have hq : (l.getD (i + n) 0 + v) / 65536 < 65536 := by omega
  refine ⟨fun j => ?_, fun j hj => ?_⟩
  · by_cases e : j = i + n
    · subst e
      rw [bump_at hl]
      exact Nat.mod_lt _ (by decide)
    · by_cases e2 : j = i + n + 1
      · subst e2
        rw [bump_next hl, hz (i + n + 1) (by omega), Nat.zero_add]
        exact hq
      · rw [bump_far e e2]
        exact h.small j e
  · rw [bump_far (by omega) (by omega)]
    exact hz j (by omega)
theorem Mid.start {l : List Nat} {n i : Nat} (h : ∀ j, l.getD j 0 < 65536) (hz : ∀ j, i + n ≤ j → l.getD j 0 = 0) : Mid l n i 0 :=
  ⟨fun j _ => h j, by have := h (i + 0); omega, fun _ => hz⟩
/-- Nothing is too much: then nothing changes. -/
theorem bump_none {l : List Nat} {j : Nat} (h : l.getD j 0 < 65536) : bump l j 0 = l := by
  have s : ∀ (l : List Nat) (j : Nat), l.set j (l.getD j 0) = l := fun l j => by
    apply List.ext_getElem?
    intro i
    by_cases e : j = i
    · subst e
      rcases Nat.lt_or_ge j l.length with q | q
      · rw [List.getElem?_set_self q, List.getD_eq_getElem?_getD, List.getElem?_eq_getElem q]; rfl
      · rw [List.getElem?_eq_none (by rw [List.length_set]; exact q), List.getElem?_eq_none q]
    · rw [List.getElem?_set_ne e]
  unfold bump
  simp only [Nat.add_zero]
  rw [Nat.div_eq_of_lt h, Nat.mod_eq_of_lt h]
  simp only [Nat.add_zero]
  rw [s l (j + 1), s l j]
end Go.Proofs.YtbcfeecdmkcngaaDoor.ShaT
