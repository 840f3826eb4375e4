/- The order of texts: plain facts. -/
import Derived.Test.YtggahoocgijdkaaDoorCmp
set_option linter.unusedVariables false
namespace Go.Proofs.YtggahoocgijdkaaDoor.Ord
open Go.Proofs.YtggahoocgijdkaaDoor.Cmp
open Go.Lib (compareBytes compareInt)

theorem cb_in : ∀ a b : List UInt8, compareBytes a b = -1 ∨ compareBytes a b = 0 ∨ compareBytes a b = 1
  | [], [] => .inr (.inl rfl)
  | [], _ :: _ => .inl rfl
  | _ :: _, [] => .inr (.inr rfl)
  | x :: a, y :: b => by
    unfold compareBytes
    split
    · exact .inl rfl
    · split
      · exact .inr (.inr rfl)
      · exact cb_in a b
theorem cb_neg : ∀ a b : List UInt8, compareBytes b a = - compareBytes a b
  | [], [] => rfl
  | [], _ :: _ => rfl
  | _ :: _, [] => rfl
  | x :: a, y :: b => by
    have ih := cb_neg a b
    unfold compareBytes
    by_cases h1 : x < y
    · have h2 : ¬ y < x := by rw [UInt8.lt_iff_toNat_lt] at *; omega
      simp [h1, h2]
    · by_cases h2 : y < x
      · simp [h1, h2]
      · simp [h1, h2, ih]
theorem cb_zero : ∀ a b : List UInt8, compareBytes a b = 0 ↔ a = b
  | [], [] => by simp [compareBytes]
  | [], _ :: _ => by simp [compareBytes]
  | _ :: _, [] => by simp [compareBytes]
  | x :: a, y :: b => by
    have ih := cb_zero a b
    unfold compareBytes
    by_cases h1 : x < y
    · have : x ≠ y := fun e => by subst e; exact absurd h1 (by rw [UInt8.lt_iff_toNat_lt]; omega)
      simp [h1, this]
    · by_cases h2 : y < x
      · have : x ≠ y := fun e => by subst e; exact absurd h2 (by rw [UInt8.lt_iff_toNat_lt]; omega)
        simp [h1, h2, this]
      · have : x = y := UInt8.toNat_inj.1 (by rw [UInt8.lt_iff_toNat_lt] at *; omega)
        subst this
        simp [ih]
theorem cb_trans : ∀ a b c : List UInt8, compareBytes a b ≤ 0 → compareBytes b c ≤ 0 → compareBytes a c ≤ 0
  | [], b, c, _, _ => by cases c <;> simp [compareBytes]
  | x :: a, [], c, h, _ => by simp [compareBytes] at h
  | x :: a, y :: b, [], _, h => by simp [compareBytes] at h
  | x :: a, y :: b, z :: c, h, k => by
    have ih := cb_trans a b c
    unfold compareBytes at h k ⊢
    simp only [UInt8.lt_iff_toNat_lt] at h k ⊢
    split at h
    · rename_i h1
      split at k
      · rw [if_pos (by omega)]; omega
      · split at k
        · omega
        · rw [if_pos (by omega)]; omega
    · split at h
      · omega
      · split at k
        · rw [if_pos (by omega)]; omega
        · split at k
          · omega
          · rw [if_neg (by omega), if_neg (by omega)]
            exact ih h k

theorem ord_cases (a b : ByteArray) : (a.size < b.size ∧ ordS a b = -1) ∨ (b.size < a.size ∧ ordS a b = 1) ∨ (a.size = b.size ∧ ordS a b = compareBytes a.data.toList b.data.toList) := by
  rcases Nat.lt_trichotomy a.size b.size with h | h | h
  · left
    have e : compareInt (a.size : Int) (b.size : Int) = -1 := by unfold compareInt; rw [if_pos (by omega)]
    exact ⟨h, by unfold ordS orI; rw [e]; rfl⟩
  · right; right
    have e : compareInt (a.size : Int) (b.size : Int) = 0 := by unfold compareInt; rw [if_neg (by omega), if_neg (by omega)]
    exact ⟨h, by unfold ordS orI; rw [e]; rfl⟩
  · right; left
    have e : compareInt (a.size : Int) (b.size : Int) = 1 := by unfold compareInt; rw [if_neg (by omega), if_pos (by omega)]
    exact ⟨h, by unfold ordS orI; rw [e]; rfl⟩
theorem ord_in (a b : ByteArray) : -1 ≤ ordS a b ∧ ordS a b ≤ 1 := by
  have := cb_in a.data.toList b.data.toList
  rcases ord_cases a b with ⟨_, h⟩ | ⟨_, h⟩ | ⟨_, h⟩ <;> omega
theorem ord_neg (a b : ByteArray) : ordS b a = - ordS a b := by
  have := cb_neg a.data.toList b.data.toList
  rcases ord_cases a b with ⟨h, e⟩ | ⟨h, e⟩ | ⟨h, e⟩ <;> rcases ord_cases b a with ⟨h', e'⟩ | ⟨h', e'⟩ | ⟨h', e'⟩ <;> omega
theorem ord_zero (a b : ByteArray) : ordS a b = 0 ↔ a = b := by
  have hz := cb_zero a.data.toList b.data.toList
  constructor
  · intro h
    rcases ord_cases a b with ⟨_, e⟩ | ⟨_, e⟩ | ⟨_, e⟩
    · omega
    · omega
    · exact ByteArray.ext (Array.toList_inj.1 (hz.1 (by omega)))
  · rintro rfl
    rcases ord_cases a a with ⟨h, e⟩ | ⟨h, e⟩ | ⟨h, e⟩
    · omega
    · omega
    · rw [e, hz.2 rfl]
theorem ord_trans (a b c : ByteArray) (h : ordS a b ≤ 0) (k : ordS b c ≤ 0) : ordS a c ≤ 0 := by
  have := cb_trans a.data.toList b.data.toList c.data.toList
  rcases ord_cases a b with ⟨h1, e1⟩ | ⟨h1, e1⟩ | ⟨h1, e1⟩ <;> rcases ord_cases b c with ⟨h2, e2⟩ | ⟨h2, e2⟩ | ⟨h2, e2⟩ <;> rcases ord_cases a c with ⟨h3, e3⟩ | ⟨h3, e3⟩ | ⟨h3, e3⟩ <;> omega

end Go.Proofs.YtggahoocgijdkaaDoor.Ord
