/- Plain lists: bytes, groups of two bytes, first bits. No program is named here. -/

set_option linter.unusedVariables false
namespace Go.Proofs.Ytnabjhdamofpgaa.Grp

/-- The groups of bytes. -/
def grp : List Nat → List Nat
  | a :: b :: r => (a * 256 + b) :: grp r
  | _ => []
/-- The bytes of groups. -/
def ungrp : List Nat → List Nat
  | [] => []
  | x :: r => x / 256 :: x % 256 :: ungrp r
/-- x with all but its first k bits (of 16) cleared. -/
def keep16 (k x : Nat) : Nat := x / 2 ^ (16 - k) * 2 ^ (16 - k)
def firstG (b : Nat) : List Nat → List Nat
  | [] => []
  | x :: r => keep16 (min b 16) x :: firstG (b - 16) r
/-- .. and of 8. -/
def keep8 (k x : Nat) : Nat := x / 2 ^ (8 - k) * 2 ^ (8 - k)
def maskB (b : Nat) : List Nat → List Nat
  | [] => []
  | x :: r => keep8 (min b 8) x :: maskB (b - 8) r
/-- A list of eight. -/
def pad8 (l : List Nat) : List Nat := l ++ List.replicate (8 - l.length) 0

theorem grp_len : ∀ l : List Nat, (grp l).length = l.length / 2
  | [] => rfl
  | [_] => by simp [grp]
  | _ :: _ :: r => by simp only [grp, List.length_cons, grp_len r]; omega
theorem ungrp_len : ∀ l : List Nat, (ungrp l).length = 2 * l.length
  | [] => rfl
  | _ :: r => by simp only [ungrp, List.length_cons, ungrp_len r]; omega
theorem ungrp_grp : ∀ l : List Nat, (∀ z ∈ l, z ≤ 255) → l.length % 2 = 0 → ungrp (grp l) = l
  | [], _, _ => rfl
  | [_], _, h => by simp at h
  | a :: b :: r, h, k => by
    have ha := h a (by simp)
    have hb := h b (by simp)
    have ih := ungrp_grp r (fun z hz => h z (by simp [hz])) (by simp only [List.length_cons] at k; omega)
    simp only [grp, ungrp, ih]
    congr 1
    · omega
    · congr 1
      omega
theorem grp_at : ∀ (l : List Nat) (k x y : Nat), l[2 * k]? = some x → l[2 * k + 1]? = some y → (grp l)[k]? = some (x * 256 + y)
  | [], _, _, _, h, _ => by simp at h
  | [_], k, _, _, h, h' => by simp at h'
  | a :: b :: r, 0, x, y, h, h' => by simp at h h'; subst h h'; rfl
  | a :: b :: r, k + 1, x, y, h, h' => by
    simp only [grp, List.getElem?_cons_succ]
    exact grp_at r k x y (by simpa [Nat.mul_add] using h) (by simpa [Nat.mul_add] using h')
theorem grp_le : ∀ l : List Nat, (∀ z ∈ l, z ≤ 255) → ∀ z ∈ grp l, z ≤ 65535
  | [], _, _, h => by simp [grp] at h
  | [_], _, _, h => by simp [grp] at h
  | a :: b :: r, h, z, hz => by
    simp only [grp, List.mem_cons] at hz
    rcases hz with rfl | hz
    · have := h a (by simp); have := h b (by simp); omega
    · exact grp_le r (fun z hz => h z (by simp [hz])) z hz
theorem ungrp_le : ∀ l : List Nat, (∀ z ∈ l, z ≤ 65535) → ∀ z ∈ ungrp l, z ≤ 255
  | [], _, _, h => by simp [ungrp] at h
  | a :: r, h, z, hz => by
    simp only [ungrp, List.mem_cons] at hz
    have := h a (by simp)
    rcases hz with rfl | rfl | hz
    · omega
    · omega
    · exact ungrp_le r (fun z hz => h z (by simp [hz])) z hz
theorem firstG_len : ∀ (l : List Nat) (b : Nat), (firstG b l).length = l.length
  | [], _ => rfl
  | _ :: r, b => by simp [firstG, firstG_len r]
theorem firstG_at : ∀ (l : List Nat) (b k : Nat), (firstG b l)[k]? = l[k]?.map (keep16 (min (b - 16 * k) 16))
  | [], _, _ => by simp [firstG]
  | _ :: r, b, 0 => by simp [firstG]
  | _ :: r, b, k + 1 => by
    simp only [firstG, List.getElem?_cons_succ, firstG_at r]
    rw [show b - 16 - 16 * k = b - 16 * (k + 1) by omega]
theorem keep16_le (k x : Nat) : keep16 k x ≤ x := Nat.div_mul_le_self _ _
theorem keep8_le (k x : Nat) : keep8 k x ≤ x := Nat.div_mul_le_self _ _
theorem firstG_le (l : List Nat) (b : Nat) (h : ∀ z ∈ l, z ≤ 65535) : ∀ z ∈ firstG b l, z ≤ 65535 := by
  induction l generalizing b with
  | nil => simp [firstG]
  | cons x r ih =>
    intro z hz
    simp only [firstG, List.mem_cons] at hz
    rcases hz with rfl | hz
    · exact Nat.le_trans (keep16_le _ _) (h x (by simp))
    · exact ih (b - 16) (fun z hz => h z (by simp [hz])) z hz

theorem keep_two (a b k : Nat) (ha : a ≤ 255) (hb : b ≤ 255) (hk : k ≤ 16) :
    keep16 k (a * 256 + b) / 256 = keep8 (min k 8) a ∧ keep16 k (a * 256 + b) % 256 = keep8 (min (k - 8) 8) b := by
  have : k = 0 ∨ k = 1 ∨ k = 2 ∨ k = 3 ∨ k = 4 ∨ k = 5 ∨ k = 6 ∨ k = 7 ∨ k = 8 ∨ k = 9 ∨ k = 10 ∨ k = 11 ∨ k = 12 ∨ k = 13 ∨ k = 14 ∨ k = 15 ∨ k = 16 := by omega
  unfold keep16 keep8
  rcases this with h | h | h | h | h | h | h | h | h | h | h | h | h | h | h | h | h <;> subst h <;> simp <;> omega

theorem ungrp_first : ∀ (l : List Nat) (b : Nat), (∀ z ∈ l, z ≤ 255) → l.length % 2 = 0 → ungrp (firstG b (grp l)) = maskB b l
  | [], _, _, _ => rfl
  | [_], _, _, h => by simp at h
  | x :: y :: r, b, h, k => by
    have hx := h x (by simp)
    have hy := h y (by simp)
    have ih := ungrp_first r (b - 16) (fun z hz => h z (by simp [hz])) (by simp only [List.length_cons] at k; omega)
    obtain ⟨e1, e2⟩ := keep_two x y (min b 16) hx hy (by omega)
    simp only [grp, firstG, ungrp, maskB, ih, e1, e2]
    rw [show min (min b 16) 8 = min b 8 by omega, show min (min b 16 - 8) 8 = min (b - 8) 8 by omega, show b - 8 - 8 = b - 16 by omega]

theorem ungrp_append : ∀ l r : List Nat, ungrp (l ++ r) = ungrp l ++ ungrp r
  | [], _ => rfl
  | x :: l, r => by simp [ungrp, ungrp_append l r]
theorem ungrp_take : ∀ (l : List Nat) (k : Nat), ungrp (l.take k) = (ungrp l).take (2 * k)
  | [], k => by simp [ungrp]
  | _ :: _, 0 => by simp [ungrp]
  | x :: l, k + 1 => by simp [ungrp, ungrp_take l k, Nat.mul_add]

end Go.Proofs.Ytnabjhdamofpgaa.Grp
