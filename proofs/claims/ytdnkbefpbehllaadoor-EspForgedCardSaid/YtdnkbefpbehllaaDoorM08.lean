/- Products of bytes as polynomials: plain facts about numbers. No program is named but the kind of its numbers. -/
import Derived.Test.YtdnkbefpbehllaaDoorProg
set_option linter.unusedVariables false
namespace Go.Proofs.YtdnkbefpbehllaaDoor.AesF

/-- Twice a byte, and what is left of it. -/
def dbl (x : Nat) : Nat := if 255 < 2 * x then (2 * x) ^^^ 283 else 2 * x
/-- k rounds of a product, with n for what has come together. -/
def tgo : Nat → Nat → Nat → Nat → Nat
  | 0, _, _, n => n
  | k + 1, x, y, n => tgo k (dbl x) (y / 2) (if y % 2 = 1 then n ^^^ x else n)
/-- A product. -/
def T (x y : Nat) : Nat := tgo 8 x y 0

theorem fin256 {p : Nat → Prop} (h : ∀ x : Fin 256, p x.val) {x : Nat} (hx : x < 256) : p x := h ⟨x, hx⟩
theorem xor_lt {a b : Nat} (ha : a < 256) (hb : b < 256) : a ^^^ b < 256 := Nat.xor_lt_two_pow (n := 8) ha hb
theorem dbl_lt {x : Nat} (h : x < 256) : dbl x < 256 := by
  have : ∀ x : Fin 256, dbl x.val < 256 := by decide +kernel
  exact this ⟨x, h⟩
theorem dbl_xor {a b : Nat} (ha : a < 256) (hb : b < 256) : dbl (a ^^^ b) = dbl a ^^^ dbl b := by
  have : ∀ a : Fin 256, ∀ b : Fin 256, dbl (a.val ^^^ b.val) = dbl a.val ^^^ dbl b.val := by decide +kernel
  exact this ⟨a, ha⟩ ⟨b, hb⟩
theorem tgo_lt : ∀ (k x y n : Nat), x < 256 → n < 256 → tgo k x y n < 256
  | 0, _, _, _, _, hn => hn
  | k + 1, x, y, n, hx, hn => by
    rw [tgo]
    refine tgo_lt k _ _ _ (dbl_lt hx) ?_
    split
    · exact xor_lt hn hx
    · exact hn
theorem T_lt {x : Nat} (h : x < 256) (y : Nat) : T x y < 256 := tgo_lt 8 x y 0 h (by decide)

theorem xor4 (a b c d : Nat) : (a ^^^ b) ^^^ (c ^^^ d) = (a ^^^ c) ^^^ (b ^^^ d) := by
  rw [Nat.xor_assoc, Nat.xor_assoc, ← Nat.xor_assoc b c d, Nat.xor_comm b c, Nat.xor_assoc c b d]
theorem tgo_left : ∀ (k x x' y n n' : Nat), x < 256 → x' < 256 → tgo k (x ^^^ x') y (n ^^^ n') = tgo k x y n ^^^ tgo k x' y n'
  | 0, _, _, _, _, _, _, _ => rfl
  | k + 1, x, x', y, n, n', hx, hx' => by
    rw [tgo, tgo, tgo, dbl_xor hx hx']
    by_cases q : y % 2 = 1
    · rw [if_pos q, if_pos q, if_pos q, xor4]
      exact tgo_left k _ _ _ _ _ (dbl_lt hx) (dbl_lt hx')
    · rw [if_neg q, if_neg q, if_neg q]
      exact tgo_left k _ _ _ _ _ (dbl_lt hx) (dbl_lt hx')
theorem T_left {x x' : Nat} (hx : x < 256) (hx' : x' < 256) (y : Nat) : T (x ^^^ x') y = T x y ^^^ T x' y := tgo_left 8 x x' y 0 0 hx hx'
theorem half_xor (y z : Nat) : (y ^^^ z) / 2 = y / 2 ^^^ z / 2 := by
  have := Nat.shiftRight_xor_distrib (a := y) (b := z) (i := 1)
  simpa [Nat.shiftRight_eq_div_pow] using this
theorem odd_xor (y z : Nat) : ((y ^^^ z) % 2 = 1) ↔ ¬ ((y % 2 = 1) ↔ (z % 2 = 1)) := by
  have h := Nat.testBit_xor y z 0
  rw [Nat.testBit_zero, Nat.testBit_zero, Nat.testBit_zero] at h
  by_cases a : (y ^^^ z) % 2 = 1 <;> by_cases b : y % 2 = 1 <;> by_cases c : z % 2 = 1 <;> simp [a, b, c] at h ⊢
theorem tgo_right : ∀ (k x y z n m : Nat), tgo k x (y ^^^ z) (n ^^^ m) = tgo k x y n ^^^ tgo k x z m
  | 0, _, _, _, _, _ => rfl
  | k + 1, x, y, z, n, m => by
    rw [tgo, tgo, tgo, half_xor]
    have o := odd_xor y z
    have key : (if (y ^^^ z) % 2 = 1 then (n ^^^ m) ^^^ x else n ^^^ m) = (if y % 2 = 1 then n ^^^ x else n) ^^^ (if z % 2 = 1 then m ^^^ x else m) := by
      by_cases q : y % 2 = 1 <;> by_cases r : z % 2 = 1
      · rw [if_pos q, if_pos r, if_neg (by rw [o]; simp [q, r]), xor4, Nat.xor_self, Nat.xor_zero]
      · rw [if_pos q, if_neg r, if_pos (by rw [o]; simp [q, r]), Nat.xor_assoc, Nat.xor_comm m x, ← Nat.xor_assoc]
      · rw [if_neg q, if_pos r, if_pos (by rw [o]; simp [q, r]), Nat.xor_assoc]
      · rw [if_neg q, if_neg r, if_neg (by rw [o]; simp [q, r])]
    rw [key]
    exact tgo_right k _ _ _ _ _
theorem T_right (x y z : Nat) : T x (y ^^^ z) = T x y ^^^ T x z := tgo_right 8 x y z 0 0

/-- Two functions that take sums to sums are one if they are so at eight bytes. -/
structure Lin (f : Nat → Nat) : Prop where
  add : ∀ a b, a < 256 → b < 256 → f (a ^^^ b) = f a ^^^ f b
theorem Lin.zero {f : Nat → Nat} (h : Lin f) : f 0 = 0 := by
  have := h.add 0 0 (by decide) (by decide)
  rw [Nat.xor_self, Nat.xor_self] at this
  exact this
theorem lower : ∀ x : Fin 256, x.val = 0 ∨ ∃ k : Fin 8, x.val ^^^ 2 ^ k.val < x.val := by decide +kernel
theorem pow_lt (k : Fin 8) : 2 ^ k.val < 256 := by
  have : ∀ k : Fin 8, 2 ^ k.val < 256 := by decide
  exact this k
theorem Lin.eq {f g : Nat → Nat} (hf : Lin f) (hg : Lin g) (h : ∀ k : Fin 8, f (2 ^ k.val) = g (2 ^ k.val)) : ∀ (m x : Nat), x ≤ m → x < 256 → f x = g x
  | m, x, hm, hx => by
    rcases lower ⟨x, hx⟩ with h0 | ⟨k, hk⟩
    · have h0 : x = 0 := h0
      rw [h0, hf.zero, hg.zero]
    · have hk : x ^^^ 2 ^ k.val < x := hk
      match m, hm with
      | 0, hm => omega
      | m + 1, hm =>
        have ih := Lin.eq hf hg h m (x ^^^ 2 ^ k.val) (by omega) (by omega)
        have e : 2 ^ k.val ^^^ (x ^^^ 2 ^ k.val) = x := by
          rw [Nat.xor_comm x, ← Nat.xor_assoc, Nat.xor_self, Nat.zero_xor]
        have a := hf.add (2 ^ k.val) (x ^^^ 2 ^ k.val) (pow_lt k) (by omega)
        have b := hg.add (2 ^ k.val) (x ^^^ 2 ^ k.val) (pow_lt k) (by omega)
        rw [e] at a b
        rw [a, b, ih, h k]
theorem linL (y : Nat) : Lin fun x => T x y := ⟨fun a b ha hb => T_left ha hb y⟩
theorem linR (x : Nat) : Lin fun y => T x y := ⟨fun a b _ _ => T_right x a b⟩
theorem Lin.comp {f g : Nat → Nat} (hf : Lin f) (hg : Lin g) (hb : ∀ x, x < 256 → g x < 256) : Lin fun x => f (g x) :=
  ⟨fun a b ha hb' => by simp only [hg.add a b ha hb', hf.add _ _ (hb a ha) (hb b hb')]⟩

theorem T_comm {x y : Nat} (hx : x < 256) (hy : y < 256) : T x y = T y x := by
  refine (linL y).eq (linR y) (fun i => ?_) x x (Nat.le_refl _) hx
  refine (linR _).eq (linL _) (fun j => ?_) y y (Nat.le_refl _) hy
  have : ∀ i j : Fin 8, T (2 ^ i.val) (2 ^ j.val) = T (2 ^ j.val) (2 ^ i.val) := by decide +kernel
  exact this i j
theorem T_assoc {x y z : Nat} (hx : x < 256) (hy : y < 256) (hz : z < 256) : T x (T y z) = T (T x y) z := by
  refine (linL (T y z)).eq ((linL z).comp (linL y) fun a ha => T_lt ha _) (fun i => ?_) x x (Nat.le_refl _) hx
  refine ((linR _).comp (linL z) fun a ha => T_lt ha _).eq ((linL z).comp (linR _) fun a ha => T_lt (pow_lt i) _) (fun j => ?_) y y (Nat.le_refl _) hy
  refine ((linR _).comp (linR _) fun a ha => T_lt (pow_lt j) _).eq (linR _) (fun k => ?_) z z (Nat.le_refl _) hz
  have : ∀ i j k : Fin 8, T (2 ^ i.val) (T (2 ^ j.val) (2 ^ k.val)) = T (T (2 ^ i.val) (2 ^ j.val)) (2 ^ k.val) := by decide +kernel
  exact this i j k
theorem T_one {x : Nat} (hx : x < 256) : T x 1 = x := by
  have : ∀ x : Fin 256, T x.val 1 = x.val := by decide +kernel
  exact this ⟨x, hx⟩
theorem T_zero {x : Nat} : T x 0 = 0 := (linR x).zero
end Go.Proofs.YtdnkbefpbehllaaDoor.AesF

