/- Contracts of the code: double, Times, a byte turned, spread. -/
import Derived.Test.YtdnkbefpbehllaaDoorM02
import Derived.Test.YtdnkbefpbehllaaDoorM09
import Derived.LoopTactic
import Derived.Lib.QuietBelow
import Derived.BigQuiet
import Derived.Deep.QuietTactic
set_option linter.unusedVariables false
namespace Go.Proofs.YtdnkbefpbehllaaDoor.Aes1
open Go.RowKit Go.Proofs.YtdnkbefpbehllaaDoor.Sums Go.Proofs.YtdnkbefpbehllaaDoor.Mem Go.Proofs.YtdnkbefpbehllaaDoor.Blk Go.Proofs.YtdnkbefpbehllaaDoor.Bits3 Go.Proofs.YtdnkbefpbehllaaDoor.AesF Go.Proofs.YtdnkbefpbehllaaDoor.AesB

theorem dbl8 {x : Nat} (h : x < 256) : ((x * 2) % 256) ^^^ (x / 128 * 27) = dbl x := by
  have : ∀ x : Fin 256, ((x.val * 2) % 256) ^^^ (x.val / 128 * 27) = dbl x.val := by decide +kernel
  exact this ⟨x, h⟩

set_option maxHeartbeats 1000000 in
theorem double_no (x : Nat) (hx : x < 256) (w : World) : Calls Tryd.prog 56 #[.int .u8 (x : Int)] w fun e w' => e = .returned (.int .u8 ((dbl x : Nat) : Int)) ∧ w = w' := by
  have E : bits .xor .u8 ((x : Int) * 2 % 256) ((x : Int) / 128 * 27) = ((dbl x : Nat) : Int) := by
    rw [← dbl8 hx, show (x : Int) * 2 % 256 = ((x * 2 % 256 : Nat) : Int) by omega, show (x : Int) / 128 * 27 = ((x / 128 * 27 : Nat) : Int) by omega]
    exact Bits3.u8_xor (a := x * 2 % 256) (b := x / 128 * 27) (by omega) (by omega)
  obtain ⟨d, hd⟩ : ∃ d, d = dbl x := ⟨_, rfl⟩
  rw [← hd] at E ⊢
  clear hd
  go_enter Tryd.func56, Tryd.ntmps56
  go_wp2_with fail
  go_ret
  exact ⟨rfl, rfl⟩

theorem tgo_zero : ∀ (k x n : Nat), tgo k x 0 n = n
  | 0, _, _ => rfl
  | k + 1, x, n => by rw [tgo, if_neg (by decide), Nat.zero_div]; exact tgo_zero k _ _
theorem and_one {y : Nat} (h : y < 256) : bits .and .u8 (y : Int) 1 = ((y % 2 : Nat) : Int) := by
  have : ∀ y : Fin 256, bits .and .u8 (y.val : Int) 1 = ((y.val % 2 : Nat) : Int) := by decide +kernel
  exact this ⟨y, h⟩

/-- A byte turned k times. -/
def ri : Nat → Nat → Nat
  | 0, b => b
  | k + 1, b => rotl (ri k b)
theorem ri_lt (k : Nat) {b : Nat} (h : b < 256) : ri k b < 256 := by
  induction k with
  | zero => exact h
  | succ k ih =>
    have : ∀ x : Fin 256, rotl x.val < 256 := by decide +kernel
    exact this ⟨_, ih⟩
theorem ri_1 {b : Nat} (h : b < 256) : bits .or .u8 ((b : Int) * 2 % 256) ((b : Int) / 128) = ((ri 1 b : Nat) : Int) := by
  have : ∀ b : Fin 256, bits .or .u8 ((b.val : Int) * 2 % 256) ((b.val : Int) / 128) = ((ri 1 b.val : Nat) : Int) := by decide +kernel
  exact this ⟨b, h⟩
theorem ri_2 {b : Nat} (h : b < 256) : bits .or .u8 ((b : Int) * 4 % 256) ((b : Int) / 64) = ((ri 2 b : Nat) : Int) := by
  have : ∀ b : Fin 256, bits .or .u8 ((b.val : Int) * 4 % 256) ((b.val : Int) / 64) = ((ri 2 b.val : Nat) : Int) := by decide +kernel
  exact this ⟨b, h⟩
theorem ri_3 {b : Nat} (h : b < 256) : bits .or .u8 ((b : Int) * 8 % 256) ((b : Int) / 32) = ((ri 3 b : Nat) : Int) := by
  have : ∀ b : Fin 256, bits .or .u8 ((b.val : Int) * 8 % 256) ((b.val : Int) / 32) = ((ri 3 b.val : Nat) : Int) := by decide +kernel
  exact this ⟨b, h⟩
theorem ri_4 {b : Nat} (h : b < 256) : bits .or .u8 ((b : Int) * 16 % 256) ((b : Int) / 16) = ((ri 4 b : Nat) : Int) := by
  have : ∀ b : Fin 256, bits .or .u8 ((b.val : Int) * 16 % 256) ((b.val : Int) / 16) = ((ri 4 b.val : Nat) : Int) := by decide +kernel
  exact this ⟨b, h⟩

set_option maxHeartbeats 1000000 in
theorem turn_no (b k : Nat) (hb : b < 256) (h1 : 1 ≤ k) (h4 : k ≤ 4) (w : World) : Calls Tryd.prog 68 #[.int .u8 (b : Int), .int .i64 (k : Int)] w fun e w' => e = .returned (.int .u8 ((ri k b : Nat) : Int)) ∧ w = w' := by
  have E1 := ri_1 hb
  have E2 := ri_2 hb
  have E3 := ri_3 hb
  have E4 := ri_4 hb
  have M1 : bits .and .u64 1 7 = 1 := by decide +kernel
  have M2 : bits .and .u64 2 7 = 2 := by decide +kernel
  have M3 : bits .and .u64 3 7 = 3 := by decide +kernel
  have M4 : bits .and .u64 4 7 = 4 := by decide +kernel
  have hk : k = 1 ∨ k = 2 ∨ k = 3 ∨ k = 4 := by omega
  rcases hk with rfl | rfl | rfl | rfl
  · obtain ⟨d, hd⟩ : ∃ d, d = ri 1 b := ⟨_, rfl⟩
    rw [← hd] at E1 ⊢
    clear hd E2 E3 E4
    go_enter Tryd.func68, Tryd.ntmps68
    go_wp2_with fail
    go_ret
    exact ⟨rfl, rfl⟩
  · obtain ⟨d, hd⟩ : ∃ d, d = ri 2 b := ⟨_, rfl⟩
    rw [← hd] at E2 ⊢
    clear hd E1 E3 E4
    go_enter Tryd.func68, Tryd.ntmps68
    go_wp2_with fail
    go_ret
    exact ⟨rfl, rfl⟩
  · obtain ⟨d, hd⟩ : ∃ d, d = ri 3 b := ⟨_, rfl⟩
    rw [← hd] at E3 ⊢
    clear hd E1 E2 E4
    go_enter Tryd.func68, Tryd.ntmps68
    go_wp2_with fail
    go_ret
    exact ⟨rfl, rfl⟩
  · obtain ⟨d, hd⟩ : ∃ d, d = ri 4 b := ⟨_, rfl⟩
    rw [← hd] at E4 ⊢
    clear hd E1 E2 E3
    go_enter Tryd.func68, Tryd.ntmps68
    go_wp2_with fail
    go_ret
    exact ⟨rfl, rfl⟩

/-- A byte spread: unlike 63, and unlike itself turned. -/
def spr (b : Nat) : Nat := bgo 4 b (b ^^^ 99)
theorem spr_lt {b : Nat} (h : b < 256) : spr b < 256 := by
  have : ∀ b : Fin 256, spr b.val < 256 := by decide +kernel
  exact this ⟨b, h⟩
set_option maxHeartbeats 1000000 in
theorem spread_no (b : Nat) (hb : b < 256) (w : World) : Calls Tryd.prog 61 #[.int .u8 (b : Int)] w fun e w' => e = .returned (.int .u8 ((spr b : Nat) : Int)) ∧ w = w' := by
  have E : Hid (bgo 4 (ri 0 b) (b ^^^ 99) = spr b) := Lib.hid rfl
  have BB := Lib.hid hb
  have f0 : bits .xor .u8 (b : Int) 99 = ((b ^^^ 99 : Nat) : Int) := Bits3.u8_xor (b := 99) hb (by decide)
  have BN := Lib.hid (xor_lt hb (show 99 < 256 by decide))
  obtain ⟨t, ht⟩ : ∃ t, t = spr b := ⟨_, rfl⟩
  obtain ⟨n0, hn0⟩ : ∃ n0, n0 = b ^^^ 99 := ⟨_, rfl⟩
  rw [← ht] at E ⊢
  rw [← hn0] at E f0 BN
  clear ht hn0 hb
  go_enter Tryd.func61, Tryd.ntmps61
  go_wp2_with fail
  clear f0
  go_loopw [3, 7] (fun nv kv wr => ∃ j n : Nat, kv = .int .i64 (j : Int) ∧ nv = .int .u8 (n : Int) ∧ j ≤ 4 ∧ Hid (n < 256) ∧ Hid (bgo (4 - j) (ri j b) n = t) ∧ Hid (wr = w)) (fun _ kv _ => 4 - (intOf kv).toNat)
  case atStart => exact ⟨0, n0, rfl, rfl, by omega, BN, E, Lib.hid rfl⟩
  case round =>
    obtain ⟨j, n, rfl, rfl, hj, BP, HE, HW⟩ := hrel
    obtain rfl := HW.out
    clear E BN
    by_cases hlt : j < 4
    · have HE2 : Hid (bgo (4 - (j + 1)) (ri (j + 1) b) (n ^^^ ri (j + 1) b) = t) := Lib.hid (by
        rw [← HE.out, show 4 - j = (4 - (j + 1)) + 1 by omega]; rfl)
      have C := Lib.hid (turn_no b (j + 1) BB.out (by omega) (by omega) wr)
      have BR := ri_lt (j + 1) BB.out
      have bn := BP.out
      have BX := Lib.hid (xor_lt bn BR)
      obtain ⟨r, hr⟩ : ∃ r, r = ri (j + 1) b := ⟨_, rfl⟩
      rw [← hr] at C BR BX
      have HE3 : Hid (bgo (4 - (j + 1)) (ri (j + 1) b) (n ^^^ r) = t) := by rw [hr]; exact HE2
      have f6 : bits .xor .u8 (n : Int) (r : Int) = ((n ^^^ r : Nat) : Int) := Bits3.u8_xor bn BR
      obtain ⟨nx, hnx⟩ : ∃ nx, nx = n ^^^ r := ⟨_, rfl⟩
      rw [← hnx] at f6 HE3 BX
      rw [show (((j + 1 : Nat) : Nat) : Int) = (j : Int) + 1 by omega] at C
      clear hr hnx HE HE2 BR bn
      go_wp2_with fail
      refine C.out.mono ?_
      rintro e w' ⟨rfl, rfl⟩
      go_wp2_with fail
      go_roundw
      case rel => exact ⟨j + 1, nx, by go_num, rfl, by omega, BX, HE3, Lib.hid (by trivial)⟩
      case measure => simp [intOf]; omega
    · obtain rfl : j = 4 := by omega
      have HF : n = t := HE.out
      subst HF
      clear HE
      go_wp2_with fail
      go_ret
      exact ⟨rfl, rfl⟩

end Go.Proofs.YtdnkbefpbehllaaDoor.Aes1

/- Contracts of the document: Times, inverse, Box, May. -/
set_option linter.unusedVariables false
namespace Go.Proofs.YtdnkbefpbehllaaDoor.AesR
open Go.RowKit Go.Proofs.YtdnkbefpbehllaaDoor.Sums Go.Proofs.YtdnkbefpbehllaaDoor.Mem Go.Proofs.YtdnkbefpbehllaaDoor.Blk Go.Proofs.YtdnkbefpbehllaaDoor.Bits3 Go.Proofs.YtdnkbefpbehllaaDoor.AesF Go.Proofs.YtdnkbefpbehllaaDoor.AesB

end Go.Proofs.YtdnkbefpbehllaaDoor.AesR

/- Contracts of the document: Box, May, Table, with. -/
set_option linter.unusedVariables false
namespace Go.Proofs.YtdnkbefpbehllaaDoor.AesR2
open Go.RowKit Go.Proofs.YtdnkbefpbehllaaDoor.Sums Go.Proofs.YtdnkbefpbehllaaDoor.Mem Go.Proofs.YtdnkbefpbehllaaDoor.Blk Go.Proofs.YtdnkbefpbehllaaDoor.Bits3 Go.Proofs.YtdnkbefpbehllaaDoor.Ints Go.Proofs.YtdnkbefpbehllaaDoor.AesF Go.Proofs.YtdnkbefpbehllaaDoor.AesB Go.Proofs.YtdnkbefpbehllaaDoor.AesR

theorem inv_lt {x : Nat} (hx : x < 256) : inv x < 256 := by
  have : ∀ x : Fin 256, inv x.val < 256 := by decide +kernel
  exact this ⟨x, hx⟩
theorem rotl_lt {b : Nat} (h : b < 256) : rotl b < 512 := by unfold rotl; omega
theorem rotl_byte {b : Nat} (h : b < 256) : rotl b < 256 := by
  have : ∀ x : Fin 256, rotl x.val < 256 := by decide +kernel
  exact this ⟨b, h⟩

def mayB (n : Nat) : Bool := decide (n = 16) || decide (n = 32)
/-- All of Box. -/
def boxes : List Nat := (List.range 256).map Box
theorem boxes_len : boxes.length = 256 := by simp [boxes]
theorem boxes_get {x : Nat} (h : x < 256) : boxes.getD x 0 = Box x := by
  rw [List.getD_eq_getElem?_getD, boxes, List.getElem?_map, List.getElem?_range h]
  rfl

end Go.Proofs.YtdnkbefpbehllaaDoor.AesR2

