/- Contracts of the code: double, Times, a byte turned, spread. -/
import Derived.Test.YtkgbifljmgindaaInts
import Derived.Test.YtkgbifljmgindaaAesB
import Derived.LoopTactic
set_option linter.unusedVariables false
namespace Go.Proofs.Ytkgbifljmgindaa.Aes1
open Go.RowKit Go.Proofs.Ytkgbifljmgindaa.Sums Go.Proofs.Ytkgbifljmgindaa.Mem Go.Proofs.Ytkgbifljmgindaa.Blk Go.Proofs.Ytkgbifljmgindaa.Bits3 Go.Proofs.Ytkgbifljmgindaa.AesF Go.Proofs.Ytkgbifljmgindaa.AesB

theorem dbl8 {x : Nat} (h : x < 256) : ((x * 2) % 256) ^^^ (x / 128 * 27) = dbl x := by
  have : ∀ x : Fin 256, ((x.val * 2) % 256) ^^^ (x.val / 128 * 27) = dbl x.val := by decide +kernel
  exact this ⟨x, h⟩

set_option maxHeartbeats 1000000 in
theorem double_no (x : Nat) (hx : x < 256) (w : World) : Calls Try.prog 22 #[.int .u8 (x : Int)] w fun e w' => e = .returned (.int .u8 ((dbl x : Nat) : Int)) ∧ w = w' := by
  have E : bits .xor .u8 ((x : Int) * 2 % 256) ((x : Int) / 128 * 27) = ((dbl x : Nat) : Int) := by
    rw [← dbl8 hx, show (x : Int) * 2 % 256 = ((x * 2 % 256 : Nat) : Int) by omega, show (x : Int) / 128 * 27 = ((x / 128 * 27 : Nat) : Int) by omega]
    exact Bits3.u8_xor (a := x * 2 % 256) (b := x / 128 * 27) (by omega) (by omega)
  obtain ⟨d, hd⟩ : ∃ d, d = dbl x := ⟨_, rfl⟩
  rw [← hd] at E ⊢
  clear hd
  go_enter Try.func22, Try.ntmps22
  go_wp2_with fail
  go_ret
  exact ⟨rfl, rfl⟩

theorem tgo_zero : ∀ (k x n : Nat), tgo k x 0 n = n
  | 0, _, _ => rfl
  | k + 1, x, n => by rw [tgo, if_neg (by decide), Nat.zero_div]; exact tgo_zero k _ _
theorem and_one {y : Nat} (h : y < 256) : bits .and .u8 (y : Int) 1 = ((y % 2 : Nat) : Int) := by
  have : ∀ y : Fin 256, bits .and .u8 (y.val : Int) 1 = ((y.val % 2 : Nat) : Int) := by decide +kernel
  exact this ⟨y, h⟩

set_option maxHeartbeats 1000000 in
theorem times_no (x y : Nat) (hx : x < 256) (hy : y < 256) (w : World) : Calls Try.prog 11 #[.int .u8 (x : Int), .int .u8 (y : Int)] w fun e w' => e = .returned (.int .u8 ((T x y : Nat) : Int)) ∧ w = w' := by
  have E : Hid (tgo 8 x y 0 = T x y) := Lib.hid rfl
  have XB := Lib.hid hx
  have YB := Lib.hid hy
  obtain ⟨t, ht⟩ : ∃ t, t = T x y := ⟨_, rfl⟩
  rw [← ht] at E ⊢
  clear ht hx hy
  go_enter Try.func11, Try.ntmps11
  go_wp2_with fail
  go_loopw [0, 1, 5] (fun xv yv nv wr => ∃ k x' y' n' : Nat, xv = .int .u8 (x' : Int) ∧ yv = .int .u8 (y' : Int) ∧ nv = .int .u8 (n' : Int) ∧ x' < 256 ∧ y' < 256 ∧ n' < 256 ∧ Hid (y' < 2 ^ k) ∧ Hid (tgo k x' y' n' = t) ∧ Hid (wr = w)) (fun _ yv _ _ => (intOf yv).toNat)
  case atStart => exact ⟨8, x, y, 0, rfl, rfl, rfl, XB.out, YB.out, by omega, YB, E, Lib.hid rfl⟩
  case round =>
    obtain ⟨k, x', y', n', rfl, rfl, rfl, bx, by_, bn, HY, HE, HW⟩ := hrel
    obtain rfl := HW.out
    clear E
    by_cases hz : y' = 0
    · subst hz
      have HF : n' = t := by have := HE.out; rwa [tgo_zero] at this
      subst HF
      clear HE HY
      go_wp2_with fail
      go_ret
      exact ⟨rfl, rfl⟩
    · obtain ⟨m, hm⟩ : ∃ m, k = m + 1 := by
        have h := HY.out
        cases k with
        | zero => simp at h; omega
        | succ m => exact ⟨m, rfl⟩
      subst hm
      have HY2 : Hid (y' / 2 < 2 ^ m) := Lib.hid (by have := HY.out; rw [Nat.pow_succ] at this; omega)
      have HE2 : Hid (tgo m (dbl x') (y' / 2) (if y' % 2 = 1 then n' ^^^ x' else n') = t) := Lib.hid (by rw [← HE.out]; rfl)
      have bd := dbl_lt bx
      have bh : y' / 2 < 256 := by omega
      have bnx : n' ^^^ x' < 256 := xor_lt bn bx
      have D := Lib.hid (double_no x' bx wr)
      have g0 : ((y' : Int) != 0) = true := by simp; omega
      have f1 : (y' : Int) / 2 = ((y' / 2 : Nat) : Int) := by omega
      have f2 := and_one by_
      have f3 : bits .xor .u8 (n' : Int) (x' : Int) = ((n' ^^^ x' : Nat) : Int) := Bits3.u8_xor bn bx
      have f4 : bits .xor .u8 (n' : Int) 0 = (n' : Int) := by have := Bits3.u8_xor bn (show 0 < 256 by decide); rwa [Nat.xor_zero] at this
      have M : y' / 2 < y' := by omega
      obtain ⟨yh, hyh⟩ : ∃ yh, yh = y' / 2 := ⟨_, rfl⟩
      obtain ⟨nx, hnx⟩ : ∃ nx, nx = n' ^^^ x' := ⟨_, rfl⟩
      obtain ⟨xd, hxd⟩ : ∃ xd, xd = dbl x' := ⟨_, rfl⟩
      obtain ⟨r, hr⟩ : ∃ r, r = y' % 2 := ⟨_, rfl⟩
      rw [← hyh] at HE2 f1 bh HY2 M
      rw [← hnx] at HE2 f3 bnx
      rw [← hr] at HE2 f2
      rw [← hxd] at HE2 D bd
      have hr2 : r = 0 ∨ r = 1 := by omega
      clear hyh hnx hxd hr HE HY
      rcases hr2 with rfl | rfl
      · have HE3 : Hid (tgo m xd yh n' = t) := Lib.hid (by have := HE2.out; rwa [if_neg (by decide)] at this)
        clear HE2
        go_wp2_with fail
        refine D.out.mono ?_
        rintro e w' ⟨rfl, rfl⟩
        go_wp2_with fail
        go_roundw
        case rel => exact ⟨m, xd, yh, n', rfl, rfl, rfl, bd, bh, bn, HY2, HE3, Lib.hid (by trivial)⟩
        case measure => simp [intOf]; omega
      · have HE3 : Hid (tgo m xd yh nx = t) := Lib.hid (by have := HE2.out; rwa [if_pos rfl] at this)
        clear HE2
        go_wp2_with fail
        refine D.out.mono ?_
        rintro e w' ⟨rfl, rfl⟩
        go_wp2_with fail
        go_roundw
        case rel => exact ⟨m, xd, yh, nx, rfl, rfl, rfl, bd, bh, bnx, HY2, HE3, Lib.hid (by trivial)⟩
        case measure => simp [intOf]; omega

/-- A byte turned k times. -/
def ri : Nat → Nat → Nat
  | 0, b => b
  | k + 1, b => rotl (ri k b)
theorem ri_lt (k : Nat) {b : Nat} (h : b < 256) : ri k b < 256 := by
  induction k with
  | zero => exact h
  | succ k ih =>
    have : ∀ x : Fin 256, rotl x.val < 256 := by decide +kernel
    exact this ⟨_, ih⟩
theorem ri_1 {b : Nat} (h : b < 256) : bits .or .u8 ((b : Int) * 2 % 256) ((b : Int) / 128) = ((ri 1 b : Nat) : Int) := by
  have : ∀ b : Fin 256, bits .or .u8 ((b.val : Int) * 2 % 256) ((b.val : Int) / 128) = ((ri 1 b.val : Nat) : Int) := by decide +kernel
  exact this ⟨b, h⟩
theorem ri_2 {b : Nat} (h : b < 256) : bits .or .u8 ((b : Int) * 4 % 256) ((b : Int) / 64) = ((ri 2 b : Nat) : Int) := by
  have : ∀ b : Fin 256, bits .or .u8 ((b.val : Int) * 4 % 256) ((b.val : Int) / 64) = ((ri 2 b.val : Nat) : Int) := by decide +kernel
  exact this ⟨b, h⟩
theorem ri_3 {b : Nat} (h : b < 256) : bits .or .u8 ((b : Int) * 8 % 256) ((b : Int) / 32) = ((ri 3 b : Nat) : Int) := by
  have : ∀ b : Fin 256, bits .or .u8 ((b.val : Int) * 8 % 256) ((b.val : Int) / 32) = ((ri 3 b.val : Nat) : Int) := by decide +kernel
  exact this ⟨b, h⟩
theorem ri_4 {b : Nat} (h : b < 256) : bits .or .u8 ((b : Int) * 16 % 256) ((b : Int) / 16) = ((ri 4 b : Nat) : Int) := by
  have : ∀ b : Fin 256, bits .or .u8 ((b.val : Int) * 16 % 256) ((b.val : Int) / 16) = ((ri 4 b.val : Nat) : Int) := by decide +kernel
  exact this ⟨b, h⟩

set_option maxHeartbeats 1000000 in
theorem turn_no (b k : Nat) (hb : b < 256) (h1 : 1 ≤ k) (h4 : k ≤ 4) (w : World) : Calls Try.prog 34 #[.int .u8 (b : Int), .int .i64 (k : Int)] w fun e w' => e = .returned (.int .u8 ((ri k b : Nat) : Int)) ∧ w = w' := by
  have E1 := ri_1 hb
  have E2 := ri_2 hb
  have E3 := ri_3 hb
  have E4 := ri_4 hb
  have M1 : bits .and .u64 1 7 = 1 := by decide +kernel
  have M2 : bits .and .u64 2 7 = 2 := by decide +kernel
  have M3 : bits .and .u64 3 7 = 3 := by decide +kernel
  have M4 : bits .and .u64 4 7 = 4 := by decide +kernel
  have hk : k = 1 ∨ k = 2 ∨ k = 3 ∨ k = 4 := by omega
  rcases hk with rfl | rfl | rfl | rfl
  · obtain ⟨d, hd⟩ : ∃ d, d = ri 1 b := ⟨_, rfl⟩
    rw [← hd] at E1 ⊢
    clear hd E2 E3 E4
    go_enter Try.func34, Try.ntmps34
    go_wp2_with fail
    go_ret
    exact ⟨rfl, rfl⟩
  · obtain ⟨d, hd⟩ : ∃ d, d = ri 2 b := ⟨_, rfl⟩
    rw [← hd] at E2 ⊢
    clear hd E1 E3 E4
    go_enter Try.func34, Try.ntmps34
    go_wp2_with fail
    go_ret
    exact ⟨rfl, rfl⟩
  · obtain ⟨d, hd⟩ : ∃ d, d = ri 3 b := ⟨_, rfl⟩
    rw [← hd] at E3 ⊢
    clear hd E1 E2 E4
    go_enter Try.func34, Try.ntmps34
    go_wp2_with fail
    go_ret
    exact ⟨rfl, rfl⟩
  · obtain ⟨d, hd⟩ : ∃ d, d = ri 4 b := ⟨_, rfl⟩
    rw [← hd] at E4 ⊢
    clear hd E1 E2 E3
    go_enter Try.func34, Try.ntmps34
    go_wp2_with fail
    go_ret
    exact ⟨rfl, rfl⟩

/-- A byte spread: unlike 63, and unlike itself turned. -/
def spr (b : Nat) : Nat := bgo 4 b (b ^^^ 99)
theorem spr_lt {b : Nat} (h : b < 256) : spr b < 256 := by
  have : ∀ b : Fin 256, spr b.val < 256 := by decide +kernel
  exact this ⟨b, h⟩
set_option maxHeartbeats 1000000 in
theorem spread_no (b : Nat) (hb : b < 256) (w : World) : Calls Try.prog 32 #[.int .u8 (b : Int)] w fun e w' => e = .returned (.int .u8 ((spr b : Nat) : Int)) ∧ w = w' := by
  have E : Hid (bgo 4 (ri 0 b) (b ^^^ 99) = spr b) := Lib.hid rfl
  have BB := Lib.hid hb
  have f0 : bits .xor .u8 (b : Int) 99 = ((b ^^^ 99 : Nat) : Int) := Bits3.u8_xor (b := 99) hb (by decide)
  have BN := Lib.hid (xor_lt hb (show 99 < 256 by decide))
  obtain ⟨t, ht⟩ : ∃ t, t = spr b := ⟨_, rfl⟩
  obtain ⟨n0, hn0⟩ : ∃ n0, n0 = b ^^^ 99 := ⟨_, rfl⟩
  rw [← ht] at E ⊢
  rw [← hn0] at E f0 BN
  clear ht hn0 hb
  go_enter Try.func32, Try.ntmps32
  go_wp2_with fail
  clear f0
  go_loopw [3, 7] (fun nv kv wr => ∃ j n : Nat, kv = .int .i64 (j : Int) ∧ nv = .int .u8 (n : Int) ∧ j ≤ 4 ∧ Hid (n < 256) ∧ Hid (bgo (4 - j) (ri j b) n = t) ∧ Hid (wr = w)) (fun _ kv _ => 4 - (intOf kv).toNat)
  case atStart => exact ⟨0, n0, rfl, rfl, by omega, BN, E, Lib.hid rfl⟩
  case round =>
    obtain ⟨j, n, rfl, rfl, hj, BP, HE, HW⟩ := hrel
    obtain rfl := HW.out
    clear E BN
    by_cases hlt : j < 4
    · have HE2 : Hid (bgo (4 - (j + 1)) (ri (j + 1) b) (n ^^^ ri (j + 1) b) = t) := Lib.hid (by
        rw [← HE.out, show 4 - j = (4 - (j + 1)) + 1 by omega]; rfl)
      have C := Lib.hid (turn_no b (j + 1) BB.out (by omega) (by omega) wr)
      have BR := ri_lt (j + 1) BB.out
      have bn := BP.out
      have BX := Lib.hid (xor_lt bn BR)
      obtain ⟨r, hr⟩ : ∃ r, r = ri (j + 1) b := ⟨_, rfl⟩
      rw [← hr] at C BR BX
      have HE3 : Hid (bgo (4 - (j + 1)) (ri (j + 1) b) (n ^^^ r) = t) := by rw [hr]; exact HE2
      have f6 : bits .xor .u8 (n : Int) (r : Int) = ((n ^^^ r : Nat) : Int) := Bits3.u8_xor bn BR
      obtain ⟨nx, hnx⟩ : ∃ nx, nx = n ^^^ r := ⟨_, rfl⟩
      rw [← hnx] at f6 HE3 BX
      rw [show (((j + 1 : Nat) : Nat) : Int) = (j : Int) + 1 by omega] at C
      clear hr hnx HE HE2 BR bn
      go_wp2_with fail
      refine C.out.mono ?_
      rintro e w' ⟨rfl, rfl⟩
      go_wp2_with fail
      go_roundw
      case rel => exact ⟨j + 1, nx, by go_num, rfl, by omega, BX, HE3, Lib.hid (by trivial)⟩
      case measure => simp [intOf]; omega
    · obtain rfl : j = 4 := by omega
      have HF : n = t := HE.out
      subst HF
      clear HE
      go_wp2_with fail
      go_ret
      exact ⟨rfl, rfl⟩

end Go.Proofs.Ytkgbifljmgindaa.Aes1
