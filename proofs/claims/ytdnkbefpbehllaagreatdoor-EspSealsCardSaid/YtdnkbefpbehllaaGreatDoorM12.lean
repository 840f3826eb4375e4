/- Contracts of the code: double, Times, a byte turned, spread. -/
import Derived.Test.YtdnkbefpbehllaaGreatDoorM02
import Derived.Test.YtdnkbefpbehllaaGreatDoorM09
import Derived.LoopTactic
import Derived.Lib.QuietBelow
import Derived.BigQuiet
import Derived.Deep.QuietTactic
set_option linter.unusedVariables false
namespace Go.Proofs.YtdnkbefpbehllaaGreatDoor.Aes1
open Go.RowKit Go.Proofs.YtdnkbefpbehllaaGreatDoor.Sums Go.Proofs.YtdnkbefpbehllaaGreatDoor.Mem Go.Proofs.YtdnkbefpbehllaaGreatDoor.Blk Go.Proofs.YtdnkbefpbehllaaGreatDoor.Bits3 Go.Proofs.YtdnkbefpbehllaaGreatDoor.AesF Go.Proofs.YtdnkbefpbehllaaGreatDoor.AesB

theorem dbl8 {x : Nat} (h : x < 256) : ((x * 2) % 256) ^^^ (x / 128 * 27) = dbl x := by
  have : ∀ x : Fin 256, ((x.val * 2) % 256) ^^^ (x.val / 128 * 27) = dbl x.val := by decide +kernel
  exact this ⟨x, h⟩

set_option maxHeartbeats 1000000 in
theorem double_no (x : Nat) (hx : x < 256) (w : World) : Calls Tryz.prog 76 #[.int .u8 (x : Int)] w fun e w' => e = .returned (.int .u8 ((dbl x : Nat) : Int)) ∧ w = w' := by
  have E : bits .xor .u8 ((x : Int) * 2 % 256) ((x : Int) / 128 * 27) = ((dbl x : Nat) : Int) := by
    rw [← dbl8 hx, show (x : Int) * 2 % 256 = ((x * 2 % 256 : Nat) : Int) by omega, show (x : Int) / 128 * 27 = ((x / 128 * 27 : Nat) : Int) by omega]
    exact Bits3.u8_xor (a := x * 2 % 256) (b := x / 128 * 27) (by omega) (by omega)
  obtain ⟨d, hd⟩ : ∃ d, d = dbl x := ⟨_, rfl⟩
  rw [← hd] at E ⊢
  clear hd
  go_enter Tryz.func76, Tryz.ntmps76
  go_wp2_with fail
  go_ret
  exact ⟨rfl, rfl⟩

theorem tgo_zero : ∀ (k x n : Nat), tgo k x 0 n = n
  | 0, _, _ => rfl
  | k + 1, x, n => by rw [tgo, if_neg (by decide), Nat.zero_div]; exact tgo_zero k _ _
theorem and_one {y : Nat} (h : y < 256) : bits .and .u8 (y : Int) 1 = ((y % 2 : Nat) : Int) := by
  have : ∀ y : Fin 256, bits .and .u8 (y.val : Int) 1 = ((y.val % 2 : Nat) : Int) := by decide +kernel
  exact this ⟨y, h⟩

/-- A byte turned k times. -/
def ri : Nat → Nat → Nat
  | 0, b => b
  | k + 1, b => rotl (ri k b)
theorem ri_lt (k : Nat) {b : Nat} (h : b < 256) : ri k b < 256 := by
  induction k with
  | zero => exact h
  | succ k ih =>
    have : ∀ x : Fin 256, rotl x.val < 256 := by decide +kernel
    exact this ⟨_, ih⟩
theorem ri_1 {b : Nat} (h : b < 256) : bits .or .u8 ((b : Int) * 2 % 256) ((b : Int) / 128) = ((ri 1 b : Nat) : Int) := by
  have : ∀ b : Fin 256, bits .or .u8 ((b.val : Int) * 2 % 256) ((b.val : Int) / 128) = ((ri 1 b.val : Nat) : Int) := by decide +kernel
  exact this ⟨b, h⟩
theorem ri_2 {b : Nat} (h : b < 256) : bits .or .u8 ((b : Int) * 4 % 256) ((b : Int) / 64) = ((ri 2 b : Nat) : Int) := by
  have : ∀ b : Fin 256, bits .or .u8 ((b.val : Int) * 4 % 256) ((b.val : Int) / 64) = ((ri 2 b.val : Nat) : Int) := by decide +kernel
  exact this ⟨b, h⟩
theorem ri_3 {b : Nat} (h : b < 256) : bits .or .u8 ((b : Int) * 8 % 256) ((b : Int) / 32) = ((ri 3 b : Nat) : Int) := by
  have : ∀ b : Fin 256, bits .or .u8 ((b.val : Int) * 8 % 256) ((b.val : Int) / 32) = ((ri 3 b.val : Nat) : Int) := by decide +kernel
  exact this ⟨b, h⟩
theorem ri_4 {b : Nat} (h : b < 256) : bits .or .u8 ((b : Int) * 16 % 256) ((b : Int) / 16) = ((ri 4 b : Nat) : Int) := by
  have : ∀ b : Fin 256, bits .or .u8 ((b.val : Int) * 16 % 256) ((b.val : Int) / 16) = ((ri 4 b.val : Nat) : Int) := by decide +kernel
  exact this ⟨b, h⟩

set_option maxHeartbeats 1000000 in
theorem turn_no (b k : Nat) (hb : b < 256) (h1 : 1 ≤ k) (h4 : k ≤ 4) (w : World) : Calls Tryz.prog 96 #[.int .u8 (b : Int), .int .i64 (k : Int)] w fun e w' => e = .returned (.int .u8 ((ri k b : Nat) : Int)) ∧ w = w' := by
  have E1 := ri_1 hb
  have E2 := ri_2 hb
  have E3 := ri_3 hb
  have E4 := ri_4 hb
  have M1 : bits .and .u64 1 7 = 1 := by decide +kernel
  have M2 : bits .and .u64 2 7 = 2 := by decide +kernel
  have M3 : bits .and .u64 3 7 = 3 := by decide +kernel
  have M4 : bits .and .u64 4 7 = 4 := by decide +kernel
  have hk : k = 1 ∨ k = 2 ∨ k = 3 ∨ k = 4 := by omega
  rcases hk with rfl | rfl | rfl | rfl
  · obtain ⟨d, hd⟩ : ∃ d, d = ri 1 b := ⟨_, rfl⟩
    rw [← hd] at E1 ⊢
    clear hd E2 E3 E4
    go_enter Tryz.func96, Tryz.ntmps96
    go_wp2_with fail
    go_ret
    exact ⟨rfl, rfl⟩
  · obtain ⟨d, hd⟩ : ∃ d, d = ri 2 b := ⟨_, rfl⟩
    rw [← hd] at E2 ⊢
    clear hd E1 E3 E4
    go_enter Tryz.func96, Tryz.ntmps96
    go_wp2_with fail
    go_ret
    exact ⟨rfl, rfl⟩
  · obtain ⟨d, hd⟩ : ∃ d, d = ri 3 b := ⟨_, rfl⟩
    rw [← hd] at E3 ⊢
    clear hd E1 E2 E4
    go_enter Tryz.func96, Tryz.ntmps96
    go_wp2_with fail
    go_ret
    exact ⟨rfl, rfl⟩
  · obtain ⟨d, hd⟩ : ∃ d, d = ri 4 b := ⟨_, rfl⟩
    rw [← hd] at E4 ⊢
    clear hd E1 E2 E3
    go_enter Tryz.func96, Tryz.ntmps96
    go_wp2_with fail
    go_ret
    exact ⟨rfl, rfl⟩

/-- A byte spread: unlike 63, and unlike itself turned. -/
def spr (b : Nat) : Nat := bgo 4 b (b ^^^ 99)
theorem spr_lt {b : Nat} (h : b < 256) : spr b < 256 := by
  have : ∀ b : Fin 256, spr b.val < 256 := by decide +kernel
  exact this ⟨b, h⟩
set_option maxHeartbeats 1000000 in
theorem spread_no (b : Nat) (hb : b < 256) (w : World) : Calls Tryz.prog 87 #[.int .u8 (b : Int)] w fun e w' => e = .returned (.int .u8 ((spr b : Nat) : Int)) ∧ w = w' := by
  have E : Hid (bgo 4 (ri 0 b) (b ^^^ 99) = spr b) := Lib.hid rfl
  have BB := Lib.hid hb
  have f0 : bits .xor .u8 (b : Int) 99 = ((b ^^^ 99 : Nat) : Int) := Bits3.u8_xor (b := 99) hb (by decide)
  have BN := Lib.hid (xor_lt hb (show 99 < 256 by decide))
  obtain ⟨t, ht⟩ : ∃ t, t = spr b := ⟨_, rfl⟩
  obtain ⟨n0, hn0⟩ : ∃ n0, n0 = b ^^^ 99 := ⟨_, rfl⟩
  rw [← ht] at E ⊢
  rw [← hn0] at E f0 BN
  clear ht hn0 hb
  go_enter Tryz.func87, Tryz.ntmps87
  go_wp2_with fail
  clear f0
  go_loopw [3, 7] (fun nv kv wr => ∃ j n : Nat, kv = .int .i64 (j : Int) ∧ nv = .int .u8 (n : Int) ∧ j ≤ 4 ∧ Hid (n < 256) ∧ Hid (bgo (4 - j) (ri j b) n = t) ∧ Hid (wr = w)) (fun _ kv _ => 4 - (intOf kv).toNat)
  case atStart => exact ⟨0, n0, rfl, rfl, by omega, BN, E, Lib.hid rfl⟩
  case round =>
    obtain ⟨j, n, rfl, rfl, hj, BP, HE, HW⟩ := hrel
    obtain rfl := HW.out
    clear E BN
    by_cases hlt : j < 4
    · have HE2 : Hid (bgo (4 - (j + 1)) (ri (j + 1) b) (n ^^^ ri (j + 1) b) = t) := Lib.hid (by
        rw [← HE.out, show 4 - j = (4 - (j + 1)) + 1 by omega]; rfl)
      have C := Lib.hid (turn_no b (j + 1) BB.out (by omega) (by omega) wr)
      have BR := ri_lt (j + 1) BB.out
      have bn := BP.out
      have BX := Lib.hid (xor_lt bn BR)
      obtain ⟨r, hr⟩ : ∃ r, r = ri (j + 1) b := ⟨_, rfl⟩
      rw [← hr] at C BR BX
      have HE3 : Hid (bgo (4 - (j + 1)) (ri (j + 1) b) (n ^^^ r) = t) := by rw [hr]; exact HE2
      have f6 : bits .xor .u8 (n : Int) (r : Int) = ((n ^^^ r : Nat) : Int) := Bits3.u8_xor bn BR
      obtain ⟨nx, hnx⟩ : ∃ nx, nx = n ^^^ r := ⟨_, rfl⟩
      rw [← hnx] at f6 HE3 BX
      rw [show (((j + 1 : Nat) : Nat) : Int) = (j : Int) + 1 by omega] at C
      clear hr hnx HE HE2 BR bn
      go_wp2_with fail
      refine C.out.mono ?_
      rintro e w' ⟨rfl, rfl⟩
      go_wp2_with fail
      go_roundw
      case rel => exact ⟨j + 1, nx, by go_num, rfl, by omega, BX, HE3, Lib.hid (by trivial)⟩
      case measure => simp [intOf]; omega
    · obtain rfl : j = 4 := by omega
      have HF : n = t := HE.out
      subst HF
      clear HE
      go_wp2_with fail
      go_ret
      exact ⟨rfl, rfl⟩

end Go.Proofs.YtdnkbefpbehllaaGreatDoor.Aes1

/- Contracts of the document: Times, inverse, Box, May. -/
set_option linter.unusedVariables false
namespace Go.Proofs.YtdnkbefpbehllaaGreatDoor.AesR
open Go.RowKit Go.Proofs.YtdnkbefpbehllaaGreatDoor.Sums Go.Proofs.YtdnkbefpbehllaaGreatDoor.Mem Go.Proofs.YtdnkbefpbehllaaGreatDoor.Blk Go.Proofs.YtdnkbefpbehllaaGreatDoor.Bits3 Go.Proofs.YtdnkbefpbehllaaGreatDoor.AesF Go.Proofs.YtdnkbefpbehllaaGreatDoor.AesB

set_option maxHeartbeats 1000000 in
theorem times_ref (x y : Nat) (hx : x < 256) (hy : y < 256) (w : World) : Calls Tryz.prog 67 #[.int .i64 (x : Int), .int .i64 (y : Int)] w fun e w' => e = .returned (.int .i64 ((T x y : Nat) : Int)) ∧ w = w' := by
  have E : Hid (tgo 8 x y 0 = T x y) := Lib.hid rfl
  have XB := Lib.hid hx
  have YB := Lib.hid hy
  obtain ⟨t, ht⟩ : ∃ t, t = T x y := ⟨_, rfl⟩
  rw [← ht] at E ⊢
  clear ht hx hy
  go_enter Tryz.func67, Tryz.ntmps67
  go_wp2_with fail
  go_loopw [0, 1, 5, 6] (fun xv yv nv kv wr => ∃ j x' y' n' : Nat, kv = .int .i64 (j : Int) ∧ xv = .int .i64 (x' : Int) ∧ yv = .int .i64 (y' : Int) ∧ nv = .int .i64 (n' : Int) ∧ j ≤ 8 ∧ x' < 256 ∧ y' < 256 ∧ n' < 256 ∧ Hid (tgo (8 - j) x' y' n' = t) ∧ Hid (wr = w)) (fun _ _ _ kv _ => 8 - (intOf kv).toNat)
  case atStart => exact ⟨0, x, y, 0, rfl, rfl, rfl, rfl, by omega, XB.out, YB.out, by omega, E, Lib.hid rfl⟩
  case round =>
    obtain ⟨j, x', y', n', rfl, rfl, rfl, rfl, hj, bx, by_, bn, HE, HW⟩ := hrel
    obtain rfl := HW.out
    clear E
    by_cases hlt : j < 8
    · have HE2 : Hid (tgo (8 - (j + 1)) (dbl x') (y' / 2) (if y' % 2 = 1 then n' ^^^ x' else n') = t) := Lib.hid (by
        rw [← HE.out, show 8 - j = (8 - (j + 1)) + 1 by omega]; rfl)
      have bd := dbl_lt bx
      have bh : y' / 2 < 256 := by omega
      have bnx : n' ^^^ x' < 256 := xor_lt bn bx
      have f2 : IntKind.i64.wrap (((y' / 2 : Nat) : Int)) = ((y' / 2 : Nat) : Int) := IntWalk.i64_in _ (by omega)
      have f1 : ((y' : Nat) : Int).tdiv 2 = ((y' / 2 : Nat) : Int) := by rw [Int.tdiv_eq_ediv_of_nonneg (by omega)]; rfl
      have f3 : bits .xor .i64 (n' : Int) (x' : Int) = ((n' ^^^ x' : Nat) : Int) := i64_xor (by omega) (by omega)
      have f4 : IntKind.i64.wrap (2 * (x' : Int)) = ((2 * x' : Nat) : Int) := by rw [IntWalk.i64_in _ (by omega)]; omega
      have f5 : bits .xor .i64 ((2 * x' : Nat) : Int) 283 = ((2 * x' ^^^ 283 : Nat) : Int) := i64_xor (b := 283) (by omega) (by omega)
      have fr : ((y' : Nat) : Int).tmod 2 = ((y' % 2 : Nat) : Int) := by rw [Int.tmod_eq_emod_of_nonneg (by omega)]; rfl
      have DB : Hid (dbl x' = if 255 < 2 * x' then (2 * x') ^^^ 283 else 2 * x') := Lib.hid rfl
      obtain ⟨yh, hyh⟩ : ∃ yh, yh = y' / 2 := ⟨_, rfl⟩
      obtain ⟨nx, hnx⟩ : ∃ nx, nx = n' ^^^ x' := ⟨_, rfl⟩
      obtain ⟨x2, hx2⟩ : ∃ x2, x2 = 2 * x' := ⟨_, rfl⟩
      obtain ⟨r, hr⟩ : ∃ r, r = y' % 2 := ⟨_, rfl⟩
      rw [← hyh] at HE2 f1 f2 bh
      rw [← hnx] at HE2 f3 bnx
      rw [← hx2] at f4 f5 DB
      rw [← hr] at HE2 fr
      obtain ⟨xd, hxd⟩ : ∃ xd, xd = x2 ^^^ 283 := ⟨_, rfl⟩
      rw [← hxd] at f5 DB
      have hr2 : r = 0 ∨ r = 1 := by omega
      clear hyh hnx hx2 hr hxd HE
      rcases hr2 with rfl | rfl
      · have HE3 : Hid (tgo (8 - (j + 1)) (dbl x') yh n' = t) := Lib.hid (by have := HE2.out; rwa [if_neg (by decide)] at this)
        clear HE2
        by_cases q : 255 < x2
        · have g5 : decide ((255 : Int) < (x2 : Int)) = true := decide_eq_true (by omega)
          rw [if_pos q] at DB
          rw [DB.out] at HE3 bd
          clear q DB
          go_wp2_with fail
          go_roundw
          case rel => exact ⟨j + 1, xd, yh, n', by go_num, rfl, rfl, rfl, by omega, bd, bh, bn, HE3, Lib.hid (by trivial)⟩
          case measure => simp [intOf]; omega
        · have g5 : decide ((255 : Int) < (x2 : Int)) = false := decide_eq_false (by omega)
          rw [if_neg q] at DB
          rw [DB.out] at HE3 bd
          clear q DB
          go_wp2_with fail
          go_roundw
          case rel => exact ⟨j + 1, x2, yh, n', by go_num, rfl, rfl, rfl, by omega, bd, bh, bn, HE3, Lib.hid (by trivial)⟩
          case measure => simp [intOf]; omega
      · have HE3 : Hid (tgo (8 - (j + 1)) (dbl x') yh nx = t) := Lib.hid (by have := HE2.out; rwa [if_pos rfl] at this)
        clear HE2
        by_cases q : 255 < x2
        · have g5 : decide ((255 : Int) < (x2 : Int)) = true := decide_eq_true (by omega)
          rw [if_pos q] at DB
          rw [DB.out] at HE3 bd
          clear q DB
          go_wp2_with fail
          go_roundw
          case rel => exact ⟨j + 1, xd, yh, nx, by go_num, rfl, rfl, rfl, by omega, bd, bh, bnx, HE3, Lib.hid (by trivial)⟩
          case measure => simp [intOf]; omega
        · have g5 : decide ((255 : Int) < (x2 : Int)) = false := decide_eq_false (by omega)
          rw [if_neg q] at DB
          rw [DB.out] at HE3 bd
          clear q DB
          go_wp2_with fail
          go_roundw
          case rel => exact ⟨j + 1, x2, yh, nx, by go_num, rfl, rfl, rfl, by omega, bd, bh, bnx, HE3, Lib.hid (by trivial)⟩
          case measure => simp [intOf]; omega
    · obtain rfl : j = 8 := by omega
      have HF : n' = t := HE.out
      subst HF
      clear HE
      go_wp2_with fail
      go_ret
      exact ⟨rfl, rfl⟩

set_option maxHeartbeats 1000000 in
theorem inverse_ref (x : Nat) (hx : x < 256) (w : World) : Calls Tryz.prog 84 #[.int .i64 (x : Int)] w fun e w' => e = .returned (.int .i64 ((inv x : Nat) : Int)) ∧ w = w' := by
  have E : Hid (igo 7 x 1 = igo 7 x 1) := Lib.hid rfl
  have IV : Hid (inv x = if x = 0 then 0 else igo 7 x 1) := Lib.hid rfl
  obtain ⟨t, ht⟩ : ∃ t, t = igo 7 x 1 := ⟨_, rfl⟩
  obtain ⟨u, hu⟩ : ∃ u, u = inv x := ⟨_, rfl⟩
  have E2 : Hid (igo 7 x 1 = t) := Lib.hid ht.symm
  rw [← ht, ← hu] at IV
  rw [← hu]
  have XB := Lib.hid hx
  clear ht hu E hx
  go_enter Tryz.func84, Tryz.ntmps84
  go_wp2_with fail
  go_loopw [3, 4, 5] (fun nv pv kv wr => ∃ j p n : Nat, kv = .int .i64 ((j : Int) + 1) ∧ pv = .int .i64 (p : Int) ∧ nv = .int .i64 (n : Int) ∧ j ≤ 7 ∧ Hid (p < 256) ∧ Hid (n < 256) ∧ Hid (igo (7 - j) p n = t) ∧ Hid (wr = w)) (fun _ _ kv _ => 8 - (intOf kv).toNat)
  case atStart => exact ⟨0, x, 1, rfl, rfl, rfl, by omega, XB, Lib.hid (by decide), E2, Lib.hid rfl⟩
  case round =>
    obtain ⟨j, p, n, rfl, rfl, rfl, hj, BP, BN, HE, HW⟩ := hrel
    obtain rfl := HW.out
    clear E2
    by_cases hlt : j < 7
    · have HE2 : Hid (igo (7 - (j + 1)) (T p p) (T n (T p p)) = t) := Lib.hid (by
        rw [← HE.out, show 7 - j = (7 - (j + 1)) + 1 by omega]; rfl)
      have C1 := Lib.hid (times_ref p p BP.out BP.out wr)
      have BP2 := Lib.hid (T_lt BP.out p)
      have BN2 := Lib.hid (T_lt BN.out (T p p))
      have C2 := Lib.hid (times_ref n (T p p) BN.out BP2.out wr)
      obtain ⟨p2, hp2⟩ : ∃ p2, p2 = T p p := ⟨_, rfl⟩
      rw [← hp2] at HE2 C1 BP2 BN2 C2
      obtain ⟨n2, hn2⟩ : ∃ n2, n2 = T n p2 := ⟨_, rfl⟩
      rw [← hn2] at HE2 BN2 C2
      have g1 : ((j : Int) + 1 < 8) = True := eq_true (by omega)
      have g2 : IntKind.i64.wrap ((j : Int) + 1 + 1) = ((j + 1 : Nat) : Int) + 1 := by rw [IntWalk.i64_in _ (by omega)]; omega
      clear hp2 hn2 HE
      go_wp2_with fail
      refine C1.out.mono ?_
      rintro e w' ⟨rfl, rfl⟩
      go_wp2_with fail
      refine C2.out.mono ?_
      rintro e w' ⟨rfl, rfl⟩
      go_wp2_with fail
      go_roundw
      case rel => exact ⟨j + 1, p2, n2, by go_num, rfl, rfl, by omega, BP2, BN2, HE2, Lib.hid (by trivial)⟩
      case measure => simp [intOf]; omega
    · obtain rfl : j = 7 := by omega
      have HF : n = t := HE.out
      subst HF
      clear HE hlt hj
      by_cases q : x = 0
      · subst q
        rw [if_pos rfl] at IV
        obtain rfl := IV.out
        go_wp2_with fail
        go_ret
        exact ⟨rfl, rfl⟩
      · rw [if_neg q] at IV
        obtain rfl := IV.out
        have g : ((x : Int) == 0) = false := by rw [beq_eq_false_iff_ne]; omega
        clear q
        go_wp2_with fail
        go_ret
        exact ⟨rfl, rfl⟩
end Go.Proofs.YtdnkbefpbehllaaGreatDoor.AesR

/- Contracts of the document: Box, May, Table, with. -/
set_option linter.unusedVariables false
namespace Go.Proofs.YtdnkbefpbehllaaGreatDoor.AesR2
open Go.RowKit Go.Proofs.YtdnkbefpbehllaaGreatDoor.Sums Go.Proofs.YtdnkbefpbehllaaGreatDoor.Mem Go.Proofs.YtdnkbefpbehllaaGreatDoor.Blk Go.Proofs.YtdnkbefpbehllaaGreatDoor.Bits3 Go.Proofs.YtdnkbefpbehllaaGreatDoor.Ints Go.Proofs.YtdnkbefpbehllaaGreatDoor.AesF Go.Proofs.YtdnkbefpbehllaaGreatDoor.AesB Go.Proofs.YtdnkbefpbehllaaGreatDoor.AesR

theorem inv_lt {x : Nat} (hx : x < 256) : inv x < 256 := by
  have : ∀ x : Fin 256, inv x.val < 256 := by decide +kernel
  exact this ⟨x, hx⟩
theorem rotl_lt {b : Nat} (h : b < 256) : rotl b < 512 := by unfold rotl; omega
theorem rotl_byte {b : Nat} (h : b < 256) : rotl b < 256 := by
  have : ∀ x : Fin 256, rotl x.val < 256 := by decide +kernel
  exact this ⟨b, h⟩

set_option maxHeartbeats 1000000 in
theorem box_ref (x : Nat) (hx : x < 256) (w : World) : Calls Tryz.prog 68 #[.int .i64 (x : Int)] w fun e w' => e = .returned (.int .i64 ((Box x : Nat) : Int)) ∧ w = w' := by
  have E : Hid (bgo 4 (inv x) (inv x ^^^ 99) = Box x) := Lib.hid rfl
  have C := Lib.hid (inverse_ref x hx w)
  have BI := Lib.hid (inv_lt hx)
  obtain ⟨t, ht⟩ : ∃ t, t = Box x := ⟨_, rfl⟩
  rw [← ht] at E ⊢
  obtain ⟨v, hv⟩ : ∃ v, v = inv x := ⟨_, rfl⟩
  rw [← hv] at E C BI
  have f0 : bits .xor .i64 (v : Int) 99 = ((v ^^^ 99 : Nat) : Int) := i64_xor (b := 99) (by have := BI.out; omega) (by omega)
  have BN := Lib.hid (xor_lt BI.out (show 99 < 256 by decide))
  obtain ⟨n0, hn0⟩ : ∃ n0, n0 = v ^^^ 99 := ⟨_, rfl⟩
  rw [← hn0] at E f0 BN
  clear ht hv hn0 hx
  go_enter Tryz.func68, Tryz.ntmps68
  go_wp2_with fail
  refine C.out.mono ?_
  rintro e w' ⟨rfl, rfl⟩
  go_wp2_with fail
  clear f0 C
  go_loopw [3, 4, 5] (fun bv nv kv wr => ∃ j b n : Nat, kv = .int .i64 ((j : Int) + 1) ∧ bv = .int .i64 (b : Int) ∧ nv = .int .i64 (n : Int) ∧ j ≤ 4 ∧ Hid (b < 256) ∧ Hid (n < 256) ∧ Hid (bgo (4 - j) b n = t) ∧ Hid (wr = w)) (fun _ _ kv _ => 8 - (intOf kv).toNat)
  case atStart => exact ⟨0, v, n0, rfl, rfl, rfl, by omega, BI, BN, E, Lib.hid rfl⟩
  case round =>
    obtain ⟨j, b, n, rfl, rfl, rfl, hj, BP, BN2, HE, HW⟩ := hrel
    obtain rfl := HW.out
    clear E BI BN
    by_cases hlt : j < 4
    · have HE2 : Hid (bgo (4 - (j + 1)) (rotl b) (n ^^^ rotl b) = t) := Lib.hid (by
        rw [← HE.out, show 4 - j = (4 - (j + 1)) + 1 by omega]; rfl)
      have bb := BP.out
      have bn := BN2.out
      have BR := rotl_byte bb
      have BX := Lib.hid (xor_lt bn BR)
      have RB : rotl b = b * 2 % 256 + b / 128 := rfl
      obtain ⟨r, hr⟩ : ∃ r, r = rotl b := ⟨_, rfl⟩
      rw [← hr] at HE2 BR BX RB
      have f1 : IntKind.i64.wrap ((b : Int) * 2) = (b : Int) * 2 := IntWalk.i64_in _ (by omega)
      have f2 : ((b : Int) * 2).tmod 256 = (b : Int) * 2 % 256 := Int.tmod_eq_emod_of_nonneg (by omega)
      have f3 : (b : Int).tdiv 128 = (b : Int) / 128 := Int.tdiv_eq_ediv_of_nonneg (by omega)
      have f4 : IntKind.i64.wrap ((b : Int) / 128) = (b : Int) / 128 := IntWalk.i64_in _ (by omega)
      have f5 : IntKind.i64.wrap ((b : Int) * 2 % 256 + (b : Int) / 128) = (r : Int) := by rw [IntWalk.i64_in _ (by omega)]; omega
      have f6 : bits .xor .i64 (n : Int) (r : Int) = ((n ^^^ r : Nat) : Int) := i64_xor (by omega) (by omega)
      have BRH := Lib.hid BR
      obtain ⟨nx, hnx⟩ : ∃ nx, nx = n ^^^ r := ⟨_, rfl⟩
      rw [← hnx] at f6 HE2 BX
      have g1 : ((j : Int) + 1 ≤ 4) = True := eq_true (by omega)
      have g2 : IntKind.i64.wrap ((j : Int) + 1 + 1) = ((j + 1 : Nat) : Int) + 1 := by rw [IntWalk.i64_in _ (by omega)]; omega
      clear hr hnx HE RB BR bb bn
      go_wp2_with fail
      go_roundw
      case rel => exact ⟨j + 1, r, nx, by go_num, rfl, rfl, by omega, BRH, BX, HE2, Lib.hid (by trivial)⟩
      case measure => simp [intOf]; omega
    · obtain rfl : j = 4 := by omega
      have HF : n = t := HE.out
      subst HF
      clear HE
      go_wp2_with fail
      go_ret
      exact ⟨rfl, rfl⟩

def mayB (n : Nat) : Bool := decide (n = 16) || decide (n = 32)
theorem may_ref (A : Option Addr) (n c : Nat) (w : World) (hn : n ≤ 140737488355328) : Calls Tryz.prog 54 #[.slice A n c] w fun e w' => e = .returned (.bool (mayB n)) ∧ w = w' := by
  by_cases h : n = 16
  · subst h
    go_enter Tryz.func54, Tryz.ntmps54
    go_wp2_with fail
    go_ret
    exact ⟨rfl, rfl⟩
  · by_cases h2 : n = 32
    · subst h2
      go_enter Tryz.func54, Tryz.ntmps54
      go_wp2_with fail
      go_ret
      exact ⟨rfl, rfl⟩
    · have F : Hid (mayB n = false) := Lib.hid (by simp [mayB, h, h2])
      have g1 : ((n : Int) == 16) = false := by rw [beq_eq_false_iff_ne]; omega
      have g2 : ((n : Int) == 32) = false := by rw [beq_eq_false_iff_ne]; omega
      clear h h2
      go_enter Tryz.func54, Tryz.ntmps54
      go_wp2_with fail
      go_ret
      exact ⟨by rw [F.out]; rfl, rfl⟩

/-- All of Box. -/
def boxes : List Nat := (List.range 256).map Box
theorem boxes_len : boxes.length = 256 := by simp [boxes]
theorem boxes_get {x : Nat} (h : x < 256) : boxes.getD x 0 = Box x := by
  rw [List.getD_eq_getElem?_getD, boxes, List.getElem?_map, List.getElem?_range h]
  rfl

set_option maxHeartbeats 1000000 in
set_option maxRecDepth 100000 in
theorem table_ref (w : World) : Calls Tryz.prog 56 #[] w fun e w' => e = .returned (.slice (some ⟨w.heap.size, 0, none⟩) 256 256) ∧ IRow w' w.heap.size boxes ∧ Below w.heap.size w w' := by
  have hmk : (Instr.makeSlice 78 (.int .i64 256) (.int .i64 256)).run Tryz.prog w = .ok (.slice (some ⟨w.heap.size, 0, none⟩) 256 256) (w.alloc (.cells (icells (List.replicate 256 0)) 3)) := make_i 256 (by decide) w
  obtain ⟨Z, hZ⟩ : ∃ Z, Z = List.replicate 256 0 := ⟨_, rfl⟩
  have HZ : Hid (fil Box 256 0 = Z) := Lib.hid (by rw [fil_zero, hZ])
  rw [← hZ] at hmk
  clear hZ
  have R0 : Hid (IRow (w.alloc (.cells (icells Z) 3)) w.heap.size (fil Box 256 0)) := Lib.hid (by rw [HZ.out]; exact IRow.new w _)
  have B0 := Lib.hid ((Below.refl w.heap.size w).alloc (Nat.le_refl _) (.cells (icells Z) 3))
  go_enter Tryz.func56, Tryz.ntmps56
  go_wp2_with fail
  clear hmk
  generalize w.alloc (.cells (icells Z) 3) = w1 at *
  go_loopw [2] (fun kv wr => ∃ j : Nat, kv = .int .i64 (j : Int) ∧ j ≤ 256 ∧ Hid (IRow wr w.heap.size (fil Box 256 j)) ∧ Hid (Below w.heap.size w wr)) (fun kv _ => 256 - (intOf kv).toNat)
  case atStart => exact ⟨0, rfl, by omega, R0, B0⟩
  case round =>
    obtain ⟨j, rfl, hj, HR, HB⟩ := hrel
    clear R0 B0
    by_cases hlt : j < 256
    · have C := Lib.hid (box_ref j hlt wr)
      have c0 := HR.out.cell j (by rw [fil_len]; exact hlt)
      have f0 := HR.out.free j
      have R2 : Hid (IRow (wr.setCell ⟨w.heap.size, j, none⟩ (.int .i64 ((Box j : Nat) : Int))) w.heap.size (fil Box 256 (j + 1))) := Lib.hid (by have := HR.out.put j (Box j); rwa [fil_set] at this)
      have B2 := Lib.hid (HB.out.setCell (p := ⟨w.heap.size, j, none⟩) (Nat.le_refl _) (.int .i64 ((Box j : Nat) : Int)))
      generalize Box j = bj at *
      generalize (fil Box 256 j).getD j 0 = old at *
      clear HR HB
      go_wp2_with fail
      refine C.out.mono ?_
      rintro e w' ⟨rfl, rfl⟩
      go_wp2_with fail
      go_roundw
      case rel => exact ⟨j + 1, by go_num, by omega, R2, B2⟩
      case measure => simp [intOf]; omega
    · obtain rfl : j = 256 := by omega
      have RF : Hid (IRow wr w.heap.size boxes) := Lib.hid (by have := HR.out; rwa [fil_full] at this)
      go_wp2_with fail
      go_ret
      exact ⟨rfl, RF.out, HB.out⟩
end Go.Proofs.YtdnkbefpbehllaaGreatDoor.AesR2

