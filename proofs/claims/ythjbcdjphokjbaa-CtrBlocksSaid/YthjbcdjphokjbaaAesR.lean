/- Contracts of the document: Times, inverse, Box, May. -/
import Derived.Test.YthjbcdjphokjbaaInts
import Derived.Test.YthjbcdjphokjbaaAesB
import Derived.LoopTactic
set_option linter.unusedVariables false
namespace Go.Proofs.Ythjbcdjphokjbaa.AesR
open Go.RowKit Go.Proofs.Ythjbcdjphokjbaa.Sums Go.Proofs.Ythjbcdjphokjbaa.Mem Go.Proofs.Ythjbcdjphokjbaa.Blk Go.Proofs.Ythjbcdjphokjbaa.Bits3 Go.Proofs.Ythjbcdjphokjbaa.AesF Go.Proofs.Ythjbcdjphokjbaa.AesB

set_option maxHeartbeats 1000000 in
theorem times_ref (x y : Nat) (hx : x < 256) (hy : y < 256) (w : World) : Calls Try.prog 32 #[.int .i64 (x : Int), .int .i64 (y : Int)] w fun e w' => e = .returned (.int .i64 ((T x y : Nat) : Int)) ∧ w = w' := by
  have E : Hid (tgo 8 x y 0 = T x y) := Lib.hid rfl
  have XB := Lib.hid hx
  have YB := Lib.hid hy
  obtain ⟨t, ht⟩ : ∃ t, t = T x y := ⟨_, rfl⟩
  rw [← ht] at E ⊢
  clear ht hx hy
  go_enter Try.func32, Try.ntmps32
  go_wp2_with fail
  go_loopw [0, 1, 5, 6] (fun xv yv nv kv wr => ∃ j x' y' n' : Nat, kv = .int .i64 (j : Int) ∧ xv = .int .i64 (x' : Int) ∧ yv = .int .i64 (y' : Int) ∧ nv = .int .i64 (n' : Int) ∧ j ≤ 8 ∧ x' < 256 ∧ y' < 256 ∧ n' < 256 ∧ Hid (tgo (8 - j) x' y' n' = t) ∧ Hid (wr = w)) (fun _ _ _ kv _ => 8 - (intOf kv).toNat)
  case atStart => exact ⟨0, x, y, 0, rfl, rfl, rfl, rfl, by omega, XB.out, YB.out, by omega, E, Lib.hid rfl⟩
  case round =>
    obtain ⟨j, x', y', n', rfl, rfl, rfl, rfl, hj, bx, by_, bn, HE, HW⟩ := hrel
    obtain rfl := HW.out
    clear E
    by_cases hlt : j < 8
    · have HE2 : Hid (tgo (8 - (j + 1)) (dbl x') (y' / 2) (if y' % 2 = 1 then n' ^^^ x' else n') = t) := Lib.hid (by
        rw [← HE.out, show 8 - j = (8 - (j + 1)) + 1 by omega]; rfl)
      have bd := dbl_lt bx
      have bh : y' / 2 < 256 := by omega
      have bnx : n' ^^^ x' < 256 := xor_lt bn bx
      have f2 : IntKind.i64.wrap (((y' / 2 : Nat) : Int)) = ((y' / 2 : Nat) : Int) := IntWalk.i64_in _ (by omega)
      have f1 : ((y' : Nat) : Int).tdiv 2 = ((y' / 2 : Nat) : Int) := by rw [Int.tdiv_eq_ediv_of_nonneg (by omega)]; rfl
      have f3 : bits .xor .i64 (n' : Int) (x' : Int) = ((n' ^^^ x' : Nat) : Int) := i64_xor (by omega) (by omega)
      have f4 : IntKind.i64.wrap (2 * (x' : Int)) = ((2 * x' : Nat) : Int) := by rw [IntWalk.i64_in _ (by omega)]; omega
      have f5 : bits .xor .i64 ((2 * x' : Nat) : Int) 283 = ((2 * x' ^^^ 283 : Nat) : Int) := i64_xor (b := 283) (by omega) (by omega)
      have fr : ((y' : Nat) : Int).tmod 2 = ((y' % 2 : Nat) : Int) := by rw [Int.tmod_eq_emod_of_nonneg (by omega)]; rfl
      have DB : Hid (dbl x' = if 255 < 2 * x' then (2 * x') ^^^ 283 else 2 * x') := Lib.hid rfl
      obtain ⟨yh, hyh⟩ : ∃ yh, yh = y' / 2 := ⟨_, rfl⟩
      obtain ⟨nx, hnx⟩ : ∃ nx, nx = n' ^^^ x' := ⟨_, rfl⟩
      obtain ⟨x2, hx2⟩ : ∃ x2, x2 = 2 * x' := ⟨_, rfl⟩
      obtain ⟨r, hr⟩ : ∃ r, r = y' % 2 := ⟨_, rfl⟩
      rw [← hyh] at HE2 f1 f2 bh
      rw [← hnx] at HE2 f3 bnx
      rw [← hx2] at f4 f5 DB
      rw [← hr] at HE2 fr
      obtain ⟨xd, hxd⟩ : ∃ xd, xd = x2 ^^^ 283 := ⟨_, rfl⟩
      rw [← hxd] at f5 DB
      have hr2 : r = 0 ∨ r = 1 := by omega
      clear hyh hnx hx2 hr hxd HE
      rcases hr2 with rfl | rfl
      · have HE3 : Hid (tgo (8 - (j + 1)) (dbl x') yh n' = t) := Lib.hid (by have := HE2.out; rwa [if_neg (by decide)] at this)
        clear HE2
        by_cases q : 255 < x2
        · have g5 : decide ((255 : Int) < (x2 : Int)) = true := decide_eq_true (by omega)
          rw [if_pos q] at DB
          rw [DB.out] at HE3 bd
          clear q DB
          go_wp2_with fail
          go_roundw
          case rel => exact ⟨j + 1, xd, yh, n', by go_num, rfl, rfl, rfl, by omega, bd, bh, bn, HE3, Lib.hid (by trivial)⟩
          case measure => simp [intOf]; omega
        · have g5 : decide ((255 : Int) < (x2 : Int)) = false := decide_eq_false (by omega)
          rw [if_neg q] at DB
          rw [DB.out] at HE3 bd
          clear q DB
          go_wp2_with fail
          go_roundw
          case rel => exact ⟨j + 1, x2, yh, n', by go_num, rfl, rfl, rfl, by omega, bd, bh, bn, HE3, Lib.hid (by trivial)⟩
          case measure => simp [intOf]; omega
      · have HE3 : Hid (tgo (8 - (j + 1)) (dbl x') yh nx = t) := Lib.hid (by have := HE2.out; rwa [if_pos rfl] at this)
        clear HE2
        by_cases q : 255 < x2
        · have g5 : decide ((255 : Int) < (x2 : Int)) = true := decide_eq_true (by omega)
          rw [if_pos q] at DB
          rw [DB.out] at HE3 bd
          clear q DB
          go_wp2_with fail
          go_roundw
          case rel => exact ⟨j + 1, xd, yh, nx, by go_num, rfl, rfl, rfl, by omega, bd, bh, bnx, HE3, Lib.hid (by trivial)⟩
          case measure => simp [intOf]; omega
        · have g5 : decide ((255 : Int) < (x2 : Int)) = false := decide_eq_false (by omega)
          rw [if_neg q] at DB
          rw [DB.out] at HE3 bd
          clear q DB
          go_wp2_with fail
          go_roundw
          case rel => exact ⟨j + 1, x2, yh, nx, by go_num, rfl, rfl, rfl, by omega, bd, bh, bnx, HE3, Lib.hid (by trivial)⟩
          case measure => simp [intOf]; omega
    · obtain rfl : j = 8 := by omega
      have HF : n' = t := HE.out
      subst HF
      clear HE
      go_wp2_with fail
      go_ret
      exact ⟨rfl, rfl⟩

set_option maxHeartbeats 1000000 in
theorem inverse_ref (x : Nat) (hx : x < 256) (w : World) : Calls Try.prog 40 #[.int .i64 (x : Int)] w fun e w' => e = .returned (.int .i64 ((inv x : Nat) : Int)) ∧ w = w' := by
  have E : Hid (igo 7 x 1 = igo 7 x 1) := Lib.hid rfl
  have IV : Hid (inv x = if x = 0 then 0 else igo 7 x 1) := Lib.hid rfl
  obtain ⟨t, ht⟩ : ∃ t, t = igo 7 x 1 := ⟨_, rfl⟩
  obtain ⟨u, hu⟩ : ∃ u, u = inv x := ⟨_, rfl⟩
  have E2 : Hid (igo 7 x 1 = t) := Lib.hid ht.symm
  rw [← ht, ← hu] at IV
  rw [← hu]
  have XB := Lib.hid hx
  clear ht hu E hx
  go_enter Try.func40, Try.ntmps40
  go_wp2_with fail
  go_loopw [3, 4, 5] (fun nv pv kv wr => ∃ j p n : Nat, kv = .int .i64 ((j : Int) + 1) ∧ pv = .int .i64 (p : Int) ∧ nv = .int .i64 (n : Int) ∧ j ≤ 7 ∧ Hid (p < 256) ∧ Hid (n < 256) ∧ Hid (igo (7 - j) p n = t) ∧ Hid (wr = w)) (fun _ _ kv _ => 8 - (intOf kv).toNat)
  case atStart => exact ⟨0, x, 1, rfl, rfl, rfl, by omega, XB, Lib.hid (by decide), E2, Lib.hid rfl⟩
  case round =>
    obtain ⟨j, p, n, rfl, rfl, rfl, hj, BP, BN, HE, HW⟩ := hrel
    obtain rfl := HW.out
    clear E2
    by_cases hlt : j < 7
    · have HE2 : Hid (igo (7 - (j + 1)) (T p p) (T n (T p p)) = t) := Lib.hid (by
        rw [← HE.out, show 7 - j = (7 - (j + 1)) + 1 by omega]; rfl)
      have C1 := Lib.hid (times_ref p p BP.out BP.out wr)
      have BP2 := Lib.hid (T_lt BP.out p)
      have BN2 := Lib.hid (T_lt BN.out (T p p))
      have C2 := Lib.hid (times_ref n (T p p) BN.out BP2.out wr)
      obtain ⟨p2, hp2⟩ : ∃ p2, p2 = T p p := ⟨_, rfl⟩
      rw [← hp2] at HE2 C1 BP2 BN2 C2
      obtain ⟨n2, hn2⟩ : ∃ n2, n2 = T n p2 := ⟨_, rfl⟩
      rw [← hn2] at HE2 BN2 C2
      have g1 : ((j : Int) + 1 < 8) = True := eq_true (by omega)
      have g2 : IntKind.i64.wrap ((j : Int) + 1 + 1) = ((j + 1 : Nat) : Int) + 1 := by rw [IntWalk.i64_in _ (by omega)]; omega
      clear hp2 hn2 HE
      go_wp2_with fail
      refine C1.out.mono ?_
      rintro e w' ⟨rfl, rfl⟩
      go_wp2_with fail
      refine C2.out.mono ?_
      rintro e w' ⟨rfl, rfl⟩
      go_wp2_with fail
      go_roundw
      case rel => exact ⟨j + 1, p2, n2, by go_num, rfl, rfl, by omega, BP2, BN2, HE2, Lib.hid (by trivial)⟩
      case measure => simp [intOf]; omega
    · obtain rfl : j = 7 := by omega
      have HF : n = t := HE.out
      subst HF
      clear HE hlt hj
      by_cases q : x = 0
      · subst q
        rw [if_pos rfl] at IV
        obtain rfl := IV.out
        go_wp2_with fail
        go_ret
        exact ⟨rfl, rfl⟩
      · rw [if_neg q] at IV
        obtain rfl := IV.out
        have g : ((x : Int) == 0) = false := by rw [beq_eq_false_iff_ne]; omega
        clear q
        go_wp2_with fail
        go_ret
        exact ⟨rfl, rfl⟩
end Go.Proofs.Ythjbcdjphokjbaa.AesR
