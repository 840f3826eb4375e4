/- Contracts of the document: power, turn, Constants, Constant, State, Ints. -/
import Derived.Test.YtmlihcillheeaaaDoorIntsO
import Derived.Test.YtmlihcillheeaaaDoorShaD
import Derived.LoopTactic
import Derived.Lib.QuietBelow
import Derived.BigQuiet
import Derived.Deep.QuietTactic
set_option linter.unusedVariables false
namespace Go.Proofs.YtmlihcillheeaaaDoor.ShaR1
open Go.RowKit Go.Proofs.YtmlihcillheeaaaDoor.Sums Go.Proofs.YtmlihcillheeaaaDoor.Mem Go.Proofs.YtmlihcillheeaaaDoor.Blk Go.Proofs.YtmlihcillheeaaaDoor.Bits3 Go.Proofs.YtmlihcillheeaaaDoor.Ints Go.Proofs.YtmlihcillheeaaaDoor.IntsO Go.Proofs.YtmlihcillheeaaaDoor.ShaD

theorem power_ref (n : Nat) (hn : n ≤ 31) (w : World) : Calls Tryd.prog 31 #[.int .i64 (n : Int)] w fun e w' => e = .returned (.int .i64 ((2 ^ n : Nat) : Int)) ∧ w = w' := by
  obtain ⟨t, ht⟩ : ∃ t, t = 2 ^ n := ⟨_, rfl⟩
  have HT := Lib.hid ht
  rw [← ht]
  clear ht
  go_enter Tryd.func31, Tryd.ntmps31
  go_wp2_with fail
  go_loopw [3, 4] (fun pv kv wr => ∃ j p : Nat, kv = .int .i64 (j : Int) ∧ pv = .int .i64 (p : Int) ∧ j ≤ n ∧ Hid (p = 2 ^ j) ∧ Hid (wr = w)) (fun _ kv _ => n - (intOf kv).toNat)
  case atStart => exact ⟨0, 1, rfl, rfl, by omega, Lib.hid rfl, Lib.hid rfl⟩
  case round =>
    obtain ⟨j, p, rfl, rfl, hj, HP, HW⟩ := hrel
    obtain rfl := HW.out
    by_cases hlt : j < n
    · have HP2 : Hid (2 * p = 2 ^ (j + 1)) := Lib.hid (by rw [HP.out, Nat.pow_succ, Nat.mul_comm])
      have hp : p ≤ 2147483648 := by
        rw [HP.out]
        exact Nat.le_trans (Nat.pow_le_pow_right (by decide) (show j ≤ 31 by omega)) (by decide)
      have f4 : IntKind.i64.wrap (2 * (p : Int)) = ((2 * p : Nat) : Int) := by rw [IntWalk.i64_in _ (by omega)]; omega
      obtain ⟨p2, hp2⟩ : ∃ p2, p2 = 2 * p := ⟨_, rfl⟩
      rw [← hp2] at f4 HP2
      clear hp2 HP hp
      go_wp2_with fail
      go_roundw
      case rel => exact ⟨j + 1, p2, by go_num, rfl, by omega, HP2, Lib.hid (by trivial)⟩
      case measure => simp [intOf]; omega
    · obtain rfl : j = n := by omega
      have HF : p = t := HP.out.trans HT.out.symm
      subst HF
      clear HP
      go_wp2_with fail
      go_ret
      exact ⟨rfl, rfl⟩

theorem rot_lt {x n : Nat} (hx : x < M) (hn : n ≤ 31) : rot x n < 8589934592 := by
  unfold rot
  have hp : 0 < 2 ^ n := Nat.two_pow_pos n
  have a : x / 2 ^ n ≤ x := Nat.div_le_self _ _
  have b : x % 2 ^ n * (M / 2 ^ n) ≤ 2 ^ n * (M / 2 ^ n) := Nat.mul_le_mul_right _ (Nat.le_of_lt (Nat.mod_lt _ hp))
  have c : 2 ^ n * (M / 2 ^ n) ≤ M := Nat.mul_div_le _ _
  unfold M at *
  omega

set_option maxHeartbeats 1000000 in
theorem turn_ref (x n : Nat) (hx : x < M) (hn : n ≤ 31) (w : World) : Calls Tryd.prog 28 #[.int .i64 (x : Int), .int .i64 (n : Int)] w fun e w' => e = .returned (.int .i64 ((rot x n : Nat) : Int)) ∧ Below w.heap.size w w' := by
  have P := Lib.hid (power_ref n hn w)
  have RL := rot_lt hx hn
  have RD : rot x n = x / 2 ^ n + x % 2 ^ n * (M / 2 ^ n) := rfl
  obtain ⟨r, hr⟩ : ∃ r, r = rot x n := ⟨_, rfl⟩
  rw [← hr] at RL RD ⊢
  have hp : 0 < 2 ^ n := Nat.two_pow_pos n
  obtain ⟨p, hpp⟩ : ∃ p, p = 2 ^ n := ⟨_, rfl⟩
  rw [← hpp] at P RD hp
  clear hr hpp
  have hM : M = 4294967296 := rfl
  have e1 : (x : Int).tdiv (p : Int) = ((x / p : Nat) : Int) := by rw [Int.tdiv_eq_ediv_of_nonneg (by omega)]; rfl
  have e2 : (x : Int).tmod (p : Int) = ((x % p : Nat) : Int) := by rw [Int.tmod_eq_emod_of_nonneg (by omega)]; rfl
  have e3 : (4294967296 : Int).tdiv (p : Int) = ((4294967296 / p : Nat) : Int) := by rw [Int.tdiv_eq_ediv_of_nonneg (by omega)]; rfl
  have l1 : x / p ≤ x := Nat.div_le_self _ _
  have l3 : 4294967296 / p ≤ 4294967296 := Nat.div_le_self _ _
  rw [hM] at RD hx
  have l4 : x % p * (4294967296 / p) ≤ r := by rw [RD]; exact Nat.le_add_left _ _
  obtain ⟨d, hd⟩ : ∃ d, d = x / p := ⟨_, rfl⟩
  obtain ⟨q, hq⟩ : ∃ q, q = x % p := ⟨_, rfl⟩
  obtain ⟨s, hs⟩ : ∃ s, s = 4294967296 / p := ⟨_, rfl⟩
  rw [← hd] at e1 RD l1
  rw [← hq] at e2 RD l4
  rw [← hs] at e3 RD l3 l4
  have e4 : IntKind.i64.wrap (d : Int) = (d : Int) := IntWalk.i64_in _ (by omega)
  have e5 : IntKind.i64.wrap (s : Int) = (s : Int) := IntWalk.i64_in _ (by omega)
  have qs : (q : Int) * (s : Int) = ((q * s : Nat) : Int) := by simp
  obtain ⟨m, hm⟩ : ∃ m, m = q * s := ⟨_, rfl⟩
  rw [← hm] at qs RD l4
  have e6 : IntKind.i64.wrap ((q : Int) * (s : Int)) = (m : Int) := by rw [qs]; exact IntWalk.i64_in _ (by omega)
  have e7 : IntKind.i64.wrap ((d : Int) + (m : Int)) = (r : Int) := by rw [IntWalk.i64_in _ (by omega)]; omega
  have z1 : ((p : Int) == 0) = false := by rw [beq_eq_false_iff_ne]; omega
  have z2 : ¬ (p : Int) = 0 := by omega
  have z3 : p ≠ 0 := by omega
  have B0 := Lib.hid (Below.refl w.heap.size w)
  clear hd hq hs hm qs RD hM hx l1 l3 l4
  go_enter Tryd.func28, Tryd.ntmps28
  go_wp2_with fail
  refine P.out.mono ?_
  rintro e w' ⟨rfl, rfl⟩
  go_wp2_with fail
  go_quiet (fail)
  clear e1 e2 e3 e4 e5 e6 e7
  go_wp2_with fail
  go_ret
  exact ⟨rfl, below_drewN B0.out nq⟩
end Go.Proofs.YtmlihcillheeaaaDoor.ShaR1
