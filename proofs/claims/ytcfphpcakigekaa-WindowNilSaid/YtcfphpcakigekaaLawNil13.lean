/- WindowNil. -/
import Derived.Test.YtcfphpcakigekaaRngA
set_option linter.unusedVariables false
namespace Go.Proofs.Ytcfphpcakigekaa.LawNil13
open Go.RowKit Go.Proofs.Ytcfphpcakigekaa.Sums Go.Proofs.Ytcfphpcakigekaa.Mem Go.Proofs.Ytcfphpcakigekaa.Blk Go.Proofs.Ytcfphpcakigekaa.Longs Go.Proofs.Ytcfphpcakigekaa.WinD Go.Proofs.Ytcfphpcakigekaa.Rng1 Go.Proofs.Ytcfphpcakigekaa.Rng2 Go.Proofs.Ytcfphpcakigekaa.Rng4 Go.Proofs.Ytcfphpcakigekaa.RngU Go.Proofs.Ytcfphpcakigekaa.RngA

set_option maxHeartbeats 1000000 in
theorem nil_any (a0 a1 : Int) (W : World) (h0 : 0 ≤ a0 ∧ a0 ≤ 18446744073709551615) : Calls Try.prog 6 #[.int .u64 a0, .int .i64 a1] W fun e W' => e = .returned (.bool true) ∧ Below W.heap.size W W' := by
  obtain ⟨n, rfl⟩ : ∃ n : Nat, a0 = (n : Int) := ⟨a0.toNat, by omega⟩
  clear h0
  have CI := Lib.hid (infer_nil a1)
  have CT := Lib.hid top_nil
  have CC := Lib.hid (check_nil n)
  have CA := Lib.hid (accept_nil n)
  have AW := Lib.hid (awake_any W)
  go_enter Try.func6, Try.ntmps6
  go_wp2_with fail
  refine (CI.out _).mono ?_
  rintro e w1 ⟨rfl, rfl⟩
  go_wp2_with fail
  refine AW.out.mono ?_
  rintro e w2 ⟨rfl, hb⟩
  have HB := Lib.hid hb
  clear hb AW CI
  go_wp2_with fail
  refine (CT.out _).mono ?_
  rintro e w3 ⟨rfl, rfl⟩
  go_wp2_with fail
  refine (CC.out _).mono ?_
  rintro e w3 ⟨rfl, rfl⟩
  go_wp2_with fail
  refine (CA.out _).mono ?_
  rintro e w3 ⟨rfl, rfl⟩
  go_wp2_with fail
  go_ret
  exact ⟨rfl, HB.out⟩
end Go.Proofs.Ytcfphpcakigekaa.LawNil13
