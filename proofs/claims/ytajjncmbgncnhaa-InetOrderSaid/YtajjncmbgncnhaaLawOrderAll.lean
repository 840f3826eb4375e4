/- The law InetOrder: its walk, for any bytes and any two places. -/
import Derived.Test.YtajjncmbgncnhaaLawOrder
import Derived.Test.YtajjncmbgncnhaaLawOrderOut
namespace Go.Proofs.Ytajjncmbgncnhaa.LawOrder
open Go.RowKit Go.Proofs.Ytajjncmbgncnhaa.Sums Go.Proofs.Ytajjncmbgncnhaa.Words Go.Proofs.Ytajjncmbgncnhaa.Mem

theorem walk (A : Option Addr) (n c : Nat) (l : List Int) (i k : Int) (w : World) (h : Holds w w.heap.size A n c l) :
    Calls Try.prog 8 #[.slice A n c, .int .i64 i, .int .i64 k] w fun e w' => e = .returned (.bool true) ∧ Below w.heap.size w w' := by
  by_cases q : n ≤ 1000 ∧ 0 ≤ i ∧ 0 ≤ k ∧ 2 * i + 2 ≤ (n : Int) ∧ 2 * k + 2 ≤ (n : Int)
  · obtain ⟨k1, k2, k3, k4, k5⟩ := q
    obtain ⟨j, rfl⟩ := Int.eq_ofNat_of_zero_le k2
    obtain ⟨m, rfl⟩ := Int.eq_ofNat_of_zero_le k3
    exact inner A n c j m l w h k1 (by omega) (by omega)
  · exact outer A n c l i k w h (by omega)

end Go.Proofs.Ytajjncmbgncnhaa.LawOrder
