/- The law InetOrder: the inputs that are let go. -/
import Derived.Test.YtajjncmbgncnhaaAwake
namespace Go.Proofs.Ytajjncmbgncnhaa.LawOrder
open Go.RowKit Go.Proofs.Ytajjncmbgncnhaa.Sums Go.Proofs.Ytajjncmbgncnhaa.Words Go.Proofs.Ytajjncmbgncnhaa.Mem Go.Proofs.Ytajjncmbgncnhaa.InetSum Go.Proofs.Ytajjncmbgncnhaa.Awake

set_option maxHeartbeats 4000000 in
/-- Let go. -/
theorem outer (A : Option Addr) (n c : Nat) (l : List Int) (i k : Int) (w : World) (h : Holds w w.heap.size A n c l)
    (q : 1000 < n ∨ (n ≤ 1000 ∧ i < 0) ∨ (n ≤ 1000 ∧ 0 ≤ i ∧ k < 0) ∨ (n ≤ 1000 ∧ 0 ≤ i ∧ 0 ≤ k ∧ 1000 < i) ∨ (n ≤ 1000 ∧ 0 ≤ i ∧ 0 ≤ k ∧ i ≤ 1000 ∧ 1000 < k) ∨ (n ≤ 1000 ∧ 0 ≤ i ∧ 0 ≤ k ∧ i ≤ 1000 ∧ k ≤ 1000 ∧ (n : Int) < 2 * i + 2) ∨
      (n ≤ 1000 ∧ 0 ≤ i ∧ 0 ≤ k ∧ i ≤ 1000 ∧ k ≤ 1000 ∧ 2 * i + 2 ≤ (n : Int) ∧ (n : Int) < 2 * k + 2)) :
    Calls Try.prog 8 #[.slice A n c, .int .i64 i, .int .i64 k] w fun e w' => e = .returned (.bool true) ∧ Below w.heap.size w w' := by
  have hc := h.2.1
  have hm := h.2.2.1
  unfold maxLen at hm
  rcases q with k1 | ⟨k1, k2⟩ | ⟨k1, k2, k3⟩ | ⟨k1, k2, k3, k4⟩ | ⟨k1, k2, k3, k4, k5⟩ | ⟨k1, k2, k3, k4, k5, k6⟩ | ⟨k1, k2, k3, k4, k5, k6, k7⟩
  all_goals
    go_enter Try.func8, Try.ntmps8
    go_wp2_with (go_at_call 10; refine (awake_any _).mono ?_; rintro e w2 ⟨rfl, hb2⟩)
    all_goals
      go_ret
      exact ⟨rfl, hb2⟩

end Go.Proofs.Ytajjncmbgncnhaa.LawOrder
