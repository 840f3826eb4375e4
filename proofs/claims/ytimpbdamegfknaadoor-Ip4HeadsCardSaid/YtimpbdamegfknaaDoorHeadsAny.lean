/- The law Ip4Heads: any packet, place, byte. -/
import Derived.Test.YtimpbdamegfknaaDoorHeadsOk
set_option linter.unusedVariables false
namespace Go.Proofs.YtimpbdamegfknaaDoor.LawHeads
open Go.RowKit Go.Proofs.YtimpbdamegfknaaDoor.Sums Go.Proofs.YtimpbdamegfknaaDoor.Mem Go.Proofs.YtimpbdamegfknaaDoor.Pkt Go.Proofs.YtimpbdamegfknaaDoor.Check Go.Proofs.YtimpbdamegfknaaDoor.Errno Go.Proofs.YtimpbdamegfknaaDoor.Same

theorem heads_any (p : Pkt) (A : Option Addr) (n c : Nat) (l : List Int) (at_ x : Int) (w : World) (hg : Handle w) (h : Holds w w.heap.size A n c l) (x0 : 0 ≤ x) (x1 : x ≤ 255) (z : p.src.size ≤ 140737488355328 ∧ p.dst.size ≤ 140737488355328 ∧ p.opt.size ≤ 140737488355328 ∧ n ≤ 140737488355328) :
    Calls Tryd.prog 6 #[val p (.slice A n c), .int .i64 at_, .int .u8 x] w (Yes w) := by
  cases hf : fewB p n with
  | false => exact heads_no p A n c at_ x w z.1 z.2.1 z.2.2.1 z.2.2.2 hf
  | true =>
    by_cases hk : p.chk n = 0
    · exact heads_ok p A n c l at_ x w hg h x0 x1 hf hk
    · exact heads_err p A n c at_ x w hg hf hk
end Go.Proofs.YtimpbdamegfknaaDoor.LawHeads
