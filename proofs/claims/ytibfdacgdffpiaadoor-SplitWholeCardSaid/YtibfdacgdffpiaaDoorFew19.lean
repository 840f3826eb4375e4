/- Is a packet small enough for the law? -/
import Derived.Test.YtibfdacgdffpiaaDoorCheck
import Derived.Test.YtibfdacgdffpiaaDoorBlk
import Derived.LoopTactic
namespace Go.Proofs.YtibfdacgdffpiaaDoor.Few19
open Go.RowKit Go.Proofs.YtibfdacgdffpiaaDoor.Sums Go.Proofs.YtibfdacgdffpiaaDoor.Mem Go.Proofs.YtibfdacgdffpiaaDoor.Blk Go.Proofs.YtibfdacgdffpiaaDoor.Pkt Go.Proofs.YtibfdacgdffpiaaDoor.Check

def fewB (p : Pkt) (n : Nat) : Bool := decide (p.src.size + p.dst.size + p.opt.size ≤ 300) && decide (n ≤ 3000)
theorem few_any (p : Pkt) (A : Option Addr) (n c : Nat) (w : World) (h1 : p.src.size ≤ 140737488355328) (h2 : p.dst.size ≤ 140737488355328) (h3 : p.opt.size ≤ 140737488355328) (h4 : n ≤ 140737488355328) :
    Calls Tryd.prog 6 #[val p (.slice A n c)] w fun e w' => e = .returned (.bool (fewB p n)) ∧ Below w.heap.size w w' := by
  have F : Hid (fewB p n = (decide (p.src.size + p.dst.size + p.opt.size ≤ 300) && decide (n ≤ 3000))) := Lib.hid rfl
  unfold val
  by_cases q1 : p.src.size + p.dst.size + p.opt.size ≤ 300
  · by_cases q2 : n ≤ 3000
    all_goals
      go_enter Tryd.func6, Tryd.ntmps6
      go_wp2_with fail
    all_goals go_ret
    all_goals exact ⟨by rw [F.out]; first | (simp [q1, q2]; done) | (simp [q1, q2]; omega), (Below.refl _ _).alloc (Nat.le_refl _) _⟩
  · go_enter Tryd.func6, Tryd.ntmps6
    go_wp2_with fail
    all_goals go_ret
    all_goals exact ⟨by rw [F.out]; first | (simp [q1]; done) | (simp [q1]; omega), (Below.refl _ _).alloc (Nat.le_refl _) _⟩
end Go.Proofs.YtibfdacgdffpiaaDoor.Few19
