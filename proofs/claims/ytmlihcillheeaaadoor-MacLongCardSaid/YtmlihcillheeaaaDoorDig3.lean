/- The contract of the code's Words; an array's place by value. -/
import Derived.Test.YtmlihcillheeaaaDoorDig2
set_option linter.unusedVariables false
namespace Go.Proofs.YtmlihcillheeaaaDoor.Dig3
open Go.RowKit Go.PlainAid Go.Proofs.YtmlihcillheeaaaDoor.Sums Go.Proofs.YtmlihcillheeaaaDoor.Mem Go.Proofs.YtmlihcillheeaaaDoor.Blk Go.Proofs.YtmlihcillheeaaaDoor.Bits Go.Proofs.YtmlihcillheeaaaDoor.Bits3 Go.Proofs.YtmlihcillheeaaaDoor.Ints Go.Proofs.YtmlihcillheeaaaDoor.IntsO Go.Proofs.YtmlihcillheeaaaDoor.ShaD Go.Proofs.YtmlihcillheeaaaDoor.Dig1 Go.Proofs.YtmlihcillheeaaaDoor.OpsU Go.Proofs.YtmlihcillheeaaaDoor.Dig2

theorem run_index_u {ty : TypeId} {n : Nat} (hu : Tryd.prog.underlying ty = some (.array n 40)) {l : List Nat} {j : Nat} (hl : l.length = n) (hj : j < n) (w : World) :
    (Instr.index ty (.agg (ucells l)) (.int .i64 (j : Int))).run Tryd.prog w = .ok (.int .u32 ((l.getD j 0 : Nat) : Int)) w := by
  obtain ⟨inf, hif, _, hsz, _⟩ := info_parts u32_info
  have hg := ucells_get l j (by omega)
  have h1 : (0 : Int) ≤ (j : Int) ∧ (j : Int) < (n : Int) := by omega
  have ha : (isAgg 40).run Tryd.prog w = .ok false w := by kernel_rfl
  simp [Instr.index, run_underlying hu, asIntOf, sizeOf, typeInfo, hif, hsz, hj, part, ha, hg, Result.andThen]

end Go.Proofs.YtmlihcillheeaaaDoor.Dig3
