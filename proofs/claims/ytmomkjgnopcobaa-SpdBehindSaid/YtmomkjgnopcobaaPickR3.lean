/- The document's Turned, Of. -/
import Derived.Test.YtmomkjgnopcobaaPickR2
import Derived.Test.YtmomkjgnopcobaaRegs
import Derived.Test.YtmomkjgnopcobaaCom
import Derived.Laws.Tables
set_option linter.unusedVariables false
namespace Go.Proofs.Ytmomkjgnopcobaa.PickR3
open Go.RowKit Go.Proofs.Ytmomkjgnopcobaa.Mem Go.Proofs.Ytmomkjgnopcobaa.Blk Go.Proofs.Ytmomkjgnopcobaa.Ahead Go.Proofs.Ytmomkjgnopcobaa.PickD Go.Proofs.Ytmomkjgnopcobaa.PickR1 Go.Proofs.Ytmomkjgnopcobaa.PickR2 Go.Proofs.Ytmomkjgnopcobaa.Free Go.Proofs.Ytmomkjgnopcobaa.Steps Go.Proofs.Ytmomkjgnopcobaa.Regs Go.Proofs.Ytmomkjgnopcobaa.Com

theorem st_store_i {o : Oper} {a : Act} {w : World} {K : Act → World → Prop} {Q : Exit → Act → World → Prop} (x y : Operand) (ho : o.op = .store 3 x y) (ad : Addr) (hx : a.eval x = .pointer (some ad)) (z : Int) (hy : a.eval y = .int .i64 z)
    (u : Value) (hc : w.cell? ad = some u) (hf : w.frozen? ad = false) (hK : K (a.put o.dst undef) (w.setCell ad (.int .i64 z))) : Step Try.prog o a w K Q := by
  have hz : (sizeOf 3).run Try.prog w = .ok 1 w := by kernel_rfl
  have hr : (storeVar 3 ad (.int .i64 z)).run Try.prog w = .ok () (w.setCell ad (.int .i64 z)) := by
    simp [storeVar, Value.cells, storeCells, Addr.add, hz, Result.andThen]
    rw [run_store Try.prog w ad _ _ (by rfl)]
    simp [hc, hf]
  constructor
  unfold Oper.wp execOp
  simp only [ho, hx, hy, Instr.storeAt, Instr.sureAddr, Sem.run_bind, Sem.run_pure, Result.andThen_ok, hr]
  exact hK
theorem fldF3 (g : Nat) (w : World) : (Instr.fieldAt 24 (.pointer (some ⟨g, 0, none⟩)) 3).run Try.prog w = .ok (.pointer (some ⟨g, 3, none⟩)) w := by kernel_rfl
theorem fldF4 (g : Nat) (w : World) : (Instr.fieldAt 24 (.pointer (some ⟨g, 0, none⟩)) 4).run Try.prog w = .ok (.pointer (some ⟨g, 4, none⟩)) w := by kernel_rfl
theorem oneF (a b : ByteArray) (x y z : Int) : (#[.string a, .string b, .int .i64 x, .int .i64 y, .int .i64 z] : Array Value).all (·.oneCell') = true := by simp [Value.oneCell']

end Go.Proofs.Ytmomkjgnopcobaa.PickR3
