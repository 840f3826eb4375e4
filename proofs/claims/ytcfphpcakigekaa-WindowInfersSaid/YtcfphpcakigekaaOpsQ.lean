/- Steps of a region whose order is open: nil checks, places of rows of bools, bools stored. No function is named. -/
import Derived.Test.YtcfphpcakigekaaSteps
import Derived.Test.YtcfphpcakigekaaBlk
set_option linter.unusedVariables false
namespace Go.Proofs.Ytcfphpcakigekaa.OpsQ
open Go.RowKit Go.Proofs.Ytcfphpcakigekaa.Sums Go.Proofs.Ytcfphpcakigekaa.Mem Go.Proofs.Ytcfphpcakigekaa.Steps Go.Proofs.Ytcfphpcakigekaa.Free

theorem bool_info : (Try.prog.info? 4).map (fun i => (i.zero, i.size, i.bytes)) = some (some (.bool false), 1, 1) := by kernel_rfl
theorem st_nil {o : Oper} {a : Act} {w : World} {K : Act → World → Prop} {Q : Exit → Act → World → Prop} (x : Operand) (ho : o.op = .nilCheck x) (ad : Addr) (hx : a.eval x = .pointer (some ad))
    (h : K (a.put o.dst (.pointer (some ad))) w) : Step Try.prog o a w K Q := by
  refine wp_value (.pointer (some ad)) ?_ h
  simp [execOp, ho, hx]
theorem st_bool_at {o : Oper} {a : Act} {w : World} {K : Act → World → Prop} {Q : Exit → Act → World → Prop} (x y : Operand) (ho : o.op = .indexAddr 39 x y)
    (b n c i : Nat) (hx : a.eval x = .slice (some ⟨b, 0, none⟩) n c) (hy : a.eval y = .int .i64 (i : Int)) (hi : i < n)
    (h : K (a.put o.dst (.pointer (some ⟨b, i, none⟩))) w) : Step Try.prog o a w K Q := by
  refine wp_value (.pointer (some ⟨b, i, none⟩)) ?_ h
  obtain ⟨inf, hif, _, hsz, _⟩ := info_parts bool_info
  have h1 : (0 : Int) ≤ (i : Int) ∧ (i : Int) < (n : Int) := by omega
  simp [execOp, ho, hx, hy, Instr.indexAt, asIntOf, Sem.run_bind, run_underlying Try.underlying39 w, sizeOf, typeInfo, hif, hsz, h1, hi, Result.andThen, add_plain]
theorem st_store_q {o : Oper} {a : Act} {w : World} {K : Act → World → Prop} {Q : Exit → Act → World → Prop} (x y : Operand) (ho : o.op = .store 4 x y) (ad : Addr) (hx : a.eval x = .pointer (some ad)) (z : Bool) (hy : a.eval y = .bool z)
    (u : Value) (hc : w.cell? ad = some u) (hf : w.frozen? ad = false) (hK : K (a.put o.dst undef) (w.setCell ad (.bool z))) : Step Try.prog o a w K Q := by
  have hz : (sizeOf 4).run Try.prog w = .ok 1 w := by kernel_rfl
  have hr : (storeVar 4 ad (.bool z)).run Try.prog w = .ok () (w.setCell ad (.bool z)) := by
    simp [storeVar, Value.cells, storeCells, Addr.add, hz, Result.andThen]
    rw [run_store Try.prog w ad _ _ (by rfl)]
    simp [hc, hf]
  constructor
  unfold Oper.wp execOp
  simp only [ho, hx, hy, Instr.storeAt, Instr.sureAddr, Sem.run_bind, Sem.run_pure, Result.andThen_ok, hr]
  exact hK
end Go.Proofs.Ytcfphpcakigekaa.OpsQ
