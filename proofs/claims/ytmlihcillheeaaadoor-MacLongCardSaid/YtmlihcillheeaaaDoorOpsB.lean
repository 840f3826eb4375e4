/- Steps of a region whose order is open: places of arrays of bytes, nil checks, bytes stored, bytes unlike one another. No function is named. -/
import Derived.Test.YtmlihcillheeaaaDoorOps
set_option linter.unusedVariables false
namespace Go.Proofs.YtmlihcillheeaaaDoor.OpsB
open Go.RowKit Go.Proofs.YtmlihcillheeaaaDoor.Sums Go.Proofs.YtmlihcillheeaaaDoor.Mem Go.Proofs.YtmlihcillheeaaaDoor.Bits Go.Proofs.YtmlihcillheeaaaDoor.Bits3 Go.Proofs.YtmlihcillheeaaaDoor.Ints Go.Proofs.YtmlihcillheeaaaDoor.Steps Go.Proofs.YtmlihcillheeaaaDoor.Free Go.Proofs.YtmlihcillheeaaaDoor.Ops

theorem st_arr_at {o : Oper} {a : Act} {w : World} {K : Act → World → Prop} {Q : Exit → Act → World → Prop} {ty : TypeId} {n : Nat} (hu : Tryd.prog.underlying ty = some (.array n 5)) (x y : Operand) (ho : o.op = .indexAddr ty x y)
    (b i : Nat) (k : IntKind) (z : Int) (hx : a.eval x = .pointer (some ⟨b, 0, none⟩)) (hy : a.eval y = .int k z) (hz : z = (i : Int)) (hi : i < n)
    (h : K (a.put o.dst (.pointer (some ⟨b, i, none⟩))) w) : Step Tryd.prog o a w K Q := by
  subst hz
  refine wp_value (.pointer (some ⟨b, i, none⟩)) ?_ h
  obtain ⟨inf, hif, _, hsz, _⟩ := info_parts byte_info
  have h1 : (0 : Int) ≤ (i : Int) ∧ (i : Int) < (n : Int) := by omega
  simp [execOp, ho, hx, hy, Instr.indexAt, Instr.sureAddr, asIntOf, Sem.run_bind, run_underlying hu w, sizeOf, typeInfo, hif, hsz, h1, hi, Result.andThen, add_plain]
theorem st_nil {o : Oper} {a : Act} {w : World} {K : Act → World → Prop} {Q : Exit → Act → World → Prop} (x : Operand) (ho : o.op = .nilCheck x) (ad : Addr) (hx : a.eval x = .pointer (some ad))
    (h : K (a.put o.dst (.pointer (some ad))) w) : Step Tryd.prog o a w K Q := by
  refine wp_value (.pointer (some ad)) ?_ h
  simp [execOp, ho, hx]
theorem st_store_b {o : Oper} {a : Act} {w : World} {K : Act → World → Prop} {Q : Exit → Act → World → Prop} (x y : Operand) (ho : o.op = .store 5 x y) (ad : Addr) (hx : a.eval x = .pointer (some ad)) (z : Int) (hy : a.eval y = .int .u8 z)
    (u : Value) (hc : w.cell? ad = some u) (hf : w.frozen? ad = false) (hK : K (a.put o.dst undef) (w.setCell ad (.int .u8 z))) : Step Tryd.prog o a w K Q := by
  have hz : (sizeOf 5).run Tryd.prog w = .ok 1 w := by kernel_rfl
  have hr : (storeVar 5 ad (.int .u8 z)).run Tryd.prog w = .ok () (w.setCell ad (.int .u8 z)) := by
    simp [storeVar, Value.cells, storeCells, Addr.add, hz, Result.andThen]
    rw [run_store Tryd.prog w ad _ _ (by rfl)]
    simp [hc, hf]
  constructor
  unfold Oper.wp execOp
  simp only [ho, hx, hy, Instr.storeAt, Instr.sureAddr, Sem.run_bind, Sem.run_pure, Result.andThen_ok, hr]
  exact hK
theorem b_xor8 (a b c : Int) (x y : Operand) (w : World) (h : bits .xor .u8 a b = c) : (do eqGuard .xor 5 x y (.int .u8 a) (.int .u8 b); binOp .xor 5 (.int .u8 a) (.int .u8 b) : Sem Value).run Tryd.prog w = .ok (.int .u8 c) w := by
  subst h
  kernel_rfl
theorem b_sub (a b : Int) (x y : Operand) (w : World) (h0 : -9223372036854775808 ≤ a - b) (h1 : a - b ≤ 9223372036854775807) : (do eqGuard .sub 3 x y (.int .i64 a) (.int .i64 b); binOp .sub 3 (.int .i64 a) (.int .i64 b) : Sem Value).run Tryd.prog w = .ok (.int .i64 (a - b)) w := by
  have e : IntKind.i64.wrap (a - b) = a - b := IntWalk.i64_in _ (by omega)
  simp [go_sem, eqGuard, e]
end Go.Proofs.YtmlihcillheeaaaDoor.OpsB
