/- Steps of a region whose order is open: places of rows of u64, the greater of two, tests. No function is named. -/
import Derived.Test.YtcfphpcakigekaaOpsQ
import Derived.Test.YtcfphpcakigekaaLongs
import Derived.BigFrame
import Derived.Lib.MinMax
set_option linter.unusedVariables false
namespace Go.Proofs.Ytcfphpcakigekaa.OpsL
open Go.RowKit Go.Proofs.Ytcfphpcakigekaa.Sums Go.Proofs.Ytcfphpcakigekaa.Mem Go.Proofs.Ytcfphpcakigekaa.Steps Go.Proofs.Ytcfphpcakigekaa.Free Go.Proofs.Ytcfphpcakigekaa.Longs

theorem st_long_at {o : Oper} {a : Act} {w : World} {K : Act → World → Prop} {Q : Exit → Act → World → Prop} (x y : Operand) (ho : o.op = .indexAddr 22 x y)
    (b p n c i : Nat) (hx : a.eval x = .slice (some ⟨b, p, none⟩) n c) (hy : a.eval y = .int .i64 (i : Int)) (hi : i < n)
    (h : K (a.put o.dst (.pointer (some ⟨b, p + i, none⟩))) w) : Step Try.prog o a w K Q := by
  refine wp_value (.pointer (some ⟨b, p + i, none⟩)) ?_ h
  obtain ⟨inf, hif, _, hsz, _⟩ := info_parts long_info
  have h1 : (0 : Int) ≤ (i : Int) ∧ (i : Int) < (n : Int) := by omega
  simp [execOp, ho, hx, hy, Instr.indexAt, asIntOf, Sem.run_bind, run_underlying Try.underlying22 w, sizeOf, typeInfo, hif, hsz, h1, hi, Result.andThen, add_plain]
theorem st_max_q {o : Oper} {a : Act} {w : World} {K : Act → World → Prop} {Q : Exit → Act → World → Prop} (x y : Operand) (ho : o.op = .call { callee := .builtin .max, args := #[x, y], argTypes := #[31, 31] }) (m n r : Int) (hx : a.eval x = .int .u64 m) (hy : a.eval y = .int .u64 n) (hr : max m n = r)
    (hK : K (a.put o.dst (.int .u64 r)) w) : Step Try.prog o a w K Q := by
  subst hr
  have e : ∀ ty, (Builtin.max_ #[31, 31] ty #[.int .u64 m, .int .u64 n]).run Try.prog w = .ok (.int .u64 (max m n)) w := fun ty => Lib.run_max_ints w _ ty _ _ _ _
  refine wp_value _ ?_ hK
  simp [execOp, ho, resolve, invoke, hx, hy, builtin, e, Result.andThen]
theorem b_neq_q (a b : Int) (r : Bool) (h : (a != b) = r) (x y : Operand) (w : World) : (do eqGuard .neq 31 x y (.int .u64 a) (.int .u64 b); binOp .neq 31 (.int .u64 a) (.int .u64 b) : Sem Value).run Try.prog w = .ok (.bool r) w := by
  subst h
  simp [go_sem, eqGuard]
theorem b_neq_e (a b : Int) (r : Bool) (h : (a != b) = r) (x y : Operand) (w : World) : (do eqGuard .neq 24 x y (.int .i64 a) (.int .i64 b); binOp .neq 24 (.int .i64 a) (.int .i64 b) : Sem Value).run Try.prog w = .ok (.bool r) w := by
  subst h
  simp [go_sem, eqGuard]
theorem st_pickF {o : Oper} {a : Act} {w : World} {K : Act → World → Prop} {Q : Exit → Act → World → Prop} (c x y : Operand) (ho : o.op = .pick c x y) (v : Value) (hc : a.eval c = .bool false) (hy : a.eval y = v) (hK : K (a.put o.dst v) w) : Step Try.prog o a w K Q :=
  wp_value v (by simp [execOp, ho, hc, hy, asBool]) hK
theorem list2 {f : Operand → Value} {x y : Operand} {u v : Value} (h1 : f x = u) (h2 : f y = v) : [x, y].map f = [u, v] := by simp [h1, h2]
end Go.Proofs.Ytcfphpcakigekaa.OpsL
