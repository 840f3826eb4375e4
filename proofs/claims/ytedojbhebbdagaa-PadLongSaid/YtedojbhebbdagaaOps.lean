/- Steps of a region whose order is open: ints and bytes: read at a place, stored, added, turned into each other. No function is named. -/
import Derived.Test.YtedojbhebbdagaaSteps
import Derived.Test.YtedojbhebbdagaaInts
import Derived.Test.YtedojbhebbdagaaBits
set_option linter.unusedVariables false
namespace Go.Proofs.Ytedojbhebbdagaa.Ops
open Go.RowKit Go.Proofs.Ytedojbhebbdagaa.Sums Go.Proofs.Ytedojbhebbdagaa.Mem Go.Proofs.Ytedojbhebbdagaa.Bits Go.Proofs.Ytedojbhebbdagaa.Bits3 Go.Proofs.Ytedojbhebbdagaa.Ints Go.Proofs.Ytedojbhebbdagaa.Steps Go.Proofs.Ytedojbhebbdagaa.Free

theorem st_byte_at {o : Oper} {a : Act} {w : World} {K : Act → World → Prop} {Q : Exit → Act → World → Prop} (x y : Operand) (ho : o.op = .indexAddr 22 x y)
    (b p n c i : Nat) (hx : a.eval x = .slice (some ⟨b, p, none⟩) n c) (hy : a.eval y = .int .i64 (i : Int)) (hi : i < n)
    (h : K (a.put o.dst (.pointer (some ⟨b, p + i, none⟩))) w) : Step Try.prog o a w K Q := by
  refine wp_value (.pointer (some ⟨b, p + i, none⟩)) ?_ h
  obtain ⟨inf, hif, _, hsz, _⟩ := info_parts byte_info
  have h1 : (0 : Int) ≤ (i : Int) ∧ (i : Int) < (n : Int) := by omega
  simp [execOp, ho, hx, hy, Instr.indexAt, asIntOf, Sem.run_bind, run_underlying Try.underlying22 w, sizeOf, typeInfo, hif, hsz, h1, hi, Result.andThen, add_plain]
theorem conv_int (z : Int) (w : World) (h0 : 0 ≤ z) (h1 : z ≤ 255) : (convert 5 3 (.int .u8 z)).run Try.prog w = .ok (.int .i64 z) w := by
  have e : IntKind.i64.wrap z = z := IntWalk.i64_in _ (by omega)
  have u1 := Try.underlying3
  have u2 := Try.underlying5
  simp [convert, run_underlying u1, run_underlying u2, Conv.intToInt, e]
theorem conv_u8 (a : Int) (w : World) (h0 : 0 ≤ a) (h1 : a ≤ 255) : (convert 3 5 (.int .i64 a)).run Try.prog w = .ok (.int .u8 a) w := by
  have e : IntKind.u8.wrap a = a := by rw [IntKind.wrap_u8]; omega
  have u1 := Try.underlying3
  have u2 := Try.underlying5
  simp [convert, run_underlying u1, run_underlying u2, Conv.intToInt, e]
theorem b_add (a b : Int) (x y : Operand) (w : World) (h0 : -9223372036854775808 ≤ a + b) (h1 : a + b ≤ 9223372036854775807) : (do eqGuard .add 3 x y (.int .i64 a) (.int .i64 b); binOp .add 3 (.int .i64 a) (.int .i64 b) : Sem Value).run Try.prog w = .ok (.int .i64 (a + b)) w := by
  have e : IntKind.i64.wrap (a + b) = a + b := IntWalk.i64_in _ (by omega)
  simp [go_sem, eqGuard, e]
theorem b_mul (a b : Int) (x y : Operand) (w : World) (h0 : -9223372036854775808 ≤ a * b) (h1 : a * b ≤ 9223372036854775807) : (do eqGuard .mul 3 x y (.int .i64 a) (.int .i64 b); binOp .mul 3 (.int .i64 a) (.int .i64 b) : Sem Value).run Try.prog w = .ok (.int .i64 (a * b)) w := by
  have e : IntKind.i64.wrap (a * b) = a * b := IntWalk.i64_in _ (by omega)
  simp [go_sem, eqGuard, e]
theorem b_rem (a m : Int) (x y : Operand) (w : World) (h0 : 0 ≤ a) (h1 : a ≤ 9223372036854775807) (hm : 0 < m) : (do eqGuard .rem 3 x y (.int .i64 a) (.int .i64 m); binOp .rem 3 (.int .i64 a) (.int .i64 m) : Sem Value).run Try.prog w = .ok (.int .i64 (a % m)) w := by
  have e0 : a.tmod m = a % m := Int.tmod_eq_emod_of_nonneg h0
  have ne : ¬ m = 0 := by omega
  simp [go_sem, eqGuard, e0, ne]
theorem b_quo (a m : Int) (x y : Operand) (w : World) (h0 : 0 ≤ a) (h1 : a ≤ 9223372036854775807) (hm : 0 < m) : (do eqGuard .quo 3 x y (.int .i64 a) (.int .i64 m); binOp .quo 3 (.int .i64 a) (.int .i64 m) : Sem Value).run Try.prog w = .ok (.int .i64 (a / m)) w := by
  have e0 : a.tdiv m = a / m := Int.tdiv_eq_ediv_of_nonneg h0
  have l0 : 0 ≤ a / m := Int.ediv_nonneg h0 (by omega)
  have l1 : a / m ≤ a := Int.ediv_le_self m h0
  have e : IntKind.i64.wrap (a / m) = a / m := IntWalk.i64_in _ (by omega)
  have ne : ¬ m = 0 := by omega
  simp [go_sem, eqGuard, e0, e, ne]
theorem b_eql (a m : Int) (x y : Operand) (w : World) : (do eqGuard .eql 3 x y (.int .i64 a) (.int .i64 m); binOp .eql 3 (.int .i64 a) (.int .i64 m) : Sem Value).run Try.prog w = .ok (.bool (a == m)) w := by
  simp [go_sem, eqGuard]
theorem st_len {o : Oper} {a : Act} {w : World} {K : Act → World → Prop} {Q : Exit → Act → World → Prop} (x : Operand) (ho : o.op = .call { callee := .builtin .len, args := #[x], argTypes := #[9] }) (d : ByteArray) (hx : a.eval x = .string d) (hK : K (a.put o.dst (.int .i64 (d.size : Int))) w) : Step Try.prog o a w K Q := by
  have u := Try.underlying9
  have e : ∀ ty, (Builtin.len_ #[9] ty #[.string d]).run Try.prog w = .ok (.int .i64 (d.size : Int)) w := fun ty => by simp [go_sem]
  refine wp_value _ ?_ hK
  simp [execOp, ho, resolve, invoke, hx, builtin, e, Result.andThen]
theorem st_len_bytes {o : Oper} {a : Act} {w : World} {K : Act → World → Prop} {Q : Exit → Act → World → Prop} (x : Operand) (ho : o.op = .call { callee := .builtin .len, args := #[x], argTypes := #[22] }) (A : Option Addr) (n c : Nat) (hx : a.eval x = .slice A n c) (hK : K (a.put o.dst (.int .i64 (n : Int))) w) : Step Try.prog o a w K Q := by
  have u := Try.underlying22
  have e : ∀ ty, (Builtin.len_ #[22] ty #[.slice A n c]).run Try.prog w = .ok (.int .i64 (n : Int)) w := fun ty => by simp [go_sem]
  refine wp_value _ ?_ hK
  simp [execOp, ho, resolve, invoke, hx, builtin, e, Result.andThen]

/-- Shifts and bits, as sums. -/
theorem b_shl4 (a : Int) (x y : Operand) (w : World) (h0 : 0 ≤ a) (h1 : a ≤ 1048576) : (do eqGuard .shl 3 x y (.int .i64 a) (.int .u64 4); binOp .shl 3 (.int .i64 a) (.int .u64 4) : Sem Value).run Try.prog w = .ok (.int .i64 (a * 16)) w := by
  have e : IntKind.i64.wrap (a * 16) = a * 16 := IntWalk.i64_in _ (by omega)
  simp [go_sem, eqGuard, e]
theorem b_shl8 (a : Int) (x y : Operand) (w : World) (h0 : 0 ≤ a) (h1 : a ≤ 1048576) : (do eqGuard .shl 3 x y (.int .i64 a) (.int .u64 8); binOp .shl 3 (.int .i64 a) (.int .u64 8) : Sem Value).run Try.prog w = .ok (.int .i64 (a * 256)) w := by
  have e : IntKind.i64.wrap (a * 256) = a * 256 := IntWalk.i64_in _ (by omega)
  simp [go_sem, eqGuard, e]
theorem b_shl16 (a : Int) (x y : Operand) (w : World) (h0 : 0 ≤ a) (h1 : a ≤ 1048576) : (do eqGuard .shl 3 x y (.int .i64 a) (.int .u64 16); binOp .shl 3 (.int .i64 a) (.int .u64 16) : Sem Value).run Try.prog w = .ok (.int .i64 (a * 65536)) w := by
  have e : IntKind.i64.wrap (a * 65536) = a * 65536 := IntWalk.i64_in _ (by omega)
  simp [go_sem, eqGuard, e]
theorem b_shr8 (a : Int) (k : Nat) (x y : Operand) (w : World) (h0 : 0 ≤ a) (h1 : a ≤ 255) : (do eqGuard .shr 5 x y (.int .u8 a) (.int .u64 (4 : Int)); binOp .shr 5 (.int .u8 a) (.int .u64 (4 : Int)) : Sem Value).run Try.prog w = .ok (.int .u8 (a / 16)) w := by
  simp [go_sem, eqGuard]
theorem and_u8 {a : Int} (h0 : 0 ≤ a) (h1 : a ≤ 255) : bits .and .u8 a 15 = a % 16 := by
  have h : ∀ n : Fin 256, bits .and .u8 (n.val : Int) 15 = (n.val : Int) % 16 := by decide +kernel
  have := h ⟨a.toNat, by omega⟩
  simpa [Int.toNat_of_nonneg h0] using this
theorem b_and8 (a : Int) (x y : Operand) (w : World) (h0 : 0 ≤ a) (h1 : a ≤ 255) : (do eqGuard .and 5 x y (.int .u8 a) (.int .u8 15); binOp .and 5 (.int .u8 a) (.int .u8 15) : Sem Value).run Try.prog w = .ok (.int .u8 (a % 16)) w := by
  simp [go_sem, eqGuard, and_u8 h0 h1]
theorem b_or (a b c : Int) (x y : Operand) (w : World) (h : bits .or .i64 a b = c) : (do eqGuard .or 3 x y (.int .i64 a) (.int .i64 b); binOp .or 3 (.int .i64 a) (.int .i64 b) : Sem Value).run Try.prog w = .ok (.int .i64 c) w := by
  subst h
  kernel_rfl
theorem st_store1 {o : Oper} {a : Act} {w : World} {K : Act → World → Prop} {Q : Exit → Act → World → Prop} (x y : Operand) (ho : o.op = .store 3 x y) (ad : Addr) (hx : a.eval x = .pointer (some ad)) (z : Int) (hy : a.eval y = .int .i64 z)
    (u : Value) (hc : w.cell? ad = some u) (hf : w.frozen? ad = false) (hK : K (a.put o.dst undef) (w.setCell ad (.int .i64 z))) : Step Try.prog o a w K Q := by
  have hz : (sizeOf 3).run Try.prog w = .ok 1 w := by kernel_rfl
  have hr : (storeVar 3 ad (.int .i64 z)).run Try.prog w = .ok () (w.setCell ad (.int .i64 z)) := by
    simp [storeVar, Value.cells, storeCells, Addr.add, hz, Result.andThen]
    rw [run_store Try.prog w ad _ _ (by rfl)]
    simp [hc, hf]
  constructor
  unfold Oper.wp execOp
  simp only [ho, hx, hy, Instr.storeAt, Instr.sureAddr, Sem.run_bind, Sem.run_pure, Result.andThen_ok, hr]
  exact hK
theorem b_xor (a b c : Int) (x y : Operand) (w : World) (h : bits .xor .i64 a b = c) : (do eqGuard .xor 3 x y (.int .i64 a) (.int .i64 b); binOp .xor 3 (.int .i64 a) (.int .i64 b) : Sem Value).run Try.prog w = .ok (.int .i64 c) w := by
  subst h
  kernel_rfl
end Go.Proofs.Ytedojbhebbdagaa.Ops
