/- Steps of a region whose order is open: ints and bytes: read at a place, stored, added, turned into each other. No function is named. -/
import Derived.Test.YtdnkbefpbehllaaDoorM03
import Derived.Test.YtdnkbefpbehllaaDoorM02
set_option linter.unusedVariables false
namespace Go.Proofs.YtdnkbefpbehllaaDoor.Ops
open Go.RowKit Go.Proofs.YtdnkbefpbehllaaDoor.Sums Go.Proofs.YtdnkbefpbehllaaDoor.Mem Go.Proofs.YtdnkbefpbehllaaDoor.Bits Go.Proofs.YtdnkbefpbehllaaDoor.Bits3 Go.Proofs.YtdnkbefpbehllaaDoor.Ints Go.Proofs.YtdnkbefpbehllaaDoor.Steps Go.Proofs.YtdnkbefpbehllaaDoor.Free

theorem st_byte_at {o : Oper} {a : Act} {w : World} {K : Act → World → Prop} {Q : Exit → Act → World → Prop} (x y : Operand) (ho : o.op = .indexAddr 25 x y)
    (b p n c i : Nat) (hx : a.eval x = .slice (some ⟨b, p, none⟩) n c) (hy : a.eval y = .int .i64 (i : Int)) (hi : i < n)
    (h : K (a.put o.dst (.pointer (some ⟨b, p + i, none⟩))) w) : Step Tryd.prog o a w K Q := by
  refine wp_value (.pointer (some ⟨b, p + i, none⟩)) ?_ h
  obtain ⟨inf, hif, _, hsz, _⟩ := info_parts byte_info
  have h1 : (0 : Int) ≤ (i : Int) ∧ (i : Int) < (n : Int) := by omega
  simp [execOp, ho, hx, hy, Instr.indexAt, asIntOf, Sem.run_bind, run_underlying Tryd.underlying25 w, sizeOf, typeInfo, hif, hsz, h1, hi, Result.andThen, add_plain]
theorem conv_int (z : Int) (w : World) (h0 : 0 ≤ z) (h1 : z ≤ 255) : (convert 5 3 (.int .u8 z)).run Tryd.prog w = .ok (.int .i64 z) w := by
  have e : IntKind.i64.wrap z = z := IntWalk.i64_in _ (by omega)
  have u1 := Tryd.underlying3
  have u2 := Tryd.underlying5
  simp [convert, run_underlying u1, run_underlying u2, Conv.intToInt, e]
theorem conv_u8 (a : Int) (w : World) (h0 : 0 ≤ a) (h1 : a ≤ 255) : (convert 3 5 (.int .i64 a)).run Tryd.prog w = .ok (.int .u8 a) w := by
  have e : IntKind.u8.wrap a = a := by rw [IntKind.wrap_u8]; omega
  have u1 := Tryd.underlying3
  have u2 := Tryd.underlying5
  simp [convert, run_underlying u1, run_underlying u2, Conv.intToInt, e]
theorem b_add (a b : Int) (x y : Operand) (w : World) (h0 : -9223372036854775808 ≤ a + b) (h1 : a + b ≤ 9223372036854775807) : (do eqGuard .add 3 x y (.int .i64 a) (.int .i64 b); binOp .add 3 (.int .i64 a) (.int .i64 b) : Sem Value).run Tryd.prog w = .ok (.int .i64 (a + b)) w := by
  have e : IntKind.i64.wrap (a + b) = a + b := IntWalk.i64_in _ (by omega)
  simp [go_sem, eqGuard, e]
theorem b_mul (a b : Int) (x y : Operand) (w : World) (h0 : -9223372036854775808 ≤ a * b) (h1 : a * b ≤ 9223372036854775807) : (do eqGuard .mul 3 x y (.int .i64 a) (.int .i64 b); binOp .mul 3 (.int .i64 a) (.int .i64 b) : Sem Value).run Tryd.prog w = .ok (.int .i64 (a * b)) w := by
  have e : IntKind.i64.wrap (a * b) = a * b := IntWalk.i64_in _ (by omega)
  simp [go_sem, eqGuard, e]
theorem b_rem (a m : Int) (x y : Operand) (w : World) (h0 : 0 ≤ a) (h1 : a ≤ 9223372036854775807) (hm : 0 < m) : (do eqGuard .rem 3 x y (.int .i64 a) (.int .i64 m); binOp .rem 3 (.int .i64 a) (.int .i64 m) : Sem Value).run Tryd.prog w = .ok (.int .i64 (a % m)) w := by
  have e0 : a.tmod m = a % m := Int.tmod_eq_emod_of_nonneg h0
  have ne : ¬ m = 0 := by omega
  simp [go_sem, eqGuard, e0, ne]
theorem b_quo (a m : Int) (x y : Operand) (w : World) (h0 : 0 ≤ a) (h1 : a ≤ 9223372036854775807) (hm : 0 < m) : (do eqGuard .quo 3 x y (.int .i64 a) (.int .i64 m); binOp .quo 3 (.int .i64 a) (.int .i64 m) : Sem Value).run Tryd.prog w = .ok (.int .i64 (a / m)) w := by
  have e0 : a.tdiv m = a / m := Int.tdiv_eq_ediv_of_nonneg h0
  have l0 : 0 ≤ a / m := Int.ediv_nonneg h0 (by omega)
  have l1 : a / m ≤ a := Int.ediv_le_self m h0
  have e : IntKind.i64.wrap (a / m) = a / m := IntWalk.i64_in _ (by omega)
  have ne : ¬ m = 0 := by omega
  simp [go_sem, eqGuard, e0, e, ne]
theorem b_eql (a m : Int) (x y : Operand) (w : World) : (do eqGuard .eql 3 x y (.int .i64 a) (.int .i64 m); binOp .eql 3 (.int .i64 a) (.int .i64 m) : Sem Value).run Tryd.prog w = .ok (.bool (a == m)) w := by
  simp [go_sem, eqGuard]
theorem st_len {o : Oper} {a : Act} {w : World} {K : Act → World → Prop} {Q : Exit → Act → World → Prop} (x : Operand) (ho : o.op = .call { callee := .builtin .len, args := #[x], argTypes := #[9] }) (d : ByteArray) (hx : a.eval x = .string d) (hK : K (a.put o.dst (.int .i64 (d.size : Int))) w) : Step Tryd.prog o a w K Q := by
  have u := Tryd.underlying9
  have e : ∀ ty, (Builtin.len_ #[9] ty #[.string d]).run Tryd.prog w = .ok (.int .i64 (d.size : Int)) w := fun ty => by simp [go_sem]
  refine wp_value _ ?_ hK
  simp [execOp, ho, resolve, invoke, hx, builtin, e, Result.andThen]
theorem st_len_bytes {o : Oper} {a : Act} {w : World} {K : Act → World → Prop} {Q : Exit → Act → World → Prop} (x : Operand) (ho : o.op = .call { callee := .builtin .len, args := #[x], argTypes := #[25] }) (A : Option Addr) (n c : Nat) (hx : a.eval x = .slice A n c) (hK : K (a.put o.dst (.int .i64 (n : Int))) w) : Step Tryd.prog o a w K Q := by
  have u := Tryd.underlying25
  have e : ∀ ty, (Builtin.len_ #[25] ty #[.slice A n c]).run Tryd.prog w = .ok (.int .i64 (n : Int)) w := fun ty => by simp [go_sem]
  refine wp_value _ ?_ hK
  simp [execOp, ho, resolve, invoke, hx, builtin, e, Result.andThen]

/-- Shifts and bits, as sums. -/
theorem b_shl4 (a : Int) (x y : Operand) (w : World) (h0 : 0 ≤ a) (h1 : a ≤ 1048576) : (do eqGuard .shl 3 x y (.int .i64 a) (.int .u64 4); binOp .shl 3 (.int .i64 a) (.int .u64 4) : Sem Value).run Tryd.prog w = .ok (.int .i64 (a * 16)) w := by
  have e : IntKind.i64.wrap (a * 16) = a * 16 := IntWalk.i64_in _ (by omega)
  simp [go_sem, eqGuard, e]
theorem b_shl8 (a : Int) (x y : Operand) (w : World) (h0 : 0 ≤ a) (h1 : a ≤ 1048576) : (do eqGuard .shl 3 x y (.int .i64 a) (.int .u64 8); binOp .shl 3 (.int .i64 a) (.int .u64 8) : Sem Value).run Tryd.prog w = .ok (.int .i64 (a * 256)) w := by
  have e : IntKind.i64.wrap (a * 256) = a * 256 := IntWalk.i64_in _ (by omega)
  simp [go_sem, eqGuard, e]
theorem b_shl16 (a : Int) (x y : Operand) (w : World) (h0 : 0 ≤ a) (h1 : a ≤ 1048576) : (do eqGuard .shl 3 x y (.int .i64 a) (.int .u64 16); binOp .shl 3 (.int .i64 a) (.int .u64 16) : Sem Value).run Tryd.prog w = .ok (.int .i64 (a * 65536)) w := by
  have e : IntKind.i64.wrap (a * 65536) = a * 65536 := IntWalk.i64_in _ (by omega)
  simp [go_sem, eqGuard, e]
theorem b_shr8 (a : Int) (k : Nat) (x y : Operand) (w : World) (h0 : 0 ≤ a) (h1 : a ≤ 255) : (do eqGuard .shr 5 x y (.int .u8 a) (.int .u64 (4 : Int)); binOp .shr 5 (.int .u8 a) (.int .u64 (4 : Int)) : Sem Value).run Tryd.prog w = .ok (.int .u8 (a / 16)) w := by
  simp [go_sem, eqGuard]
theorem and_u8 {a : Int} (h0 : 0 ≤ a) (h1 : a ≤ 255) : bits .and .u8 a 15 = a % 16 := by
  have h : ∀ n : Fin 256, bits .and .u8 (n.val : Int) 15 = (n.val : Int) % 16 := by decide +kernel
  have := h ⟨a.toNat, by omega⟩
  simpa [Int.toNat_of_nonneg h0] using this
theorem b_and8 (a : Int) (x y : Operand) (w : World) (h0 : 0 ≤ a) (h1 : a ≤ 255) : (do eqGuard .and 5 x y (.int .u8 a) (.int .u8 15); binOp .and 5 (.int .u8 a) (.int .u8 15) : Sem Value).run Tryd.prog w = .ok (.int .u8 (a % 16)) w := by
  simp [go_sem, eqGuard, and_u8 h0 h1]
theorem b_or (a b c : Int) (x y : Operand) (w : World) (h : bits .or .i64 a b = c) : (do eqGuard .or 3 x y (.int .i64 a) (.int .i64 b); binOp .or 3 (.int .i64 a) (.int .i64 b) : Sem Value).run Tryd.prog w = .ok (.int .i64 c) w := by
  subst h
  kernel_rfl
theorem st_store1 {o : Oper} {a : Act} {w : World} {K : Act → World → Prop} {Q : Exit → Act → World → Prop} (x y : Operand) (ho : o.op = .store 3 x y) (ad : Addr) (hx : a.eval x = .pointer (some ad)) (z : Int) (hy : a.eval y = .int .i64 z)
    (u : Value) (hc : w.cell? ad = some u) (hf : w.frozen? ad = false) (hK : K (a.put o.dst undef) (w.setCell ad (.int .i64 z))) : Step Tryd.prog o a w K Q := by
  have hz : (sizeOf 3).run Tryd.prog w = .ok 1 w := by kernel_rfl
  have hr : (storeVar 3 ad (.int .i64 z)).run Tryd.prog w = .ok () (w.setCell ad (.int .i64 z)) := by
    simp [storeVar, Value.cells, storeCells, Addr.add, hz, Result.andThen]
    rw [run_store Tryd.prog w ad _ _ (by rfl)]
    simp [hc, hf]
  constructor
  unfold Oper.wp execOp
  simp only [ho, hx, hy, Instr.storeAt, Instr.sureAddr, Sem.run_bind, Sem.run_pure, Result.andThen_ok, hr]
  exact hK
theorem b_xor (a b c : Int) (x y : Operand) (w : World) (h : bits .xor .i64 a b = c) : (do eqGuard .xor 3 x y (.int .i64 a) (.int .i64 b); binOp .xor 3 (.int .i64 a) (.int .i64 b) : Sem Value).run Tryd.prog w = .ok (.int .i64 c) w := by
  subst h
  kernel_rfl
end Go.Proofs.YtdnkbefpbehllaaDoor.Ops

/- Steps of a region whose order is open: places of arrays of bytes, nil checks, bytes stored, bytes unlike one another. No function is named. -/
set_option linter.unusedVariables false
namespace Go.Proofs.YtdnkbefpbehllaaDoor.OpsB
open Go.RowKit Go.Proofs.YtdnkbefpbehllaaDoor.Sums Go.Proofs.YtdnkbefpbehllaaDoor.Mem Go.Proofs.YtdnkbefpbehllaaDoor.Bits Go.Proofs.YtdnkbefpbehllaaDoor.Bits3 Go.Proofs.YtdnkbefpbehllaaDoor.Ints Go.Proofs.YtdnkbefpbehllaaDoor.Steps Go.Proofs.YtdnkbefpbehllaaDoor.Free Go.Proofs.YtdnkbefpbehllaaDoor.Ops

theorem st_arr_at {o : Oper} {a : Act} {w : World} {K : Act → World → Prop} {Q : Exit → Act → World → Prop} {ty : TypeId} {n : Nat} (hu : Tryd.prog.underlying ty = some (.array n 5)) (x y : Operand) (ho : o.op = .indexAddr ty x y)
    (b i : Nat) (k : IntKind) (z : Int) (hx : a.eval x = .pointer (some ⟨b, 0, none⟩)) (hy : a.eval y = .int k z) (hz : z = (i : Int)) (hi : i < n)
    (h : K (a.put o.dst (.pointer (some ⟨b, i, none⟩))) w) : Step Tryd.prog o a w K Q := by
  subst hz
  refine wp_value (.pointer (some ⟨b, i, none⟩)) ?_ h
  obtain ⟨inf, hif, _, hsz, _⟩ := info_parts byte_info
  have h1 : (0 : Int) ≤ (i : Int) ∧ (i : Int) < (n : Int) := by omega
  simp [execOp, ho, hx, hy, Instr.indexAt, Instr.sureAddr, asIntOf, Sem.run_bind, run_underlying hu w, sizeOf, typeInfo, hif, hsz, h1, hi, Result.andThen, add_plain]
theorem st_nil {o : Oper} {a : Act} {w : World} {K : Act → World → Prop} {Q : Exit → Act → World → Prop} (x : Operand) (ho : o.op = .nilCheck x) (ad : Addr) (hx : a.eval x = .pointer (some ad))
    (h : K (a.put o.dst (.pointer (some ad))) w) : Step Tryd.prog o a w K Q := by
  refine wp_value (.pointer (some ad)) ?_ h
  simp [execOp, ho, hx]
theorem st_store_b {o : Oper} {a : Act} {w : World} {K : Act → World → Prop} {Q : Exit → Act → World → Prop} (x y : Operand) (ho : o.op = .store 5 x y) (ad : Addr) (hx : a.eval x = .pointer (some ad)) (z : Int) (hy : a.eval y = .int .u8 z)
    (u : Value) (hc : w.cell? ad = some u) (hf : w.frozen? ad = false) (hK : K (a.put o.dst undef) (w.setCell ad (.int .u8 z))) : Step Tryd.prog o a w K Q := by
  have hz : (sizeOf 5).run Tryd.prog w = .ok 1 w := by kernel_rfl
  have hr : (storeVar 5 ad (.int .u8 z)).run Tryd.prog w = .ok () (w.setCell ad (.int .u8 z)) := by
    simp [storeVar, Value.cells, storeCells, Addr.add, hz, Result.andThen]
    rw [run_store Tryd.prog w ad _ _ (by rfl)]
    simp [hc, hf]
  constructor
  unfold Oper.wp execOp
  simp only [ho, hx, hy, Instr.storeAt, Instr.sureAddr, Sem.run_bind, Sem.run_pure, Result.andThen_ok, hr]
  exact hK
theorem b_xor8 (a b c : Int) (x y : Operand) (w : World) (h : bits .xor .u8 a b = c) : (do eqGuard .xor 5 x y (.int .u8 a) (.int .u8 b); binOp .xor 5 (.int .u8 a) (.int .u8 b) : Sem Value).run Tryd.prog w = .ok (.int .u8 c) w := by
  subst h
  kernel_rfl
theorem b_sub (a b : Int) (x y : Operand) (w : World) (h0 : -9223372036854775808 ≤ a - b) (h1 : a - b ≤ 9223372036854775807) : (do eqGuard .sub 3 x y (.int .i64 a) (.int .i64 b); binOp .sub 3 (.int .i64 a) (.int .i64 b) : Sem Value).run Tryd.prog w = .ok (.int .i64 (a - b)) w := by
  have e : IntKind.i64.wrap (a - b) = a - b := IntWalk.i64_in _ (by omega)
  simp [go_sem, eqGuard, e]
end Go.Proofs.YtdnkbefpbehllaaDoor.OpsB

/- Rows of ints that the call owns: nil, literals, appends; and ones that are known whole. No function is named. -/
set_option linter.unusedVariables false
namespace Go.Proofs.YtdnkbefpbehllaaDoor.IntsO
open Go.RowKit Go.Proofs.YtdnkbefpbehllaaDoor.Sums Go.Proofs.YtdnkbefpbehllaaDoor.Mem Go.Proofs.YtdnkbefpbehllaaDoor.Blk Go.Proofs.YtdnkbefpbehllaaDoor.Bits3 Go.Proofs.YtdnkbefpbehllaaDoor.Ints Go.Proofs.YtdnkbefpbehllaaDoor.Free Go.Proofs.YtdnkbefpbehllaaDoor.Steps Go.Proofs.YtdnkbefpbehllaaDoor.Ops

def ivals (l : List Nat) : List Value := l.map fun n : Nat => Value.int .i64 (n : Int)
theorem ivals_len (l : List Nat) : (ivals l).length = l.length := by simp [ivals]
theorem ivals_app (a b : List Nat) : ivals (a ++ b) = ivals a ++ ivals b := by simp [ivals]
theorem ivals_get {l : List Nat} {i : Nat} (h : i < l.length) : (ivals l)[i]? = some (.int .i64 ((l.getD i 0 : Nat) : Int)) := by
  unfold ivals
  rw [List.getElem?_map, List.getD_eq_getElem?_getD, List.getElem?_eq_getElem h]
  rfl
theorem ivals_one (l : List Nat) : ∀ u ∈ ivals l, u.oneCell' = true := by
  intro u hu
  obtain ⟨n, _, rfl⟩ := List.mem_map.1 hu
  rfl
/-- A row of ints that the call owns. -/
def IOwn (w : World) (base : Nat) (v : Value) (l : List Nat) : Prop := w.ownsRow base 3 1 v l.length (ivals l)
section
variable {w w' : World} {base : Nat} {v : Value} {l : List Nat}
theorem IOwn.nil (w : World) (base : Nat) : IOwn w base (.slice none 0 0) [] := ⟨rfl, .inl ⟨rfl, rfl⟩⟩
theorem IOwn.kept {row : Option Nat} (h : IOwn w base v l) (hg : w.grownBy w' row) (hne : v.ownBlock = none ∨ v.ownBlock ≠ row) : IOwn w' base v l := World.ownsRow.kept h hg hne
theorem IOwn.below {B : Nat} (h : IOwn w base v l) (hb : Below B w w') (hB : w.heap.size ≤ B) : IOwn w' base v l :=
  h.kept (row := none) ⟨hb.os, hb.tape, hb.output, hb.size, fun k hk _ => hb.block k (by omega)⟩ (by cases hv : v.ownBlock <;> simp)
theorem IOwn.up (h : IOwn w base v l) (hb : Below w.heap.size w w') : IOwn w' base v l := h.below hb (Nat.le_refl _)
theorem IOwn.alloc (h : IOwn w base v l) (o : Obj) : IOwn (w.alloc o) base v l := World.ownsRow.alloc h o
theorem IOwn.drew (h : IOwn w base v l) : IOwn w.drew base v l := h
theorem IOwn.mono {b2 : Nat} (h : IOwn w base v l) (hb : b2 ≤ base) : IOwn w b2 v l := by
  refine ⟨h.1, ?_⟩
  rcases h.2 with hn | ⟨g, cap, cur, rfl, hb', rest⟩
  · exact .inl hn
  · exact .inr ⟨g, cap, cur, rfl, by omega, rest⟩
theorem IOwn.form (h : IOwn w base v l) (hn : 0 < l.length) : ∃ g cap, v = .slice (some ⟨g, 0, none⟩) l.length cap ∧ base ≤ g ∧ g < w.heap.size ∧ l.length ≤ cap ∧ cap ≤ maxLen := by
  rcases h.2 with ⟨_, h0⟩ | ⟨g, cap, cur, rfl, hb, hgg, h1, h2, _⟩
  · omega
  · refine ⟨g, cap, rfl, hb, ?_, h1, h2⟩
    rcases Nat.lt_or_ge g w.heap.size with q | q
    · exact q
    · rw [Array.getElem?_eq_none q] at hgg; cases hgg
theorem IOwn.shape (h : IOwn w base v l) : ∃ A cap, v = .slice A l.length cap := by
  rcases h.2 with ⟨rfl, h0⟩ | ⟨g, cap, cur, rfl, _⟩
  · exact ⟨none, 0, by rw [h0]⟩
  · exact ⟨_, cap, rfl⟩
theorem IOwn.lt (h : IOwn w base v l) : ∀ k, v.ownBlock = some k → base ≤ k ∧ k < w.heap.size := World.ownsRow.lt h
theorem IOwn.cell {g cap : Nat} (h : IOwn w base (.slice (some ⟨g, 0, none⟩) l.length cap) l) {i : Nat} (hi : i < l.length) : w.cell? ⟨g, i, none⟩ = some (.int .i64 ((l.getD i 0 : Nat) : Int)) := by
  have := World.ownsRow.cellAt h i (by omega)
  rw [this]
  exact ivals_get hi
theorem IOwn.of_row {g : Nat} (h : IRow w g l) (hb : base ≤ g) (hm : l.length ≤ 1048576) : IOwn w base (.slice (some ⟨g, 0, none⟩) l.length l.length) l := by
  refine ⟨by rw [ivals_len]; omega, .inr ⟨g, l.length, icells l, rfl, hb, h, Nat.le_refl _, by simp only [maxLen]; omega, by simp [icells], ?_⟩⟩
  rw [List.take_of_length_le (by simp [icells])]
  rfl
end

end Go.Proofs.YtdnkbefpbehllaaDoor.IntsO

