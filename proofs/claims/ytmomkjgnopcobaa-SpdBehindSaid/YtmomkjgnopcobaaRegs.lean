/- Steps of drawn regions: reads of bytes, sums, rows that lie somewhere, rows of rows. No type of a layer is named. -/
import Derived.Test.YtmomkjgnopcobaaCut
import Derived.Test.YtmomkjgnopcobaaBits
import Derived.Test.YtmomkjgnopcobaaBoth
set_option linter.unusedVariables false
namespace Go.Proofs.Ytmomkjgnopcobaa.Regs
open Go.RowKit Go.Proofs.Ytmomkjgnopcobaa.Sums Go.Proofs.Ytmomkjgnopcobaa.Mem Go.Proofs.Ytmomkjgnopcobaa.Blk Go.Proofs.Ytmomkjgnopcobaa.Free Go.Proofs.Ytmomkjgnopcobaa.Steps Go.Proofs.Ytmomkjgnopcobaa.Bits

theorem cell_getD {w : World} {B b p n c : Nat} {l : List Int} (h : Holds w B (some ⟨b, p, none⟩) n c l) (i : Nat) (hi : i < n) : w.cell? ⟨b, p + i, none⟩ = some (.int .u8 (l.getD i 0)) := by
  obtain ⟨b', o', e, _, hc⟩ := h.2.2.2.2 (by omega)
  injection e with e
  injection e with e1 e2
  subst e1 e2
  have hz : l[i]? = some (l[i]'(by rw [h.1]; exact hi)) := List.getElem?_eq_getElem _
  rw [List.getD_eq_getElem?_getD, hz]
  exact hc i _ hz
theorem getD_in {l : List Int} (h : Bytes l) (i : Nat) : 0 ≤ l.getD i 0 ∧ l.getD i 0 ≤ 255 := by
  rw [List.getD_eq_getElem?_getD]
  cases e : l[i]? with
  | none => simp
  | some z => exact h z (List.mem_of_getElem? e)

theorem st_byte_at {o : Oper} {a : Act} {w : World} {K : Act → World → Prop} {Q : Exit → Act → World → Prop} (x y : Operand) (ho : o.op = .indexAddr 82 x y)
    (b p n c i : Nat) (hx : a.eval x = .slice (some ⟨b, p, none⟩) n c) (hy : a.eval y = .int .i64 (i : Int)) (hi : i < n)
    (h : K (a.put o.dst (.pointer (some ⟨b, p + i, none⟩))) w) : Step Try.prog o a w K Q := by
  refine wp_value (.pointer (some ⟨b, p + i, none⟩)) ?_ h
  obtain ⟨inf, hif, _, hsz, _⟩ := info_parts byte_info
  have h1 : (0 : Int) ≤ (i : Int) ∧ (i : Int) < (n : Int) := by omega
  simp [execOp, ho, hx, hy, Instr.indexAt, asIntOf, Sem.run_bind, run_underlying Try.underlying82 w, sizeOf, typeInfo, hif, hsz, h1, hi, Result.andThen, add_plain]
theorem conv_int (z : Int) (w : World) (h0 : 0 ≤ z) (h1 : z ≤ 255) : (convert 5 3 (.int .u8 z)).run Try.prog w = .ok (.int .i64 z) w := by
  have e : IntKind.i64.wrap z = z := IntWalk.i64_in _ (by omega)
  have u1 := Try.underlying3
  have u2 := Try.underlying5
  simp [convert, run_underlying u1, run_underlying u2, Conv.intToInt, e]
theorem conv_u8 (a : Int) (w : World) (h0 : 0 ≤ a) (h1 : a ≤ 255) : (convert 3 5 (.int .i64 a)).run Try.prog w = .ok (.int .u8 a) w := by
  have e : IntKind.u8.wrap a = a := by rw [IntKind.wrap_u8]; omega
  have u1 := Try.underlying3
  have u2 := Try.underlying5
  simp [convert, run_underlying u1, run_underlying u2, Conv.intToInt, e]
theorem b_add (a b : Int) (x y : Operand) (w : World) (h0 : -9223372036854775808 ≤ a + b) (h1 : a + b ≤ 9223372036854775807) : (do eqGuard .add 3 x y (.int .i64 a) (.int .i64 b); binOp .add 3 (.int .i64 a) (.int .i64 b) : Sem Value).run Try.prog w = .ok (.int .i64 (a + b)) w := by
  have e : IntKind.i64.wrap (a + b) = a + b := IntWalk.i64_in _ (by omega)
  simp [go_sem, eqGuard, e]
theorem b_mul (a b : Int) (x y : Operand) (w : World) (h0 : -9223372036854775808 ≤ a * b) (h1 : a * b ≤ 9223372036854775807) : (do eqGuard .mul 3 x y (.int .i64 a) (.int .i64 b); binOp .mul 3 (.int .i64 a) (.int .i64 b) : Sem Value).run Try.prog w = .ok (.int .i64 (a * b)) w := by
  have e : IntKind.i64.wrap (a * b) = a * b := IntWalk.i64_in _ (by omega)
  simp [go_sem, eqGuard, e]
theorem b_rem (a m : Int) (x y : Operand) (w : World) (h0 : 0 ≤ a) (h1 : a ≤ 9223372036854775807) (hm : 0 < m) : (do eqGuard .rem 3 x y (.int .i64 a) (.int .i64 m); binOp .rem 3 (.int .i64 a) (.int .i64 m) : Sem Value).run Try.prog w = .ok (.int .i64 (a % m)) w := by
  have e0 : a.tmod m = a % m := Int.tmod_eq_emod_of_nonneg h0
  have ne : ¬ m = 0 := by omega
  simp [go_sem, eqGuard, e0, ne]
theorem b_quo (a m : Int) (x y : Operand) (w : World) (h0 : 0 ≤ a) (h1 : a ≤ 9223372036854775807) (hm : 0 < m) : (do eqGuard .quo 3 x y (.int .i64 a) (.int .i64 m); binOp .quo 3 (.int .i64 a) (.int .i64 m) : Sem Value).run Try.prog w = .ok (.int .i64 (a / m)) w := by
  have e0 : a.tdiv m = a / m := Int.tdiv_eq_ediv_of_nonneg h0
  have l0 : 0 ≤ a / m := Int.ediv_nonneg h0 (by omega)
  have l1 : a / m ≤ a := Int.ediv_le_self m h0
  have e : IntKind.i64.wrap (a / m) = a / m := IntWalk.i64_in _ (by omega)
  have ne : ¬ m = 0 := by omega
  simp [go_sem, eqGuard, e0, e, ne]
theorem b_eql (a m : Int) (x y : Operand) (w : World) : (do eqGuard .eql 3 x y (.int .i64 a) (.int .i64 m); binOp .eql 3 (.int .i64 a) (.int .i64 m) : Sem Value).run Try.prog w = .ok (.bool (a == m)) w := by
  simp [go_sem, eqGuard]
theorem st_len {o : Oper} {a : Act} {w : World} {K : Act → World → Prop} {Q : Exit → Act → World → Prop} (x : Operand) (ho : o.op = .call { callee := .builtin .len, args := #[x], argTypes := #[9] }) (d : ByteArray) (hx : a.eval x = .string d) (hK : K (a.put o.dst (.int .i64 (d.size : Int))) w) : Step Try.prog o a w K Q := by
  have u := Try.underlying9
  have e : ∀ ty, (Builtin.len_ #[9] ty #[.string d]).run Try.prog w = .ok (.int .i64 (d.size : Int)) w := fun ty => by simp [go_sem]
  refine wp_value _ ?_ hK
  simp [execOp, ho, resolve, invoke, hx, builtin, e, Result.andThen]
theorem st_len_bytes {o : Oper} {a : Act} {w : World} {K : Act → World → Prop} {Q : Exit → Act → World → Prop} (x : Operand) (ho : o.op = .call { callee := .builtin .len, args := #[x], argTypes := #[82] }) (A : Option Addr) (n c : Nat) (hx : a.eval x = .slice A n c) (hK : K (a.put o.dst (.int .i64 (n : Int))) w) : Step Try.prog o a w K Q := by
  have u := Try.underlying82
  have e : ∀ ty, (Builtin.len_ #[82] ty #[.slice A n c]).run Try.prog w = .ok (.int .i64 (n : Int)) w := fun ty => by simp [go_sem]
  refine wp_value _ ?_ hK
  simp [execOp, ho, resolve, invoke, hx, builtin, e, Result.andThen]

/-- Shifts and bits, as sums. -/
theorem b_shl4 (a : Int) (x y : Operand) (w : World) (h0 : 0 ≤ a) (h1 : a ≤ 1048576) : (do eqGuard .shl 3 x y (.int .i64 a) (.int .u64 4); binOp .shl 3 (.int .i64 a) (.int .u64 4) : Sem Value).run Try.prog w = .ok (.int .i64 (a * 16)) w := by
  have e : IntKind.i64.wrap (a * 16) = a * 16 := IntWalk.i64_in _ (by omega)
  simp [go_sem, eqGuard, e]
theorem b_shl8 (a : Int) (x y : Operand) (w : World) (h0 : 0 ≤ a) (h1 : a ≤ 1048576) : (do eqGuard .shl 3 x y (.int .i64 a) (.int .u64 8); binOp .shl 3 (.int .i64 a) (.int .u64 8) : Sem Value).run Try.prog w = .ok (.int .i64 (a * 256)) w := by
  have e : IntKind.i64.wrap (a * 256) = a * 256 := IntWalk.i64_in _ (by omega)
  simp [go_sem, eqGuard, e]
theorem b_shl16 (a : Int) (x y : Operand) (w : World) (h0 : 0 ≤ a) (h1 : a ≤ 1048576) : (do eqGuard .shl 3 x y (.int .i64 a) (.int .u64 16); binOp .shl 3 (.int .i64 a) (.int .u64 16) : Sem Value).run Try.prog w = .ok (.int .i64 (a * 65536)) w := by
  have e : IntKind.i64.wrap (a * 65536) = a * 65536 := IntWalk.i64_in _ (by omega)
  simp [go_sem, eqGuard, e]
theorem b_shr8 (a : Int) (k : Nat) (x y : Operand) (w : World) (h0 : 0 ≤ a) (h1 : a ≤ 255) : (do eqGuard .shr 5 x y (.int .u8 a) (.int .u64 (4 : Int)); binOp .shr 5 (.int .u8 a) (.int .u64 (4 : Int)) : Sem Value).run Try.prog w = .ok (.int .u8 (a / 16)) w := by
  simp [go_sem, eqGuard]
theorem and_u8 {a : Int} (h0 : 0 ≤ a) (h1 : a ≤ 255) : bits .and .u8 a 15 = a % 16 := by
  have h : ∀ n : Fin 256, bits .and .u8 (n.val : Int) 15 = (n.val : Int) % 16 := by decide +kernel
  have := h ⟨a.toNat, by omega⟩
  simpa [Int.toNat_of_nonneg h0] using this
theorem b_and8 (a : Int) (x y : Operand) (w : World) (h0 : 0 ≤ a) (h1 : a ≤ 255) : (do eqGuard .and 5 x y (.int .u8 a) (.int .u8 15); binOp .and 5 (.int .u8 a) (.int .u8 15) : Sem Value).run Try.prog w = .ok (.int .u8 (a % 16)) w := by
  simp [go_sem, eqGuard, and_u8 h0 h1]
theorem b_or (a b c : Int) (x y : Operand) (w : World) (h : bits .or .i64 a b = c) : (do eqGuard .or 3 x y (.int .i64 a) (.int .i64 b); binOp .or 3 (.int .i64 a) (.int .i64 b) : Sem Value).run Try.prog w = .ok (.int .i64 c) w := by
  subst h
  kernel_rfl
/-- Bytes that lie somewhere. -/
def Lies (w : World) (v : Value) (k : Nat) (L : List Int) : Prop := ∃ A c, v = .slice A k c ∧ Holds w w.heap.size A k c L
theorem Lies.below {w w2 : World} {v : Value} {k : Nat} {L : List Int} (h : Lies w v k L) (hb : Below w.heap.size w w2) : Lies w2 v k L := by
  obtain ⟨A, c, e, x⟩ := h
  exact ⟨A, c, e, (x.below hb).more hb.size⟩
theorem all_below {w w2 : World} {b : Nat} {rs : List Both.Row} (h : Both.All w w.heap.size b rs) (k : Below w.heap.size w w2) : Both.All w2 w2.heap.size b rs :=
  ⟨Nat.lt_of_lt_of_le h.1 k.size, fun i r hi => ⟨keep_cell (h.2 i r hi).1 k, (((h.2 i r hi).2).below k).more k.size⟩⟩
theorem all_lit (w : World) (rs : List Both.Row) (cs : Array Value) (t : TypeId) (hc : cs.toList = rs.map fun r => Value.slice r.A r.n r.c) (h : ∀ r ∈ rs, Holds w w.heap.size r.A r.n r.c r.l) : Both.All (w.alloc (.cells cs t)) (w.alloc (.cells cs t)).heap.size w.heap.size rs := by
  have := Both.All.lit (Nat.le_refl _) rs cs t hc h
  simpa using this
theorem mem5 {P : Both.Row → Prop} {a b c d e : Both.Row} (h1 : P a) (h2 : P b) (h3 : P c) (h4 : P d) (h5 : P e) : ∀ r ∈ [a, b, c, d, e], P r := by
  intro r h
  simp only [List.mem_cons, List.not_mem_nil, or_false] at h
  rcases h with rfl | rfl | rfl | rfl | rfl
  · exact h1
  · exact h2
  · exact h3
  · exact h4
  · exact h5
theorem st_nums {o : Oper} {a : Act} {w : World} {K : Act → World → Prop} {Q : Exit → Act → World → Prop} (x : Operand) (ho : o.op = .convert 9 82 x) (s : ByteArray) (hx : a.eval x = .string s) (hs : s.size ≤ maxLen)
    (hK : ∀ v w', Lies w' v s.size (nums s) → Below w.heap.size w w' → K (a.put o.dst v) w') : Step Try.prog o a w K Q := by
  constructor
  obtain ⟨w', v, hr, ow, hb⟩ := run_bytes_string w s hs
  obtain ⟨A, c, rfl, hh⟩ := ow.slice
  have hr2 : (execOp a.eval o).run Try.prog w = .ok (.value (.slice A s.size c)) w' := by
    simp [execOp, ho, hx, hr, Result.andThen]
  unfold Oper.wp
  rw [hr2]
  exact hK _ _ ⟨A, c, rfl, hh⟩ hb
theorem run_slice8_2 (w : World) (u v : Int) : (Instr.buildSlice 82 2 #[(0, .int .u8 u), (1, .int .u8 v)]).run Try.prog w = .ok (.slice (some ⟨w.heap.size, 0, none⟩) 2 2) (w.alloc (.cells #[.int .u8 u, .int .u8 v] 5)) := by
  kernel_rfl
theorem st_slice8_2 {o : Oper} {a : Act} {w : World} {K : Act → World → Prop} {Q : Exit → Act → World → Prop} (x1 x2 : Operand) (ho : o.op = .buildSlice 82 2 #[(0, x1), (1, x2)]) (u1 u2 : Int) (h1 : a.eval x1 = .int .u8 u1) (h2 : a.eval x2 = .int .u8 u2)
    (a1 : 0 ≤ u1) (b1 : u1 ≤ 255) (a2 : 0 ≤ u2) (b2 : u2 ≤ 255)
    (hK : Lies (w.alloc (.cells #[.int .u8 u1, .int .u8 u2] 5)) (.slice (some ⟨w.heap.size, 0, none⟩) 2 2) 2 [u1, u2] → K (a.put o.dst (.slice (some ⟨w.heap.size, 0, none⟩) 2 2)) (w.alloc (.cells #[.int .u8 u1, .int .u8 u2] 5))) : Step Try.prog o a w K Q := by
  constructor
  have hr : (execOp a.eval o).run Try.prog w = .ok (.value (.slice (some ⟨w.heap.size, 0, none⟩) 2 2)) (w.alloc (.cells #[.int .u8 u1, .int .u8 u2] 5)) := by
    simp [execOp, ho, h1, h2, run_slice8_2 w, Result.andThen]
  unfold Oper.wp
  rw [hr]
  have HL := Holds.lit w [u1, u2] #[.int .u8 u1, .int .u8 u2] rfl (by simp [maxLen]) (fun y hy => by simp at hy; omega)
  exact hK ⟨_, _, rfl, by simpa using HL⟩
theorem mem4 {P : Both.Row → Prop} {a b c d : Both.Row} (h1 : P a) (h2 : P b) (h3 : P c) (h4 : P d) : ∀ r ∈ [a, b, c, d], P r := by
  intro r h
  simp only [List.mem_cons, List.not_mem_nil, or_false] at h
  rcases h with rfl | rfl | rfl | rfl
  · exact h1
  · exact h2
  · exact h3
  · exact h4
theorem lies_own {w : World} {base n : Nat} {v : Value} {l : List Int} (h : Owns w base v n l) : Lies w v n l := by
  obtain ⟨A, c, e, x⟩ := h.slice
  exact ⟨A, c, e, x⟩
end Go.Proofs.Ytmomkjgnopcobaa.Regs
