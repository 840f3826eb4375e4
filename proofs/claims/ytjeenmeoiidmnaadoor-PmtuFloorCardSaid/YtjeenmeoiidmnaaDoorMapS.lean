/- Steps for maps: looked up, stored into, cleared. No function is named. -/
import Derived.Test.YtjeenmeoiidmnaaDoorMapK
import Derived.Test.YtjeenmeoiidmnaaDoorSteps
import Derived.Laws.Tables
set_option linter.unusedVariables false
namespace Go.Proofs.YtjeenmeoiidmnaaDoor.MapS
open Go.RowKit Go.Proofs.YtjeenmeoiidmnaaDoor.Mem Go.Proofs.YtjeenmeoiidmnaaDoor.Blk Go.Proofs.YtjeenmeoiidmnaaDoor.Free Go.Proofs.YtjeenmeoiidmnaaDoor.Steps Go.Proofs.YtjeenmeoiidmnaaDoor.MapK
section
variable {o : Oper} {a : Act} {w : World} {K : Act → World → Prop} {Q : Exit → Act → World → Prop}
theorem st_lookup (mt : TypeId) (x y : Operand) (ho : o.op = .lookup mt x y true) (vx vy v : Value) (hx : a.eval x = vx) (hy : a.eval y = vy) (hr : (Instr.lookup mt vx vy true).run Tryd.prog w = .ok v w) (hK : K (a.put o.dst v) w) : Step Tryd.prog o a w K Q :=
  wp_value v (by simp [execOp, ho, hx, hy, hr, Result.andThen]) hK
theorem st_update (mt : TypeId) (x y z : Operand) (ho : o.op = .mapUpdate mt x y z) (vx vy vz : Value) (hx : a.eval x = vx) (hy : a.eval y = vy) (hz : a.eval z = vz) (w' : World) (hr : (Instr.mapUpdate mt vx vy vz).run Tryd.prog w = .ok () w') (hK : K (a.put o.dst undef) w') : Step Tryd.prog o a w K Q := by
  constructor
  unfold Oper.wp execOp
  simp only [ho, hx, hy, hz, Sem.run_bind, hr, Result.andThen_ok]
  exact hK
theorem st_extract (x : Operand) (i : Nat) (ho : o.op = .extract x i) (vs : Array Value) (v : Value) (hx : a.eval x = .tuple vs) (hv : vs[i]? = some v) (hK : K (a.put o.dst v) w) : Step Tryd.prog o a w K Q :=
  wp_value v (by simp [execOp, ho, hx, Instr.extract, hv]) hK
theorem st_nil (x : Operand) (ho : o.op = .nilCheck x) (ad : Addr) (hx : a.eval x = .pointer (some ad)) (hK : K (a.put o.dst (.pointer (some ad))) w) : Step Tryd.prog o a w K Q :=
  wp_value _ (by simp [execOp, ho, hx]) hK
end
theorem wpList_clear {ops : Array Oper} {rest : List Oper} {o : Oper} {a : Act} {w : World} {Q : Exit → Act → World → Prop} (hw : Region.wanted o (yielded ops a.tmps) = true) (mt : TypeId) (x : Operand) (ho : o.op = .call { callee := .builtin .clear, args := #[x], argTypes := #[mt] }) (v : Value) (hx : a.eval x = v) (w' : World)
    (hr : ∀ ty, (Builtin.clear_ #[mt] ty #[v]).run Tryd.prog w = .ok (.tuple #[]) w') (h : wpList Tryd.prog ops Q rest (a.put o.dst (.tuple #[])) w') : wpList Tryd.prog ops Q (o :: rest) a w :=
  wpList_step fun K hK => by
    rw [if_pos hw]
    unfold Oper.wp execOp
    simp only [ho]
    simp [resolve, invoke, hx, builtin, hr, Result.andThen]
    exact hK _ _ h
/-- All blocks below S0 stay; the block S0, once it is there, stays or holds X. -/
structure OnlyNew (S0 : Nat) (t : TypeId) (X : Array Value) (w1 w2 : World) : Prop where
  os : w2.os = w1.os
  tape : w2.tape = w1.tape
  output : w2.output = w1.output
  size : w1.heap.size ≤ w2.heap.size
  block : ∀ k, k < S0 → w2.heap[k]? = w1.heap[k]?
  new : S0 < w1.heap.size → w2.heap[S0]? = w1.heap[S0]? ∨ w2.heap[S0]? = some (.cells X t (0, 0))
theorem OnlyNew.refl {S0 : Nat} {t : TypeId} {X : Array Value} (w : World) : OnlyNew S0 t X w w := ⟨rfl, rfl, rfl, Nat.le_refl _, fun _ _ => rfl, fun _ => .inl rfl⟩
theorem OnlyNew.trans {S0 : Nat} {t : TypeId} {X : Array Value} {w1 w2 w3 : World} (h : OnlyNew S0 t X w1 w2) (k : OnlyNew S0 t X w2 w3) : OnlyNew S0 t X w1 w3 :=
  ⟨k.os.trans h.os, k.tape.trans h.tape, k.output.trans h.output, Nat.le_trans h.size k.size, fun i hi => (k.block i hi).trans (h.block i hi), fun hs => by
    rcases k.new (Nat.lt_of_lt_of_le hs h.size) with q | q
    · exact (h.new hs).imp (fun z => q.trans z) (fun z => q.trans z)
    · exact .inr q⟩
theorem OnlyNew.below {S0 : Nat} {t : TypeId} {X : Array Value} {w1 w2 : World} (h : OnlyNew S0 t X w1 w2) : Below S0 w1 w2 := ⟨h.os, h.tape, h.output, h.size, h.block⟩
theorem OnlyNew.alloc {S0 : Nat} {t : TypeId} {X : Array Value} {w : World} (h : w.heap.size = S0) (o : Obj) : OnlyNew S0 t X w (w.alloc o) :=
  ⟨rfl, rfl, rfl, by simp, fun k hk => Below.heap_alloc w o k (by omega), fun hs => by omega⟩
theorem OnlyNew.row {S0 : Nat} {t : TypeId} {X old : Array Value} {w : World} (h : Blk w S0 t old) : OnlyNew S0 t X w (w.setRow S0 X) :=
  ⟨rfl, rfl, rfl, by simp [World.setRow], fun k hk => setRow_other w S0 k X (by omega), fun _ => .inr (setRow_heap _ _ _ _ _ _ h)⟩
/-- A block made in a drawn region. -/
theorem st_alloc {o : Oper} {a : Act} {w : World} {K : Act → World → Prop} {Q : Exit → Act → World → Prop} (ty : TypeId) (ho : o.op = .alloc ty) (Z : Array Value) (hr : ∀ w, (Instr.alloc ty true (.tuple #[])).run Tryd.prog w = .ok (.pointer (some ⟨w.heap.size, 0, none⟩)) (w.alloc (.cells Z ty)))
    (hK : K (a.put o.dst (.pointer (some ⟨w.heap.size, 0, none⟩))) (w.alloc (.cells Z ty))) : Step Tryd.prog o a w K Q := by
  have h : (execOp a.eval o).run Tryd.prog w = .ok (.value (.pointer (some ⟨w.heap.size, 0, none⟩))) (w.alloc (.cells Z ty)) := by
    simp [execOp, ho, hr w, Result.andThen]
  constructor
  unfold Oper.wp
  rw [h]
  exact hK
end Go.Proofs.YtjeenmeoiidmnaaDoor.MapS
