/- Steps for drawn regions 'awake() && ..'. No function is named. -/
import Derived.Test.YtjeenmeoiidmnaaDoorCom
set_option linter.unusedVariables false
namespace Go.Proofs.YtjeenmeoiidmnaaDoor.Draw
open Go.RowKit Go.Proofs.YtjeenmeoiidmnaaDoor.Mem Go.Proofs.YtjeenmeoiidmnaaDoor.Blk Go.Proofs.YtjeenmeoiidmnaaDoor.Free Go.Proofs.YtjeenmeoiidmnaaDoor.Steps Go.Proofs.YtjeenmeoiidmnaaDoor.Sums

theorem st_pick {o : Oper} {a : Act} {w : World} {K : Act → World → Prop} {Q : Exit → Act → World → Prop} (c x y : Operand) (ho : o.op = .pick c x y) (v : Value) (hc : a.eval c = .bool true) (hx : a.eval x = v) (hK : K (a.put o.dst v) w) : Step Tryd.prog o a w K Q :=
  wp_value v (by simp [execOp, ho, hc, hx, asBool]) hK
theorem st_not {o : Oper} {a : Act} {w : World} {K : Act → World → Prop} {Q : Exit → Act → World → Prop} {t : TypeId} (x : Operand) (ho : o.op = .unOp .not t x) (b : Bool) (hx : a.eval x = .bool b) (hK : K (a.put o.dst (.bool (!b))) w) : Step Tryd.prog o a w K Q :=
  wp_value (.bool (!b)) (by simp [execOp, ho, hx, Op.unary]) hK
theorem b_eqs (s : ByteArray) (x y : Operand) (w : World) : (do eqGuard .eql 9 x y (.string s) (.string s); binOp .eql 9 (.string s) (.string s) : Sem Value).run Tryd.prog w = .ok (.bool true) w := by
  simp [go_sem, eqGuard]
theorem b_eqb (a : Bool) (x y : Operand) (w : World) : (do eqGuard .eql 4 x y (.bool a) (.bool a); binOp .eql 4 (.bool a) (.bool a) : Sem Value).run Tryd.prog w = .ok (.bool true) w := by
  simp [go_sem, eqGuard]
theorem b_eqe (a : Int) (x y : Operand) (w : World) : (do eqGuard .eql 32 x y (.int .i64 a) (.int .i64 a); binOp .eql 32 (.int .i64 a) (.int .i64 a) : Sem Value).run Tryd.prog w = .ok (.bool true) w := by
  simp [go_sem, eqGuard]
theorem b_eqi (a : Int) (x y : Operand) (w : World) : (do eqGuard .eql 3 x y (.int .i64 a) (.int .i64 a); binOp .eql 3 (.int .i64 a) (.int .i64 a) : Sem Value).run Tryd.prog w = .ok (.bool true) w := by
  simp [go_sem, eqGuard]
/-- A struct compared with itself. -/
theorem b_agg (t : TypeId) (cs : Array Value) (hg : Tryd.prog.eqGuardType Tryd.prog.depth t = false) (r : Bool) (he : ∀ w, (Op.equalIn 10000 t (.agg cs) (.agg cs)).run Tryd.prog w = .ok r w) (hr : r = true) (x y : Operand) (w : World) :
    (do eqGuard .eql t x y (.agg cs) (.agg cs); binOp .eql t (.agg cs) (.agg cs) : Sem Value).run Tryd.prog w = .ok (.bool true) w := by
  have h1 : (eqGuard .eql t x y (.agg cs) (.agg cs)).run Tryd.prog w = .ok () w := run_eqGuard_agg w _ _ _ _ _ _ hg
  rw [Sem.run_bind, h1, Result.andThen_ok, run_eql_struct, he w, hr]
  rfl
theorem list1 {f : Operand → Value} {x : Operand} {u : Value} (h1 : f x = u) : [x].map f = [u] := by simp [h1]
theorem list2 {f : Operand → Value} {x y : Operand} {u v : Value} (h1 : f x = u) (h2 : f y = v) : [x, y].map f = [u, v] := by simp [h1, h2]
theorem below_1 {w w' : World} (h : Below w.drew.heap.size w.drew w') : Below w.heap.size w w' := (below_drewN (Below.refl w.heap.size w) 1).trans h
/-- A literal of bytes lies there. -/
theorem lit_holds (w : World) (l : List Int) (cs : Array Value) (fz : Nat × Nat) (n g : Nat) (hc : cs = (l.map fun z => Value.int .u8 z).toArray) (hb : Bytes l) (hn : l.length = n) (hg : w.heap.size = g) (hm : n ≤ 1048576) : Holds (w.alloc (.cells cs 5 fz)) (g + 1) (some ⟨g, 0, none⟩) n n l := by
  subst hc hn hg
  refine ⟨rfl, Nat.le_refl _, by simp only [maxLen]; omega, hb, fun _ => ⟨w.heap.size, 0, rfl, by omega, fun j z hz => ?_⟩⟩
  rw [Nat.zero_add, cell_of_row _ w.heap.size j _ 5 fz (heap_alloc_new w _)]
  simp [hz]
end Go.Proofs.YtjeenmeoiidmnaaDoor.Draw
