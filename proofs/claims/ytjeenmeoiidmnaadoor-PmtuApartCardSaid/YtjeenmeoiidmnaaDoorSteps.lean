/- Steps of a region whose order is open: a call by its contract, an append, the making of a row. -/
import Derived.Test.YtjeenmeoiidmnaaDoorAppend
import Derived.Test.YtjeenmeoiidmnaaDoorFree
import Derived.Shelf.Abstract
import Derived.Laws.Tables
namespace Go.Proofs.YtjeenmeoiidmnaaDoor.Steps
open Go.RowKit Go.Proofs.YtjeenmeoiidmnaaDoor.Sums Go.Proofs.YtjeenmeoiidmnaaDoor.Mem Go.Proofs.YtjeenmeoiidmnaaDoor.Free

/-- A call of a function of the program, by its contract. -/
theorem wp_call {o : Oper} {a : Act} {w : World} {K : Act → World → Prop} {Q : Exit → Act → World → Prop} (f : FuncId) (xs : List Operand) (ts : Array TypeId) (ho : o.op = .call { callee := .value (.func f), args := xs.toArray, argTypes := ts })
    (he : Enters Tryd.prog f) (vs : List Value) (hv : xs.map a.eval = vs)
    (R : Value → World → Prop) (h : Calls Tryd.prog f vs.toArray w fun e w' => ∃ v, e = .returned v ∧ R v w') (hK : ∀ v w', R v w' → K (a.put o.dst v) w') : Step Tryd.prog o a w K Q := by
  constructor
  have hr : (execOp a.eval o).run Tryd.prog w = .ok (.enter f vs.toArray) w := by
    have e := he vs.toArray w
    have ef : a.eval (.func f) = .func (.func f) #[] #[] := rfl
    simp only [execOp, ho, resolve, Deferred.ofValue, invoke, Sem.run_bind, Sem.run_pure, Result.andThen_ok, List.map_toArray, hv, ef, Array.empty_append, Array.append_empty]
    exact e
  unfold Oper.wp
  rw [hr]
  refine h.mono fun e w' ⟨v, he, hR⟩ => ?_
  subst he
  exact hK v w' hR

def plainB : TypeDesc → Bool
  | .struct _ => false
  | .array _ _ => false
  | _ => true
theorem not_agg {ty : TypeId} {d : TypeDesc} (hd : Tryd.prog.underlying ty = some d) (hp : plainB d = true) (w : World) : (isAgg ty).run Tryd.prog w = .ok false w := by
  cases d <;> simp_all [isAgg, run_underlying hd, plainB]

/-- A field's address. -/
theorem wp_field {o : Oper} {a : Act} {w : World} {K : Act → World → Prop} {Q : Exit → Act → World → Prop} {ty : TypeId} {k : Nat} (x : Operand) (ho : o.op = .fieldAddr ty x k) (v u : Value) (hx : a.eval x = v)
    (hr : (Instr.fieldAt ty v k).run Tryd.prog w = .ok u w) (hK : K (a.put o.dst u) w) : Step Tryd.prog o a w K Q := by
  refine wp_value u ?_ hK
  simp [execOp, ho, hx, hr, Result.andThen]

theorem wp_move {o : Oper} {a : Act} {w : World} {K : Act → World → Prop} {Q : Exit → Act → World → Prop} (x : Operand) (ho : o.op = .move x) (v : Value) (hx : a.eval x = v) (hK : K (a.put o.dst v) w) : Step Tryd.prog o a w K Q :=
  wp_value v (by simp [execOp, ho, hx]) hK
theorem wp_bin {o : Oper} {a : Act} {w : World} {K : Act → World → Prop} {Q : Exit → Act → World → Prop} {op : BinOp} {ty ty2 : TypeId} (x y : Operand) (ho : o.op = .binOp op ty x y ty2) (vx vy v : Value) (hx : a.eval x = vx) (hy : a.eval y = vy)
    (hr : (do eqGuard op ty x y vx vy; binOp op ty vx vy : Sem Value).run Tryd.prog w = .ok v w) (hK : K (a.put o.dst v) w) : Step Tryd.prog o a w K Q := by
  refine wp_value v ?_ hK
  simp only [execOp, ho, hx, hy]
  rw [Sem.run_bind, hr]
  rfl
theorem wp_slice {o : Oper} {a : Act} {w : World} {K : Act → World → Prop} {Q : Exit → Act → World → Prop} {ty : TypeId} {lo hi mx : Option Operand} (x : Operand) (ho : o.op = .slice ty x lo hi mx) (vx v : Value) (vl vh vm : Option Value) (hx : a.eval x = vx) (hl : lo.map a.eval = vl) (hh : hi.map a.eval = vh) (hm : mx.map a.eval = vm)
    (hr : (Instr.sliceAt ty vx vl vh vm).run Tryd.prog w = .ok v w) (hK : K (a.put o.dst v) w) : Step Tryd.prog o a w K Q := by
  refine wp_value v ?_ hK
  simp only [execOp, ho, hx, hl, hh, hm]
  rw [Sem.run_bind, hr]
  rfl
theorem run_and (z m : Int) (x y : Operand) (w : World) : (do eqGuard .and 3 x y (.int .i64 z) (.int .i64 m); binOp .and 3 (.int .i64 z) (.int .i64 m) : Sem Value).run Tryd.prog w = .ok (.int .i64 (bits .and .i64 z m)) w := by kernel_rfl
theorem run_neq (z m : Int) (x y : Operand) (w : World) : (do eqGuard .neq 3 x y (.int .i64 z) (.int .i64 m); binOp .neq 3 (.int .i64 z) (.int .i64 m) : Sem Value).run Tryd.prog w = .ok (.bool (z != m)) w := by
  simp [go_sem, eqGuard]
theorem run_mul (z m : Int) (x y : Operand) (w : World) : (do eqGuard .mul 3 x y (.int .i64 z) (.int .i64 m); binOp .mul 3 (.int .i64 z) (.int .i64 m) : Sem Value).run Tryd.prog w = .ok (.int .i64 (IntKind.i64.wrap (z * m))) w := by kernel_rfl
theorem wp_conv {o : Oper} {a : Act} {w : World} {K : Act → World → Prop} {Q : Exit → Act → World → Prop} {t1 t2 : TypeId} (x : Operand) (ho : o.op = .convert t1 t2 x) (vx v : Value) (hx : a.eval x = vx) (hr : (convert t1 t2 vx).run Tryd.prog w = .ok v w) (hK : K (a.put o.dst v) w) : Step Tryd.prog o a w K Q :=
  wp_value v (by simp [execOp, ho, hx, hr, Result.andThen]) hK

/-- A load of one cell. -/
theorem wp_load1 {o : Oper} {a : Act} {w : World} {K : Act → World → Prop} {Q : Exit → Act → World → Prop} {ty : TypeId} {d : TypeDesc} (x : Operand) (ho : o.op = .load ty x) (ad : Addr) (hx : a.eval x = .pointer (some ad))
    (hd : Tryd.prog.underlying ty = some d) (hp : plainB d = true) (v : Value) (hc : w.cell? ad = some v) (hK : K (a.put o.dst v) w) : Step Tryd.prog o a w K Q := by
  refine wp_value v ?_ hK
  simp [execOp, ho, hx, Instr.loadAt, Instr.sureAddr, loadVar, not_agg hd hp, Result.andThen, hc]

theorem wp_append_bytes {o : Oper} {a : Act} {w : World} {K : Act → World → Prop} {Q : Exit → Act → World → Prop} (s x : Operand)
    (ho : o.op = .call { callee := .builtin .append, args := #[s, x], argTypes := #[60, 60] })
    (base : Nat) (v : Value) (n : Nat) (l : List Int) (hs : a.eval s = v) (h : Owns w base v n l) (B : Nat) (A : Option Addr) (m c : Nat) (k : List Int) (hx : a.eval x = .slice A m c) (hk : Holds w B A m c k)
    (hsm : n + m ≤ 1048576) (hbase : base ≤ w.heap.size)
    (hK : ∀ v' w', Owns w' base v' (n + m) (l ++ k) → w.grownBy w' v.ownBlock → K (a.put o.dst v') w') : Step Tryd.prog o a w K Q := by
  constructor
  obtain ⟨v', w', hr, h2, h3, h4⟩ := run_append_bytes w o.type base v n l h B A m c k hk hsm hbase
  unfold Oper.wp execOp
  simp only [ho, resolve, invoke, builtin, Sem.run_bind, Sem.run_pure, Result.andThen_ok, List.map_toArray, List.map_cons, List.map_nil, hs, hx, hr]
  exact hK _ _ h2 h3

theorem wp_append_text {o : Oper} {a : Act} {w : World} {K : Act → World → Prop} {Q : Exit → Act → World → Prop} (x y : Operand)
    (ho : o.op = .call { callee := .builtin .append, args := #[x, y], argTypes := #[60, 9] })
    (base : Nat) (v : Value) (n : Nat) (l : List Int) (hv : a.eval x = v) (h : Owns w base v n l) (s : ByteArray) (hy : a.eval y = .string s) (hsm : n + s.size ≤ 1048576) (hbase : base ≤ w.heap.size)
    (hK : ∀ v' w', Owns w' base v' (n + s.size) (l ++ nums s) → w.grownBy w' v.ownBlock → K (a.put o.dst v') w') : Step Tryd.prog o a w K Q := by
  constructor
  obtain ⟨v', w', hr, h2, h3, h4⟩ := run_append_text w o.type base v n l h s hsm hbase
  unfold Oper.wp execOp
  simp only [ho, resolve, invoke, builtin, Sem.run_bind, Sem.run_pure, Result.andThen_ok, List.map_toArray, List.map_cons, List.map_nil, hv, hy, hr]
  exact hK _ _ h2 h3

/-- A load of a whole struct or array. -/
theorem st_load_row {o : Oper} {a : Act} {w : World} {K : Act → World → Prop} {Q : Exit → Act → World → Prop} (ty : TypeId) (x : Operand) (ho : o.op = .load ty x)
    (g : Nat) (hx : a.eval x = .pointer (some ⟨g, 0, none⟩)) (t : TypeId) (cs : Array Value) (fr : Nat × Nat) (d : TypeDesc) (hg : w.heap[g]? = some (.cells cs t fr))
    (hu : Tryd.prog.underlying ty = some d) (hd : plainB d = false) (hi : (Tryd.prog.info? ty).map (·.size) = some cs.size)
    (h : K (a.put o.dst (.agg cs)) w) : Step Tryd.prog o a w K Q :=
  ⟨wp_load_row ty x ho g hx t cs fr d hg hu (by cases d <;> simp_all [plainB]) hi h⟩

theorem st_store_row {o : Oper} {a : Act} {w : World} {K : Act → World → Prop} {Q : Exit → Act → World → Prop} (ty : TypeId) (x y : Operand) (ho : o.op = .store ty x y)
    (g : Nat) (cells : Array Value) (hx : a.eval x = .pointer (some ⟨g, 0, none⟩)) (hy : a.eval y = .agg cells) (t : TypeId) (old : Array Value) (hg : w.heap[g]? = some (.cells old t (0, 0))) (hi : (Tryd.prog.info? ty).map (·.size) = some cells.size)
    (hold : old.size = cells.size) (h1 : cells.all (·.oneCell') = true) (h : K (a.put o.dst undef) (w.setRow g cells)) : Step Tryd.prog o a w K Q :=
  ⟨wp_store_row ty x y ho g cells hx hy t old hg hi hold h1 h⟩
theorem st_build {o : Oper} {a : Act} {w : World} {K : Act → World → Prop} {Q : Exit → Act → World → Prop} {ty : TypeId} (ps : List (Nat × Operand)) (ho : o.op = .build ty ps.toArray) (qs : List (Nat × Value)) (hp : ps.map (fun q => (q.1, a.eval q.2)) = qs) (v : Value)
    (hr : (Instr.build ty qs.toArray).run Tryd.prog w = .ok v w) (hK : K (a.put o.dst v) w) : Step Tryd.prog o a w K Q := by
  refine wp_value v ?_ hK
  simp only [execOp, ho, List.map_toArray]
  have e : List.map (fun x : Nat × Operand => match x with | (i, x) => (i, a.eval x)) ps = qs := hp
  rw [e, Sem.run_bind, hr]
  rfl

end Go.Proofs.YtjeenmeoiidmnaaDoor.Steps
