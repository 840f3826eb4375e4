/- Steps for drawn regions over routes. -/
import Derived.Test.YtnabjhdamofpgaaTabD
import Derived.Test.YtnabjhdamofpgaaM03
import Derived.Test.YtnabjhdamofpgaaFreeO
set_option linter.unusedVariables false
namespace Go.Proofs.Ytnabjhdamofpgaa.TabOps
open Go.RowKit Go.PlainAid Go.Proofs.Ytnabjhdamofpgaa.Sums Go.Proofs.Ytnabjhdamofpgaa.Mem Go.Proofs.Ytnabjhdamofpgaa.Blk Go.Proofs.Ytnabjhdamofpgaa.Grp Go.Proofs.Ytnabjhdamofpgaa.AdrD Go.Proofs.Ytnabjhdamofpgaa.AdrR Go.Proofs.Ytnabjhdamofpgaa.Steps Go.Proofs.Ytnabjhdamofpgaa.Com Go.Proofs.Ytnabjhdamofpgaa.RowN Go.Proofs.Ytnabjhdamofpgaa.RowA Go.Proofs.Ytnabjhdamofpgaa.ArgT Go.Proofs.Ytnabjhdamofpgaa.TabD Go.Proofs.Ytnabjhdamofpgaa.Free
theorem blk_part {w : World} {g : Nat} {t : TypeId} {cs : Array Value} (h : Blk w g t cs) (k m : Nat) : Part.At w g k ((cs.toList.drop k).take m) := fun j v hv => by
  rw [h.cell]
  rw [List.getElem?_take] at hv
  split at hv
  · rw [List.getElem?_drop] at hv
    simpa using hv
  · cases hv
/-- A store of what lies there already: the world stays. -/
theorem same_one {w : World} {g p : Nat} {t ty : TypeId} {cs : Array Value} {u : Value} (h : Blk w g t cs) (hi : (Try.prog.info? ty).map (·.size) = some 1) (hu : cs[p]? = some u) (h1 : u.oneCell' = true) (hc : u.cells = #[u]) : (storeVar ty ⟨g, p, none⟩ u).run Try.prog w = .ok () w := by
  have hp : p < cs.size := (Array.getElem?_eq_some_iff.1 hu).1
  have e : cs.setIfInBounds p u = cs := by
    apply Array.ext (by simp)
    intro j hj hj'
    rw [Array.getElem_setIfInBounds]
    split
    · rename_i e
      subst e
      exact ((Array.getElem?_eq_some_iff.1 hu).2).symm
    · rfl
  have := Store.run_store_one h hp hi h1 cs e hc
  rwa [setRow_self w g cs t (0, 0) h] at this
theorem set_same {cs : Array Value} {p : Nat} {u : Value} (hu : cs[p]? = some u) : cs.setIfInBounds p u = cs := by
  apply Array.ext (by simp)
  intro j hj hj'
  rw [Array.getElem_setIfInBounds]
  split
  · rename_i e
    subst e
    exact ((Array.getElem?_eq_some_iff.1 hu).2).symm
  · rfl
theorem same_two {w : World} {g p : Nat} {t ty : TypeId} {cs : Array Value} {u v : Value} (h : Blk w g t cs) (hi : (Try.prog.info? ty).map (·.size) = some 2) (hu : cs[p]? = some u) (hv : cs[p + 1]? = some v) (h1 : u.oneCell' = true) (h2 : v.oneCell' = true) : (storeVar ty ⟨g, p, none⟩ (.agg #[u, v])).run Try.prog w = .ok () w := by
  have hp : p + 1 < cs.size := (Array.getElem?_eq_some_iff.1 hv).1
  have := Store.run_store_two h hp hi h1 h2 cs (by rw [set_same hu, set_same hv])
  rwa [setRow_self w g cs t (0, 0) h] at this
theorem st_same {o : Oper} {a : Act} {w : World} {K : Act → World → Prop} {Q : Exit → Act → World → Prop} (ty : TypeId) (x y : Operand) (ho : o.op = .store ty x y) (ad : Addr) (hx : a.eval x = .pointer (some ad)) (v : Value) (hy : a.eval y = v)
    (hr : (storeVar ty ad v).run Try.prog w = .ok () w) (hK : K (a.put o.dst undef) w) : Step Try.prog o a w K Q := by
  constructor
  unfold Oper.wp execOp
  simp only [ho, hx, hy, Instr.storeAt, Instr.sureAddr, Sem.run_bind, Sem.run_pure, Result.andThen_ok, hr]
  exact hK
theorem st_lenT {o : Oper} {a : Act} {w : World} {K : Act → World → Prop} {Q : Exit → Act → World → Prop} {tS tE : TypeId} (hu : Try.prog.underlying tS = some (.slice tE)) (x : Operand) (ho : o.op = .call { callee := .builtin .len, args := #[x], argTypes := #[tS] }) (A : Option Addr) (n c : Nat) (hx : a.eval x = .slice A n c) (hK : K (a.put o.dst (.int .i64 (n : Int))) w) : Step Try.prog o a w K Q := by
  refine wp_value _ ?_ hK
  simp [execOp, ho, resolve, invoke, hx, builtin, Builtin.len_, run_underlying hu, goInt, Result.andThen]
theorem st_pickF {o : Oper} {a : Act} {w : World} {K : Act → World → Prop} {Q : Exit → Act → World → Prop} (c x y : Operand) (ho : o.op = .pick c x y) (v : Value) (hc : a.eval c = .bool false) (hy : a.eval y = v) (hK : K (a.put o.dst v) w) : Step Try.prog o a w K Q :=
  wp_value v (by simp [execOp, ho, hc, hy, asBool]) hK
theorem b_lssi (a b : Int) (r : Bool) (h : decide (a < b) = r) (x y : Operand) (w : World) : (do eqGuard .lss 3 x y (.int .i64 a) (.int .i64 b); binOp .lss 3 (.int .i64 a) (.int .i64 b) : Sem Value).run Try.prog w = .ok (.bool r) w := by
  subst h
  simp [go_sem, eqGuard]
theorem b_gtri (a b : Int) (r : Bool) (h : decide (b < a) = r) (x y : Operand) (w : World) : (do eqGuard .gtr 3 x y (.int .i64 a) (.int .i64 b); binOp .gtr 3 (.int .i64 a) (.int .i64 b) : Sem Value).run Try.prog w = .ok (.bool r) w := by
  subst h
  simp [go_sem, eqGuard]
theorem b_neqi (a b : Int) (r : Bool) (h : (a != b) = r) (x y : Operand) (w : World) : (do eqGuard .neq 3 x y (.int .i64 a) (.int .i64 b); binOp .neq 3 (.int .i64 a) (.int .i64 b) : Sem Value).run Try.prog w = .ok (.bool r) w := by
  subst h
  simp [go_sem, eqGuard]
theorem eq_pf (a b : ByteArray) (m n : Int) (w : World) : (Op.equalIn 10000 31 (.agg #[.string a, .int .i64 m]) (.agg #[.string b, .int .i64 n])).run Try.prog w = .ok (decide (a = b) && decide (m = n)) w := by
  have := EqR.eq_Prefix 9998 a m b n w
  simpa using this
theorem guard_pf : Try.prog.eqGuardType Try.prog.depth 31 = false := by kernel_rfl
theorem b_eqP (a b : ByteArray) (m n : Int) (r : Bool) (h : (decide (a = b) && decide (m = n)) = r) (x y : Operand) (w : World) : (do eqGuard .eql 31 x y (.agg #[.string a, .int .i64 m]) (.agg #[.string b, .int .i64 n]); binOp .eql 31 (.agg #[.string a, .int .i64 m]) (.agg #[.string b, .int .i64 n]) : Sem Value).run Try.prog w = .ok (.bool r) w := by
  subst h
  have hg : (eqGuard .eql 31 x y (.agg #[.string a, .int .i64 m]) (.agg #[.string b, .int .i64 n])).run Try.prog w = .ok () w := run_eqGuard_agg w _ _ _ _ _ _ guard_pf
  rw [Sem.run_bind, hg, Result.andThen_ok, run_eql_struct, eq_pf a b m n w]
  rfl
end Go.Proofs.Ytnabjhdamofpgaa.TabOps
