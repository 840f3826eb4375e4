/- Parts of a struct that lies in a block: stored by themselves. No function is named. -/
import Derived.Test.YtjeenmeoiidmnaaDoorCom
import Derived.Laws.Tables
set_option linter.unusedVariables false
namespace Go.Proofs.YtjeenmeoiidmnaaDoor.Store
open Go.RowKit Go.Proofs.YtjeenmeoiidmnaaDoor.Mem Go.Proofs.YtjeenmeoiidmnaaDoor.Blk Go.Proofs.YtjeenmeoiidmnaaDoor.Free

theorem setCell_row {w : World} {g : Nat} {t : TypeId} {cs : Array Value} (h : Blk w g t cs) (p : Nat) (u : Value) : w.setCell ⟨g, p, none⟩ u = w.setRow g (cs.setIfInBounds p u) := by
  have hlt : g < w.heap.size := (Array.getElem?_eq_some_iff.1 h).1
  have hv : w.heap[g] = .cells cs t (0, 0) := (Array.getElem?_eq_some_iff.1 h).2
  unfold World.setCell World.setRow
  congr 1
  apply Array.ext (by simp)
  intro i h1 h2
  rw [Array.getElem_modify, Array.getElem_modify]
  by_cases e : g = i
  · subst e
    simp [hv]
  · simp [e]
theorem setRow_row {w : World} {g : Nat} {t : TypeId} {cs : Array Value} (h : Blk w g t cs) (a b : Array Value) : (w.setRow g a).setRow g b = w.setRow g b := by
  have hlt : g < w.heap.size := (Array.getElem?_eq_some_iff.1 h).1
  have hv : w.heap[g] = .cells cs t (0, 0) := (Array.getElem?_eq_some_iff.1 h).2
  unfold World.setRow
  congr 1
  apply Array.ext (by simp)
  intro i h1 h2
  simp only [Array.getElem_modify]
  by_cases e : g = i
  · subst e
    simp [hv]
  · simp [e]
theorem run_store_one {w : World} {g p : Nat} {t ty : TypeId} {cs : Array Value} {u : Value} (h : Blk w g t cs) (hp : p < cs.size) (hi : (Tryd.prog.info? ty).map (·.size) = some 1) (h1 : u.oneCell' = true) (new : Array Value) (hn : cs.setIfInBounds p u = new) (hu : u.cells = #[u]) :
    (storeVar ty ⟨g, p, none⟩ u).run Tryd.prog w = .ok () (w.setRow g new) := by
  subst hn
  obtain ⟨i, hq, hs⟩ : ∃ i, Tryd.prog.info? ty = some i ∧ i.size = 1 := by
    cases hq : Tryd.prog.info? ty with
    | none => simp [hq] at hi
    | some i => exact ⟨i, rfl, by simpa [hq] using hi⟩
  have hz : (sizeOf ty).run Tryd.prog w = .ok 1 w := by simp [sizeOf, typeInfo, hq, hs]
  have hc : w.cell? ⟨g, p, none⟩ = some cs[p] := (h.cell p).trans (Array.getElem?_eq_getElem hp)
  have hf := h.frozen p
  rw [← setCell_row h]
  simp [storeVar, hu, storeCells, Addr.add, hz, Result.andThen]
  rw [run_store Tryd.prog w _ _ _ h1]
  simp [hc, hf]
theorem run_store_two {w : World} {g p : Nat} {t ty : TypeId} {cs : Array Value} {u v : Value} (h : Blk w g t cs) (hp : p + 1 < cs.size) (hi : (Tryd.prog.info? ty).map (·.size) = some 2) (h1 : u.oneCell' = true) (h2 : v.oneCell' = true) (new : Array Value) (hn : (cs.setIfInBounds p u).setIfInBounds (p + 1) v = new) :
    (storeVar ty ⟨g, p, none⟩ (.agg #[u, v])).run Tryd.prog w = .ok () (w.setRow g new) := by
  subst hn
  obtain ⟨i, hq, hs⟩ : ∃ i, Tryd.prog.info? ty = some i ∧ i.size = 2 := by
    cases hq : Tryd.prog.info? ty with
    | none => simp [hq] at hi
    | some i => exact ⟨i, rfl, by simpa [hq] using hi⟩
  have hz : (sizeOf ty).run Tryd.prog w = .ok 2 w := by simp [sizeOf, typeInfo, hq, hs]
  have hc : w.cell? ⟨g, p, none⟩ = some cs[p] := (h.cell p).trans (Array.getElem?_eq_getElem (by omega))
  have hf := h.frozen p
  have k : Blk (w.setCell ⟨g, p, none⟩ u) g t (cs.setIfInBounds p u) := h.put p u
  have hc2 : (w.setCell ⟨g, p, none⟩ u).cell? ⟨g, p + 1, none⟩ = some ((cs.setIfInBounds p u)[p + 1]'(by simpa using hp)) := (k.cell (p + 1)).trans (Array.getElem?_eq_getElem (by simpa using hp))
  have hf2 := k.frozen (p + 1)
  have e : w.setRow g ((cs.setIfInBounds p u).setIfInBounds (p + 1) v) = (w.setCell ⟨g, p, none⟩ u).setCell ⟨g, p + 1, none⟩ v := by
    rw [setCell_row k, setCell_row h, setRow_row h]
  rw [e]
  have r1 : (store ⟨g, p, none⟩ u).run Tryd.prog w = .ok () (w.setCell ⟨g, p, none⟩ u) := by
    rw [run_store Tryd.prog w _ _ _ h1]
    simp [hc, hf]
  have r2 : (store ⟨g, p + 1, none⟩ v).run Tryd.prog (w.setCell ⟨g, p, none⟩ u) = .ok () ((w.setCell ⟨g, p, none⟩ u).setCell ⟨g, p + 1, none⟩ v) := by
    rw [run_store Tryd.prog _ _ _ _ h2]
    simp [hc2, hf2]
  simp [storeVar, Value.cells, storeCells, Addr.add, hz, Result.andThen, r1, r2]
/-- To look at a list's first operation ahead of a law: what does not fit fails at once. -/
theorem at_store {ops : Array Oper} {rest : List Oper} {o : Oper} {a : Act} {w : World} {Q : Exit → Act → World → Prop} (ty : TypeId) (x y : Operand) (_ : o.op = .store ty x y) (h : wpList Tryd.prog ops Q (o :: rest) a w) : wpList Tryd.prog ops Q (o :: rest) a w := h
theorem at_load {ops : Array Oper} {rest : List Oper} {o : Oper} {a : Act} {w : World} {Q : Exit → Act → World → Prop} (ty : TypeId) (x : Operand) (_ : o.op = .load ty x) (h : wpList Tryd.prog ops Q (o :: rest) a w) : wpList Tryd.prog ops Q (o :: rest) a w := h
theorem wpList_store_one {ops : Array Oper} {rest : List Oper} {o : Oper} {a : Act} {w : World} {Q : Exit → Act → World → Prop} (hgd : o.guard = none) (ty : TypeId) (x y : Operand) (ho : o.op = .store ty x y)
    (g p : Nat) (u : Value) (hx : a.eval x = .pointer (some ⟨g, p, none⟩)) (hy : a.eval y = u) (t : TypeId) (cs : Array Value) (hg : Blk w g t cs) (hp : p < cs.size) (hi : (Tryd.prog.info? ty).map (·.size) = some 1) (h1 : u.oneCell' = true) (new : Array Value) (hn : cs.setIfInBounds p u = new) (hu : u.cells = #[u])
    (h : wpList Tryd.prog ops Q rest (a.put o.dst undef) (w.setRow g new)) : wpList Tryd.prog ops Q (o :: rest) a w :=
  wpList_plain hgd fun _ hK => by
    unfold Oper.wp execOp
    simp only [ho, hx, hy, Instr.storeAt, Instr.sureAddr, Sem.run_bind, Sem.run_pure, Result.andThen_ok, run_store_one hg hp hi h1 new hn hu]
    exact hK _ _ h
theorem wpList_store_two {ops : Array Oper} {rest : List Oper} {o : Oper} {a : Act} {w : World} {Q : Exit → Act → World → Prop} (hgd : o.guard = none) (ty : TypeId) (x y : Operand) (ho : o.op = .store ty x y)
    (g p : Nat) (u v : Value) (hx : a.eval x = .pointer (some ⟨g, p, none⟩)) (hy : a.eval y = .agg #[u, v]) (t : TypeId) (cs : Array Value) (hg : Blk w g t cs) (hp : p + 1 < cs.size) (hi : (Tryd.prog.info? ty).map (·.size) = some 2) (h1 : u.oneCell' = true) (h2 : v.oneCell' = true) (new : Array Value) (hn : (cs.setIfInBounds p u).setIfInBounds (p + 1) v = new)
    (h : wpList Tryd.prog ops Q rest (a.put o.dst undef) (w.setRow g new)) : wpList Tryd.prog ops Q (o :: rest) a w :=
  wpList_plain hgd fun _ hK => by
    unfold Oper.wp execOp
    simp only [ho, hx, hy, Instr.storeAt, Instr.sureAddr, Sem.run_bind, Sem.run_pure, Result.andThen_ok, run_store_two hg hp hi h1 h2 new hn]
    exact hK _ _ h
end Go.Proofs.YtjeenmeoiidmnaaDoor.Store
