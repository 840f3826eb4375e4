/- A cell of a struct read in a walk. No function is named. -/
import Derived.Test.YtnabjhdamofpgaaStore
import Derived.Test.YtnabjhdamofpgaaSteps
set_option linter.unusedVariables false
namespace Go.Proofs.Ytnabjhdamofpgaa.Store2
open Go.RowKit Go.Proofs.Ytnabjhdamofpgaa.Mem Go.Proofs.Ytnabjhdamofpgaa.Blk Go.Proofs.Ytnabjhdamofpgaa.Free Go.Proofs.Ytnabjhdamofpgaa.Steps
theorem wpList_load_cell {ops : Array Oper} {rest : List Oper} {o : Oper} {a : Act} {w : World} {Q : Exit → Act → World → Prop} (hw : Region.wanted o (yielded ops a.tmps) = true) (ty : TypeId) (x : Operand) (ho : o.op = .load ty x)
    (g p : Nat) (v : Value) (hx : a.eval x = .pointer (some ⟨g, p, none⟩)) (d : TypeDesc) (hd : Try.prog.underlying ty = some d) (hp : plainB d = true) (t : TypeId) (cs : Array Value) (hg : Blk w g t cs) (hc : cs[p]? = some v)
    (h : wpList Try.prog ops Q rest (a.put o.dst v) w) : wpList Try.prog ops Q (o :: rest) a w :=
  wpList_step fun K hK => by rw [if_pos hw]; exact (wp_load1 x ho _ hx hd hp v ((hg.cell p).trans hc) (hK _ _ h)).1
/-- A block written once more: the world is the one before, with the new cells. -/
theorem wpList_store_one_on {ops : Array Oper} {rest : List Oper} {o : Oper} {a : Act} {w : World} {Q : Exit → Act → World → Prop} (hgd : o.guard = none) (ty : TypeId) (x y : Operand) (ho : o.op = .store ty x y)
    (g p : Nat) (u : Value) (hx : a.eval x = .pointer (some ⟨g, p, none⟩)) (hy : a.eval y = u) (t : TypeId) (cs0 cs : Array Value) (h0 : Blk w g t cs0) (hp : p < cs.size) (hi : (Try.prog.info? ty).map (·.size) = some 1) (h1 : u.oneCell' = true) (new : Array Value) (hn : cs.setIfInBounds p u = new) (hu : u.cells = #[u])
    (h : wpList Try.prog ops Q rest (a.put o.dst undef) (w.setRow g new)) : wpList Try.prog ops Q (o :: rest) a (w.setRow g cs) :=
  Store.wpList_store_one hgd ty x y ho g p u hx hy t cs (setRow_heap _ _ _ _ _ _ h0) hp hi h1 new hn hu (by rw [Store.setRow_row h0]; exact h)
theorem wpList_store_two_on {ops : Array Oper} {rest : List Oper} {o : Oper} {a : Act} {w : World} {Q : Exit → Act → World → Prop} (hgd : o.guard = none) (ty : TypeId) (x y : Operand) (ho : o.op = .store ty x y)
    (g p : Nat) (u v : Value) (hx : a.eval x = .pointer (some ⟨g, p, none⟩)) (hy : a.eval y = .agg #[u, v]) (t : TypeId) (cs0 cs : Array Value) (h0 : Blk w g t cs0) (hp : p + 1 < cs.size) (hi : (Try.prog.info? ty).map (·.size) = some 2) (h1 : u.oneCell' = true) (h2 : v.oneCell' = true) (new : Array Value) (hn : (cs.setIfInBounds p u).setIfInBounds (p + 1) v = new)
    (h : wpList Try.prog ops Q rest (a.put o.dst undef) (w.setRow g new)) : wpList Try.prog ops Q (o :: rest) a (w.setRow g cs) :=
  Store.wpList_store_two hgd ty x y ho g p u v hx hy t cs (setRow_heap _ _ _ _ _ _ h0) hp hi h1 h2 new hn (by rw [Store.setRow_row h0]; exact h)
end Go.Proofs.Ytnabjhdamofpgaa.Store2
