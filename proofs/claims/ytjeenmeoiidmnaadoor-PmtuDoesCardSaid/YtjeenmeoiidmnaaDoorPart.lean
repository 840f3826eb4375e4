/- A struct within a struct, or within a row of structs: read whole, stored whole. -/
import Derived.Test.YtjeenmeoiidmnaaDoorBlk
import Derived.Test.YtjeenmeoiidmnaaDoorSteps
import Derived.Laws.Rows
set_option linter.unusedVariables false
namespace Go.Proofs.YtjeenmeoiidmnaaDoor.Part
open Go.RowKit Go.Proofs.YtjeenmeoiidmnaaDoor.Mem Go.Proofs.YtjeenmeoiidmnaaDoor.Blk

/-- A struct within a struct, read whole. -/
theorem run_part (w : World) (b p : Nat) (ty : TypeId) (cs : List Value) (d : TypeDesc) (hu : Tryd.prog.underlying ty = some d) (hd : (match d with | .struct _ | .array _ _ => true | _ => false) = true)
    (hi : (Tryd.prog.info? ty).map (·.size) = some cs.length) (h : ∀ j v, cs[j]? = some v → w.cell? ⟨b, p + j, none⟩ = some v) : (loadVar ty ⟨b, p, none⟩).run Tryd.prog w = .ok (.agg cs.toArray) w := by
  have hl : (loadCells ⟨b, p, none⟩ cs.length).run Tryd.prog w = .ok cs.toArray w :=
    run_loadCells_list (P := Tryd.prog) w ⟨b, p, none⟩ cs (fun j v hv => by
      rw [add_plain]
      exact h j v hv)
  cases hq : Tryd.prog.info? ty with
  | none => simp [hq] at hi
  | some i =>
    have hs : i.size = cs.length := by simpa [hq] using hi
    have hagg : (isAgg ty).run Tryd.prog w = .ok true w := by
      unfold isAgg
      rw [Sem.run_bind, run_underlying hu w]
      cases d <;> simp_all
    simp [loadVar, Sem.run_bind, hagg, sizeOf, typeInfo, hq, hs, hl]
theorem wpList_load_part {ops : Array Oper} {rest : List Oper} {o : Oper} {a : Act} {w : World} {Q : Exit → Act → World → Prop} (hw : Region.wanted o (yielded ops a.tmps) = true) (ty : TypeId) (x : Operand) (ho : o.op = .load ty x)
    (b p : Nat) (cs : List Value) (hx : a.eval x = .pointer (some ⟨b, p, none⟩)) (hr : (loadVar ty ⟨b, p, none⟩).run Tryd.prog w = .ok (.agg cs.toArray) w)
    (h : wpList Tryd.prog ops Q rest (a.put o.dst (.agg cs.toArray)) w) : wpList Tryd.prog ops Q (o :: rest) a w :=
  wpList_step fun K hK => by
    rw [if_pos hw]
    unfold Oper.wp execOp
    simp only [ho, hx, Instr.loadAt, Instr.sureAddr, Sem.run_bind, Sem.run_pure, Result.andThen_ok, hr]
    exact hK _ _ h
/-- Cells that lie at a place: a part of them. -/
def At (w : World) (b q : Nat) (cs : List Value) : Prop := ∀ j v, cs[j]? = some v → w.cell? ⟨b, q + j, none⟩ = some v
theorem At.sub {w : World} {b q : Nat} {cs : List Value} (h : At w b q cs) (k m : Nat) : At w b (q + k) ((cs.drop k).take m) := fun j v hv => by
  rw [Nat.add_assoc]
  refine h (k + j) v ?_
  rw [List.getElem?_take] at hv
  split at hv
  · rwa [List.getElem?_drop] at hv
  · cases hv
theorem At.below {w w' : World} {b q B : Nat} {cs : List Value} (h : At w b q cs) (hb : Below B w w') (hlt : b < B) : At w' b q cs := fun j v hv => (hb.cell (p := ⟨b, q + j, none⟩) hlt).trans (h j v hv)
theorem setRow_blk {w : World} {g : Nat} {t : TypeId} {old : Array Value} (h : Blk w g t old) (cs : Array Value) : Blk (w.setRow g cs) g t cs := setRow_heap w g old cs t (0, 0) h
theorem setRow_bel {w W : World} {g B : Nat} (h : Below B w W) (hg : B ≤ g) (cs : Array Value) : Below B w (W.setRow g cs) :=
  ⟨h.os, h.tape, h.output, by simpa [World.setRow] using h.size, fun k hk => (setRow_other W g k cs (by omega)).trans (h.block k hk)⟩
/-- Steps of drawn regions: the address of a row's element, a part read whole. -/
theorem st_elem_at {o : Oper} {a : Act} {w : World} {K : Act → World → Prop} {Q : Exit → Act → World → Prop} {tS tE : TypeId} {N : Nat} (x y : Operand) (ho : o.op = .indexAddr tS x y) (hu : Tryd.prog.underlying tS = some (.slice tE)) (hi : (Tryd.prog.info? tE).map (·.size) = some N)
    (b p n c i : Nat) (hx : a.eval x = .slice (some ⟨b, p, none⟩) n c) (hy : a.eval y = .int .i64 (i : Int)) (hlt : i < n)
    (h : K (a.put o.dst (.pointer (some ⟨b, p + i * N, none⟩))) w) : Free.Step Tryd.prog o a w K Q := by
  refine Free.wp_value (.pointer (some ⟨b, p + i * N, none⟩)) ?_ h
  have h1 : (0 : Int) ≤ (i : Int) ∧ (i : Int) < (n : Int) := by omega
  cases hq : Tryd.prog.info? tE with
  | none => simp [hq] at hi
  | some f =>
    have hs : f.size = N := by simpa [hq] using hi
    simp [execOp, ho, hx, hy, Instr.indexAt, asIntOf, Sem.run_bind, run_underlying hu w, sizeOf, typeInfo, hq, hs, h1, hlt, Result.andThen, add_plain]
theorem st_load_part {o : Oper} {a : Act} {w : World} {K : Act → World → Prop} {Q : Exit → Act → World → Prop} (ty : TypeId) (x : Operand) (ho : o.op = .load ty x)
    (b p : Nat) (cs : List Value) (hx : a.eval x = .pointer (some ⟨b, p, none⟩)) (hr : (loadVar ty ⟨b, p, none⟩).run Tryd.prog w = .ok (.agg cs.toArray) w) (h : K (a.put o.dst (.agg cs.toArray)) w) : Free.Step Tryd.prog o a w K Q := by
  constructor
  unfold Oper.wp execOp
  simp only [ho, hx, Instr.loadAt, Instr.sureAddr, Sem.run_bind, Sem.run_pure, Result.andThen_ok, hr]
  exact h
end Go.Proofs.YtjeenmeoiidmnaaDoor.Part
