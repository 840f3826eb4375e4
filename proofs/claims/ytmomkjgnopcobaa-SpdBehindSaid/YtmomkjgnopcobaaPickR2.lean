/- The document's May, Matches. -/
import Derived.Test.YtmomkjgnopcobaaPickR1
import Derived.Test.YtmomkjgnopcobaaLoads
import Derived.Test.YtmomkjgnopcobaaSteps
set_option linter.unusedVariables false
namespace Go.Proofs.Ytmomkjgnopcobaa.PickR2
open Go.RowKit Go.Proofs.Ytmomkjgnopcobaa.Mem Go.Proofs.Ytmomkjgnopcobaa.Blk Go.Proofs.Ytmomkjgnopcobaa.Ahead Go.Proofs.Ytmomkjgnopcobaa.PickD Go.Proofs.Ytmomkjgnopcobaa.PickR1 Go.Proofs.Ytmomkjgnopcobaa.Steps

/-- A struct within a struct, read whole. -/
theorem run_part (w : World) (b p : Nat) (ty : TypeId) (cs : List Value) (d : TypeDesc) (hu : Try.prog.underlying ty = some d) (hd : (match d with | .struct _ | .array _ _ => true | _ => false) = true)
    (hi : (Try.prog.info? ty).map (·.size) = some cs.length) (h : ∀ j v, cs[j]? = some v → w.cell? ⟨b, p + j, none⟩ = some v) : (loadVar ty ⟨b, p, none⟩).run Try.prog w = .ok (.agg cs.toArray) w := by
  have hl : (loadCells ⟨b, p, none⟩ cs.length).run Try.prog w = .ok cs.toArray w :=
    run_loadCells_list (P := Try.prog) w ⟨b, p, none⟩ cs (fun j v hv => by
      rw [add_plain]
      exact h j v hv)
  cases hq : Try.prog.info? ty with
  | none => simp [hq] at hi
  | some i =>
    have hs : i.size = cs.length := by simpa [hq] using hi
    have hagg : (isAgg ty).run Try.prog w = .ok true w := by
      unfold isAgg
      rw [Sem.run_bind, run_underlying hu w]
      cases d <;> simp_all
    simp [loadVar, Sem.run_bind, hagg, sizeOf, typeInfo, hq, hs, hl]
theorem wpList_load_part {ops : Array Oper} {rest : List Oper} {o : Oper} {a : Act} {w : World} {Q : Exit → Act → World → Prop} (hw : Region.wanted o (yielded ops a.tmps) = true) (ty : TypeId) (x : Operand) (ho : o.op = .load ty x)
    (b p : Nat) (cs : List Value) (hx : a.eval x = .pointer (some ⟨b, p, none⟩)) (hr : (loadVar ty ⟨b, p, none⟩).run Try.prog w = .ok (.agg cs.toArray) w)
    (h : wpList Try.prog ops Q rest (a.put o.dst (.agg cs.toArray)) w) : wpList Try.prog ops Q (o :: rest) a w :=
  wpList_step fun K hK => by
    rw [if_pos hw]
    unfold Oper.wp execOp
    simp only [ho, hx, Instr.loadAt, Instr.sureAddr, Sem.run_bind, Sem.run_pure, Result.andThen_ok, hr]
    exact hK _ _ h
section
variable {w : World} {g : Nat} {t : TypeId}
theorem part_span {cs : Array Value} (k : Nat) (a b : ByteArray) (h : Blk w g t cs) (h0 : cs[k]? = some (.string a)) (h1 : cs[k + 1]? = some (.string b)) : (loadVar 29 ⟨g, k, none⟩).run Try.prog w = .ok (.agg #[.string a, .string b]) w :=
  run_part w g k 29 [.string a, .string b] _ Try.underlying29 rfl (by kernel_rfl) (fun j v hv => by
    match j, hv with
    | 0, hv => cases hv; exact (h.cell k).trans h0
    | 1, hv => cases hv; exact (h.cell (k + 1)).trans h1)
theorem part_ports {cs : Array Value} (k : Nat) (a b : Int) (h : Blk w g t cs) (h0 : cs[k]? = some (.int .i64 a)) (h1 : cs[k + 1]? = some (.int .i64 b)) : (loadVar 31 ⟨g, k, none⟩).run Try.prog w = .ok (.agg #[.int .i64 a, .int .i64 b]) w :=
  run_part w g k 31 [.int .i64 a, .int .i64 b] _ Try.underlying31 rfl (by kernel_rfl) (fun j v hv => by
    match j, hv with
    | 0, hv => cases hv; exact (h.cell k).trans h0
    | 1, hv => cases hv; exact (h.cell (k + 1)).trans h1)
end

end Go.Proofs.Ytmomkjgnopcobaa.PickR2
