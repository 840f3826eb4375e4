/- The document's Turned, Of. -/
import Derived.Test.YtijlggfcinnfeaaPickR2
import Derived.Test.YtijlggfcinnfeaaRegs
import Derived.Test.YtijlggfcinnfeaaCom
import Derived.Laws.Tables
set_option linter.unusedVariables false
namespace Go.Proofs.Ytijlggfcinnfeaa.PickR3
open Go.RowKit Go.Proofs.Ytijlggfcinnfeaa.Mem Go.Proofs.Ytijlggfcinnfeaa.Blk Go.Proofs.Ytijlggfcinnfeaa.Ahead Go.Proofs.Ytijlggfcinnfeaa.PickD Go.Proofs.Ytijlggfcinnfeaa.PickR1 Go.Proofs.Ytijlggfcinnfeaa.PickR2 Go.Proofs.Ytijlggfcinnfeaa.Free Go.Proofs.Ytijlggfcinnfeaa.Steps Go.Proofs.Ytijlggfcinnfeaa.Regs Go.Proofs.Ytijlggfcinnfeaa.Com

theorem st_store_i {o : Oper} {a : Act} {w : World} {K : Act → World → Prop} {Q : Exit → Act → World → Prop} (x y : Operand) (ho : o.op = .store 3 x y) (ad : Addr) (hx : a.eval x = .pointer (some ad)) (z : Int) (hy : a.eval y = .int .i64 z)
    (u : Value) (hc : w.cell? ad = some u) (hf : w.frozen? ad = false) (hK : K (a.put o.dst undef) (w.setCell ad (.int .i64 z))) : Step Try.prog o a w K Q := by
  have hz : (sizeOf 3).run Try.prog w = .ok 1 w := by kernel_rfl
  have hr : (storeVar 3 ad (.int .i64 z)).run Try.prog w = .ok () (w.setCell ad (.int .i64 z)) := by
    simp [storeVar, Value.cells, storeCells, Addr.add, hz, Result.andThen]
    rw [run_store Try.prog w ad _ _ (by rfl)]
    simp [hc, hf]
  constructor
  unfold Oper.wp execOp
  simp only [ho, hx, hy, Instr.storeAt, Instr.sureAddr, Sem.run_bind, Sem.run_pure, Result.andThen_ok, hr]
  exact hK
theorem fldF3 (g : Nat) (w : World) : (Instr.fieldAt 24 (.pointer (some ⟨g, 0, none⟩)) 3).run Try.prog w = .ok (.pointer (some ⟨g, 3, none⟩)) w := by kernel_rfl
theorem fldF4 (g : Nat) (w : World) : (Instr.fieldAt 24 (.pointer (some ⟨g, 0, none⟩)) 4).run Try.prog w = .ok (.pointer (some ⟨g, 4, none⟩)) w := by kernel_rfl
theorem oneF (a b : ByteArray) (x y z : Int) : (#[.string a, .string b, .int .i64 x, .int .i64 y, .int .i64 z] : Array Value).all (·.oneCell') = true := by simp [Value.oneCell']

theorem turned_ref (a b : ByteArray) (x y z : Int) (w : World) : Calls Try.prog 12 #[.agg #[.string a, .string b, .int .i64 x, .int .i64 y, .int .i64 z]] w fun e w' => e = .returned (.agg #[.string b, .string a, .int .i64 x, .int .i64 z, .int .i64 y]) ∧ Below w.heap.size w w' := by
  have K0 := Blk.alloc (Blk.new w 24 #[.string a, .string b, .int .i64 x, .int .i64 y, .int .i64 z]) (.cells #[.string ⟨#[]⟩, .string ⟨#[]⟩, .int .i64 0, .int .i64 0, .int .i64 0] 24)
  have J0 : Hid (Blk ((w.alloc (.cells #[.string a, .string b, .int .i64 x, .int .i64 y, .int .i64 z] 24)).alloc (.cells #[.string ⟨#[]⟩, .string ⟨#[]⟩, .int .i64 0, .int .i64 0, .int .i64 0] 24)) (w.heap.size + 1) 24 #[.string ⟨#[]⟩, .string ⟨#[]⟩, .int .i64 0, .int .i64 0, .int .i64 0]) := Lib.hid (by
    have := Blk.new (w.alloc (.cells #[.string a, .string b, .int .i64 x, .int .i64 y, .int .i64 z] 24)) 24 #[.string ⟨#[]⟩, .string ⟨#[]⟩, .int .i64 0, .int .i64 0, .int .i64 0]
    simpa using this)
  have B0 := Lib.hid (((Below.refl w.heap.size w).alloc (Nat.le_refl _) (.cells #[.string a, .string b, .int .i64 x, .int .i64 y, .int .i64 z] 24)).alloc (by simp) (.cells #[.string ⟨#[]⟩, .string ⟨#[]⟩, .int .i64 0, .int .i64 0, .int .i64 0] 24))
  have k0 := K0.cell 0
  have k1 := K0.cell 1
  have k2 := K0.cell 2
  have k3 := K0.cell 3
  have k4 := K0.cell 4
  clear K0
  go_enter Try.func12, Try.ntmps12
  go_wp2_with (refine wpList_store_row rfl 24 (.tmp 2) (.tmp 13) rfl (w.heap.size + 1) #[.string b, .string a, .int .i64 x, .int .i64 z, .int .i64 y] rfl rfl 24 _ J0.out (by kernel_rfl) rfl (oneF _ _ _ _ _) ?_)
  exact bodyPost_ret (results_cell_row rfl _ _ (w.heap.size + 1) 24 #[.string b, .string a, .int .i64 x, .int .i64 z, .int .i64 y] (0, 0) _ rfl (setRow_heap _ _ _ _ _ _ J0.out) Try.underlying24 rfl (by kernel_rfl)) rfl ⟨rfl, setRow_bel B0.out (by omega) _⟩
end Go.Proofs.Ytijlggfcinnfeaa.PickR3
