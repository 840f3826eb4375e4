/- The code's own, Turned, ports. -/
import Derived.Test.YtmomkjgnopcobaaPick2
import Derived.Test.YtmomkjgnopcobaaPickR3
set_option linter.unusedVariables false
namespace Go.Proofs.Ytmomkjgnopcobaa.Pick4
open Go.RowKit Go.Proofs.Ytmomkjgnopcobaa.Mem Go.Proofs.Ytmomkjgnopcobaa.Blk Go.Proofs.Ytmomkjgnopcobaa.Ahead Go.Proofs.Ytmomkjgnopcobaa.PickD Go.Proofs.Ytmomkjgnopcobaa.PickR1 Go.Proofs.Ytmomkjgnopcobaa.PickR2 Go.Proofs.Ytmomkjgnopcobaa.PickR3 Go.Proofs.Ytmomkjgnopcobaa.Pick1 Go.Proofs.Ytmomkjgnopcobaa.Pick2 Go.Proofs.Ytmomkjgnopcobaa.Free Go.Proofs.Ytmomkjgnopcobaa.Steps Go.Proofs.Ytmomkjgnopcobaa.Regs Go.Proofs.Ytmomkjgnopcobaa.Com

def maxT : Nat := 281474976710656
theorem clone_text (s : ByteArray) (w : World) (hs : s.size ≤ maxT) : Calls Try.prog 30 #[.string s] w fun e w' => e = .returned (.string s) ∧ Below w.heap.size w w' := by
  have C := Lib.hid (Try.stringslite_Clone s w hs)
  go_enter Try.func30, Try.ntmps30
  go_wp2_with fail
  refine C.out.mono ?_
  rintro e w' ⟨rfl, hb⟩
  go_wp2_with fail
  go_ret
  exact ⟨rfl, hb⟩
theorem ent_clone : Enters Try.prog 30 := enters_of Try.func30 (by kernel_rfl) rfl
theorem st_store_s {o : Oper} {a : Act} {w : World} {K : Act → World → Prop} {Q : Exit → Act → World → Prop} (x y : Operand) (ho : o.op = .store 9 x y) (ad : Addr) (hx : a.eval x = .pointer (some ad)) (z : ByteArray) (hy : a.eval y = .string z)
    (u : Value) (hc : w.cell? ad = some u) (hf : w.frozen? ad = false) (hK : K (a.put o.dst undef) (w.setCell ad (.string z))) : Step Try.prog o a w K Q := by
  have hz : (sizeOf 9).run Try.prog w = .ok 1 w := by kernel_rfl
  have hr : (storeVar 9 ad (.string z)).run Try.prog w = .ok () (w.setCell ad (.string z)) := by
    simp [storeVar, Value.cells, storeCells, Addr.add, hz, Result.andThen]
    rw [run_store Try.prog w ad _ _ (by rfl)]
    simp [hc, hf]
  constructor
  unfold Oper.wp execOp
  simp only [ho, hx, hy, Instr.storeAt, Instr.sureAddr, Sem.run_bind, Sem.run_pure, Result.andThen_ok, hr]
  exact hK
/-- A cell that is written as it is: all blocks stay. -/
theorem put_same {w : World} {g : Nat} {t : TypeId} {cs : Array Value} {v : Value} {i : Nat} (h : Blk w g t cs) (hv : cs[i]? = some v) : Below w.heap.size w (w.setCell ⟨g, i, none⟩ v) :=
  ⟨rfl, rfl, rfl, by simp, fun k hk => by
    by_cases e : k = g
    · subst e
      have h1 := Blk.put h i v
      have h2 : cs.setIfInBounds i v = cs := by
        apply Array.ext (by simp)
        intro j hj hj'
        rw [Array.getElem_setIfInBounds]
        split
        · rename_i e
          subst e
          have := Array.getElem?_eq_getElem (xs := cs) (i := i) (by simpa using hj')
          rw [hv] at this
          injection this
        · rfl
      rw [h2] at h1
      exact Eq.trans h1 (Eq.symm h)
    · exact Below.heap_setCell w ⟨g, i, none⟩ v k e⟩
theorem fldF0 (g : Nat) (w : World) : (Instr.fieldAt 24 (.pointer (some ⟨g, 0, none⟩)) 0).run Try.prog w = .ok (.pointer (some ⟨g, 0, none⟩)) w := by kernel_rfl
theorem fldF1 (g : Nat) (w : World) : (Instr.fieldAt 24 (.pointer (some ⟨g, 0, none⟩)) 1).run Try.prog w = .ok (.pointer (some ⟨g, 1, none⟩)) w := by kernel_rfl
def nearV (pr : Int) (l : List Int) : Int := if has pr then two l 0 else -1
def farV (pr : Int) (l : List Int) : Int := if has pr then two l 2 else -1
end Go.Proofs.Ytmomkjgnopcobaa.Pick4
