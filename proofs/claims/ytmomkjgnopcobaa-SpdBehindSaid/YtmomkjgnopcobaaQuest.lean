/- A key of a flow and a bool. -/
import Derived.Test.YtmomkjgnopcobaaMapS
import Derived.Test.YtmomkjgnopcobaaEqR
import Derived.Laws.StructEq
set_option linter.unusedVariables false
namespace Go.Proofs.Ytmomkjgnopcobaa.Quest
open Go.RowKit Go.Proofs.Ytmomkjgnopcobaa.Mem Go.Proofs.Ytmomkjgnopcobaa.Blk Go.Proofs.Ytmomkjgnopcobaa.MapK
structure Qu where
  (here there : ByteArray) (pr near far : Int) (out : Bool)
  deriving DecidableEq
def ek (q : Qu) : Value := .agg #[.string q.here, .string q.there, .int .i64 q.pr, .int .i64 q.near, .int .i64 q.far, .bool q.out]
theorem key_law : KeyLaw Try.prog 62 ek where
  wide := by kernel_rfl
  check := fun k e w => by kernel_rfl
  equal := fun a b w => by
    obtain ⟨a0, a1, a2, a3, a4, a5⟩ := a
    obtain ⟨b0, b1, b2, b3, b4, b5⟩ := b
    have h := EqR.eq_Question 9997 a0 a1 a2 a3 a4 a5 b0 b1 b2 b3 b4 b5 w
    have e : Op.equal 62 = Op.equalIn 10000 62 := rfl
    rw [e]
    refine h.trans ?_
    congr 1
    rw [Bool.eq_iff_iff]
    simp only [Bool.and_eq_true, decide_eq_true_eq, and_true, Qu.mk.injEq, and_assoc]
  bits := fun k => by
    unfold ek
    show Instr.sameBits (9999 + 1) _ _ = true
    simp [Instr.sameBits, beq_toListBytes]
end Go.Proofs.Ytmomkjgnopcobaa.Quest
