/- The document's Pair, Compare, span, ports, in, port. -/
import Derived.Test.YtmomkjgnopcobaaPickD
import Derived.Test.YtmomkjgnopcobaaBlk
set_option linter.unusedVariables false
namespace Go.Proofs.Ytmomkjgnopcobaa.PickR1
open Go.RowKit Go.Proofs.Ytmomkjgnopcobaa.Mem Go.Proofs.Ytmomkjgnopcobaa.Blk Go.Proofs.Ytmomkjgnopcobaa.Ahead Go.Proofs.Ytmomkjgnopcobaa.PickD

theorem less_tot : ∀ a b : List UInt8, (Op.bytesLess a b || a == b) = !Op.bytesLess b a
  | [], [] => by decide
  | [], y :: b => by simp [Op.bytesLess]
  | x :: a, [] => by simp [Op.bytesLess]
  | x :: a, y :: b => by
    have ih := less_tot a b
    unfold Op.bytesLess
    by_cases h1 : x < y
    · have h2 : ¬ y < x := fun e => by rw [UInt8.lt_iff_toNat_lt] at *; omega
      have h3 : ¬ y = x := fun e => by subst e; exact h2 h1
      simp [h1, h2, h3]
    · by_cases h2 : x = y
      · subst h2
        simp [UInt8.lt_irrefl]
        exact ih
      · have h4 : y < x := by
          rcases Nat.lt_trichotomy x.toNat y.toNat with z | z | z
          · exact absurd (UInt8.lt_iff_toNat_lt.2 z) h1
          · exact absurd (UInt8.toNat_inj.1 z) h2
          · exact UInt8.lt_iff_toNat_lt.2 z
        have h5 : ¬ x = y := h2
        simp [h1, h2, h4]
theorem run_lss (a b : ByteArray) (w : World) : (binOp .lss 9 (.string a) (.string b)).run Try.prog w = .ok (.bool (lt a b)) w := by
  simp [binOp, Op.stringOp, lt]
theorem run_geq (a b : ByteArray) (w : World) : (binOp .geq 9 (.string a) (.string b)).run Try.prog w = .ok (.bool (!lt a b)) w := by
  simp [binOp, Op.stringOp, lt]
theorem run_leq (a b : ByteArray) (w : World) : (binOp .leq 9 (.string a) (.string b)).run Try.prog w = .ok (.bool (!lt b a)) w := by
  simp [binOp, Op.stringOp, lt, less_tot]
theorem run_gtr (a b : ByteArray) (w : World) : (binOp .gtr 9 (.string a) (.string b)).run Try.prog w = .ok (.bool (lt b a)) w := by
  have := less_tot a.toList b.toList
  simp [binOp, Op.stringOp, lt]
  rw [← Bool.not_or, this, Bool.not_not]
end Go.Proofs.Ytmomkjgnopcobaa.PickR1
