/- The document's Pair, Compare, span, ports, in, port. -/
import Derived.Test.YtijlggfcinnfeaaPickD
import Derived.Test.YtijlggfcinnfeaaBlk
set_option linter.unusedVariables false
namespace Go.Proofs.Ytijlggfcinnfeaa.PickR1
open Go.RowKit Go.Proofs.Ytijlggfcinnfeaa.Mem Go.Proofs.Ytijlggfcinnfeaa.Blk Go.Proofs.Ytijlggfcinnfeaa.Ahead Go.Proofs.Ytijlggfcinnfeaa.PickD

theorem less_tot : ∀ a b : List UInt8, (Op.bytesLess a b || a == b) = !Op.bytesLess b a
  | [], [] => by decide
  | [], y :: b => by simp [Op.bytesLess]
  | x :: a, [] => by simp [Op.bytesLess]
  | x :: a, y :: b => by
    have ih := less_tot a b
    unfold Op.bytesLess
    by_cases h1 : x < y
    · have h2 : ¬ y < x := fun e => by rw [UInt8.lt_iff_toNat_lt] at *; omega
      have h3 : ¬ y = x := fun e => by subst e; exact h2 h1
      simp [h1, h2, h3]
    · by_cases h2 : x = y
      · subst h2
        simp [UInt8.lt_irrefl]
        exact ih
      · have h4 : y < x := by
          rcases Nat.lt_trichotomy x.toNat y.toNat with z | z | z
          · exact absurd (UInt8.lt_iff_toNat_lt.2 z) h1
          · exact absurd (UInt8.toNat_inj.1 z) h2
          · exact UInt8.lt_iff_toNat_lt.2 z
        have h5 : ¬ x = y := h2
        simp [h1, h2, h4]
theorem run_lss (a b : ByteArray) (w : World) : (binOp .lss 9 (.string a) (.string b)).run Try.prog w = .ok (.bool (lt a b)) w := by
  simp [binOp, Op.stringOp, lt]
theorem run_geq (a b : ByteArray) (w : World) : (binOp .geq 9 (.string a) (.string b)).run Try.prog w = .ok (.bool (!lt a b)) w := by
  simp [binOp, Op.stringOp, lt]
theorem run_leq (a b : ByteArray) (w : World) : (binOp .leq 9 (.string a) (.string b)).run Try.prog w = .ok (.bool (!lt b a)) w := by
  simp [binOp, Op.stringOp, lt, less_tot]
theorem run_gtr (a b : ByteArray) (w : World) : (binOp .gtr 9 (.string a) (.string b)).run Try.prog w = .ok (.bool (lt b a)) w := by
  have := less_tot a.toList b.toList
  simp [binOp, Op.stringOp, lt]
  rw [← Bool.not_or, this, Bool.not_not]
theorem pair_ref (s d : ByteArray) (w : World) : Calls Try.prog 22 #[.string s, .string d] w fun e w' => e = .returned (.bool (paired s d)) ∧ w = w' := by
  by_cases h : s.size = d.size
  · have g1 : ((s.size : Int) == (d.size : Int)) = true := by rw [beq_iff_eq]; omega
    by_cases h4 : s.size = 4
    · have g2 : ((s.size : Int) == 4) = true := by rw [beq_iff_eq]; omega
      have E : Hid (paired s d = true) := Lib.hid (by unfold paired; simp [← h, h4])
      clear h h4
      go_enter Try.func22, Try.ntmps22
      go_wp2_with fail
      go_ret
      exact ⟨by rw [E.out]; rfl, rfl⟩
    · have g2 : ((s.size : Int) == 4) = false := by rw [beq_eq_false_iff_ne]; omega
      by_cases h6 : s.size = 16
      · have g3 : ((s.size : Int) == 16) = true := by rw [beq_iff_eq]; omega
        have E : Hid (paired s d = true) := Lib.hid (by unfold paired; simp [← h, h6])
        clear h h4 h6
        go_enter Try.func22, Try.ntmps22
        go_wp2_with fail
        go_ret
        exact ⟨by rw [E.out]; rfl, rfl⟩
      · have g3 : ((s.size : Int) == 16) = false := by rw [beq_eq_false_iff_ne]; omega
        have E : Hid (paired s d = false) := Lib.hid (by unfold paired; simp [h4, h6])
        clear h h4 h6
        go_enter Try.func22, Try.ntmps22
        go_wp2_with fail
        go_ret
        exact ⟨by rw [E.out]; rfl, rfl⟩
  · have g1 : ((s.size : Int) == (d.size : Int)) = false := by rw [beq_eq_false_iff_ne]; omega
    have E : Hid (paired s d = false) := Lib.hid (by unfold paired; simp [h])
    clear h
    go_enter Try.func22, Try.ntmps22
    go_wp2_with fail
    go_ret
    exact ⟨by rw [E.out]; rfl, rfl⟩
end Go.Proofs.Ytijlggfcinnfeaa.PickR1
