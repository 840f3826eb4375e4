/- The law PickNone: plain facts. -/
import Derived.Test.YtijlggfcinnfeaaLawFew15
import Derived.Test.YtijlggfcinnfeaaStore2
set_option linter.unusedVariables false
namespace Go.Proofs.Ytijlggfcinnfeaa.LawNoneD
open Go.RowKit Go.Proofs.Ytijlggfcinnfeaa.Mem Go.Proofs.Ytijlggfcinnfeaa.Blk Go.Proofs.Ytijlggfcinnfeaa.Ahead Go.Proofs.Ytijlggfcinnfeaa.PickD Go.Proofs.Ytijlggfcinnfeaa.PickR1 Go.Proofs.Ytijlggfcinnfeaa.PickR2 Go.Proofs.Ytijlggfcinnfeaa.PickR3 Go.Proofs.Ytijlggfcinnfeaa.Pick1 Go.Proofs.Ytijlggfcinnfeaa.Pick2 Go.Proofs.Ytijlggfcinnfeaa.Pick3 Go.Proofs.Ytijlggfcinnfeaa.Pick4 Go.Proofs.Ytijlggfcinnfeaa.Free Go.Proofs.Ytijlggfcinnfeaa.Steps Go.Proofs.Ytijlggfcinnfeaa.Regs Go.Proofs.Ytijlggfcinnfeaa.Com Go.Proofs.Ytijlggfcinnfeaa.Pick5 Go.Proofs.Ytijlggfcinnfeaa.PickA Go.Proofs.Ytijlggfcinnfeaa.LawFew15

def ok (f : Fl) : Prop := f.here.size = f.there.size ∧ (f.here.size = 4 ∨ f.here.size = 16) ∧ (0 ≤ f.pr ∧ f.pr ≤ 255) ∧ (-1 ≤ f.near ∧ f.near ≤ 65535) ∧ (-1 ≤ f.far ∧ f.far ≤ 65535)
def just (f : Fl) (a b : Bool) : Pk := ⟨f.here, f.here, f.there, f.there, f.pr, bif a then f.near else 0, bif a then f.near else 65535, bif b then f.far else 0, bif b then f.far else 65535⟩
theorem span_one (a : ByteArray) (h : a.size = 4 ∨ a.size = 16) : spanB a a = true := by
  unfold spanB
  rw [paired_make rfl h, lt_irr]
  simp
theorem in_one (a : ByteArray) : inB a a a = true := by
  unfold inB
  rw [lt_irr]
  simp
theorem port_any {n : Int} (h : -1 ≤ n ∧ n ≤ 65535) : portB n 0 65535 = true := by
  unfold portB
  by_cases c : n < 0
  · rw [if_pos c]; rfl
  · rw [if_neg c]; simp only [Bool.and_eq_true, decide_eq_true_eq]; omega
theorem port_one {n : Int} {a : Bool} (h : -1 ≤ n ∧ n ≤ 65535) (ha : a = decide (0 ≤ n)) : portB n (bif a then n else 0) (bif a then n else 65535) = true ∧ portsB (bif a then n else 0) (bif a then n else 65535) = true := by
  cases a
  · exact ⟨port_any h, rfl⟩
  · have : 0 ≤ n := of_decide_eq_true ha.symm
    unfold portB portsB
    rw [cond_true, cond_true, if_neg (by omega)]
    simp only [Bool.and_eq_true, decide_eq_true_eq]
    omega
theorem every_is (f : Fl) (h : ok f) : matB pE f = true := by
  have m : mayP pE = true := by unfold mayP pE spanB; simp [emp_nil, portsB]
  unfold matB
  rw [m]
  unfold pE inB
  dsimp only
  rw [emp_nil, port_any h.2.2.2.1, port_any h.2.2.2.2]
  rfl
theorem just_is (f : Fl) (h : ok f) (a b : Bool) (ha : a = decide (0 ≤ f.near)) (hb : b = decide (0 ≤ f.far)) : mayP (just f a b) = true ∧ matB (just f a b) f = true := by
  have p1 := port_one h.2.2.2.1 ha
  have p2 := port_one h.2.2.2.2 hb
  have s1 := span_one f.here h.2.1
  have s2 := span_one f.there (by have := h.1; have := h.2.1; omega)
  have m : mayP (just f a b) = true := by
    unfold mayP just
    dsimp only
    rw [s1, s2, p1.2, p2.2, decide_eq_true (show -1 ≤ f.pr by have := h.2.2.1.1; omega), decide_eq_true h.2.2.1.2]
    rfl
  refine ⟨m, ?_⟩
  unfold matB
  rw [m]
  unfold just
  dsimp only
  rw [in_one, in_one, p1.1, p2.1, decide_eq_true (rfl : f.pr = f.pr), Bool.or_true]
  rfl
theorem just_no (f : Fl) (h : ok f) (a b : Bool) (x : Int) (hx : x = (f.pr + 1) % 256) : matB (just f a b) ⟨f.here, f.there, x, f.near, f.far⟩ = false := by
  have e1 : decide (f.pr = -1) = false := decide_eq_false (by have := h.2.2.1.1; omega)
  have e2 : decide (f.pr = x) = false := decide_eq_false (by have := h.2.2.1; omega)
  unfold matB just
  dsimp only
  rw [e1, e2]
  simp
theorem bad_no (p : Pk) (f : Fl) (h : mayP p = false) : matB p f = false := by unfold matB; rw [h]; rfl
end Go.Proofs.Ytijlggfcinnfeaa.LawNoneD
