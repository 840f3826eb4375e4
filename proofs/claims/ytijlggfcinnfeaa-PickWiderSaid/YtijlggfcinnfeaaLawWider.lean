/- The law PickWider: its walk. -/
import Derived.Test.YtijlggfcinnfeaaLawFew15
import Derived.Lib.MinMax
set_option linter.unusedVariables false
namespace Go.Proofs.Ytijlggfcinnfeaa.LawWider
open Go.RowKit Go.Proofs.Ytijlggfcinnfeaa.Mem Go.Proofs.Ytijlggfcinnfeaa.Blk Go.Proofs.Ytijlggfcinnfeaa.Ahead Go.Proofs.Ytijlggfcinnfeaa.PickD Go.Proofs.Ytijlggfcinnfeaa.PickR1 Go.Proofs.Ytijlggfcinnfeaa.PickR2 Go.Proofs.Ytijlggfcinnfeaa.PickR3 Go.Proofs.Ytijlggfcinnfeaa.Pick1 Go.Proofs.Ytijlggfcinnfeaa.Pick2 Go.Proofs.Ytijlggfcinnfeaa.Pick3 Go.Proofs.Ytijlggfcinnfeaa.Pick4 Go.Proofs.Ytijlggfcinnfeaa.Free Go.Proofs.Ytijlggfcinnfeaa.Steps Go.Proofs.Ytijlggfcinnfeaa.Regs Go.Proofs.Ytijlggfcinnfeaa.Com Go.Proofs.Ytijlggfcinnfeaa.Pick5 Go.Proofs.Ytijlggfcinnfeaa.PickA Go.Proofs.Ytijlggfcinnfeaa.LawFew15

def wide (p : Pk) (a b c : Bool) (x0 x1 y0 y1 : Int) : Pk := ⟨bif a then ⟨#[]⟩ else p.hl, bif a then ⟨#[]⟩ else p.hh, bif b then ⟨#[]⟩ else p.tl, bif b then ⟨#[]⟩ else p.th, bif c then -1 else p.pr, x0, x1, y0, y1⟩
theorem ports_in {l h : Int} (k : portsB l h = true) : 0 ≤ l ∧ l ≤ h ∧ h ≤ 65535 := by
  unfold portsB at k
  simpa only [Bool.and_eq_true, decide_eq_true_eq] using k
theorem ports_wide {l h a b x y : Int} (k : portsB l h = true) (ha : 0 ≤ a) (hb : 0 ≤ b) (hx : x = max (l - a) 0) (hy : y = min (h + b) 65535) : portsB x y = true := by
  have := ports_in k
  unfold portsB
  simp only [Bool.and_eq_true, decide_eq_true_eq]
  omega
theorem port_wide {n l h a b x y : Int} (k : portsB l h = true) (q : portB n l h = true) (ha : 0 ≤ a) (hb : 0 ≤ b) (hx : x = max (l - a) 0) (hy : y = min (h + b) 65535) : portB n x y = true := by
  have := ports_in k
  unfold portB at q ⊢
  by_cases c : n < 0
  · rw [if_pos c] at q ⊢
    simp only [Bool.and_eq_true, decide_eq_true_eq] at q ⊢
    omega
  · rw [if_neg c] at q ⊢
    simp only [Bool.and_eq_true, decide_eq_true_eq] at q ⊢
    omega
theorem span_nil : spanB ⟨#[]⟩ ⟨#[]⟩ = true := by unfold spanB; rw [emp_nil]; rfl
theorem in_nil (a : ByteArray) : inB a ⟨#[]⟩ ⟨#[]⟩ = true := by unfold inB; rw [emp_nil]; rfl
theorem wider (p : Pk) (f : Fl) (h : matB p f = true) (lo hi : Int) (h0 : 0 ≤ lo) (h1 : 0 ≤ hi) (a b c : Bool) (x0 x1 y0 y1 : Int) (e0 : x0 = max (p.nl - lo) 0) (e1 : x1 = min (p.nh + hi) 65535) (e2 : y0 = max (p.fl - hi) 0) (e3 : y1 = min (p.fh + lo) 65535) :
    matB (wide p a b c x0 x1 y0 y1) f = true ∧ chkE (wide p a b c x0 x1 y0 y1) = 0 := by
  unfold matB mayP at h
  simp only [Bool.and_eq_true] at h
  obtain ⟨⟨m1, m2, m3, m4, m5, m6⟩, i1, i2, i3, i4, i5⟩ := h
  have w1 := ports_wide m5 h0 h1 e0 e1
  have w2 := ports_wide m6 h1 h0 e2 e3
  have w3 := port_wide m5 i4 h0 h1 e0 e1
  have w4 := port_wide m6 i5 h1 h0 e2 e3
  have hm : mayP (wide p a b c x0 x1 y0 y1) = true := by
    unfold mayP wide
    cases a <;> cases b <;> cases c <;> simp [m1, m2, w1, w2, span_nil, -Bool.and_eq_true, -decide_eq_true_eq] <;> simp_all
  refine ⟨?_, chk_0 hm⟩
  unfold matB
  rw [hm]
  unfold wide
  cases a <;> cases b <;> cases c <;> simp [i1, i2, w3, w4, in_nil, -Bool.and_eq_true, -decide_eq_true_eq] <;> simp_all
end Go.Proofs.Ytijlggfcinnfeaa.LawWider
