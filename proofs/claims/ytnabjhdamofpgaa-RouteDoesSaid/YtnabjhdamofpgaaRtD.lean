/- The code's table: how it lies in memory. -/
import Derived.Test.YtnabjhdamofpgaaTabM
import Derived.Test.YtnabjhdamofpgaaInsT
import Derived.Test.YtnabjhdamofpgaaDelT
import Derived.Test.YtnabjhdamofpgaaMask
import Derived.Test.YtnabjhdamofpgaaIn
import Derived.Test.YtnabjhdamofpgaaCmp
set_option linter.unusedVariables false
namespace Go.Proofs.Ytnabjhdamofpgaa.RtD
open Go.RowKit Go.PlainAid Go.Proofs.Ytnabjhdamofpgaa.Sums Go.Proofs.Ytnabjhdamofpgaa.Mem Go.Proofs.Ytnabjhdamofpgaa.Blk Go.Proofs.Ytnabjhdamofpgaa.Grp Go.Proofs.Ytnabjhdamofpgaa.AdrD Go.Proofs.Ytnabjhdamofpgaa.AdrR Go.Proofs.Ytnabjhdamofpgaa.Steps Go.Proofs.Ytnabjhdamofpgaa.Com Go.Proofs.Ytnabjhdamofpgaa.RowN Go.Proofs.Ytnabjhdamofpgaa.RowA Go.Proofs.Ytnabjhdamofpgaa.ArgT Go.Proofs.Ytnabjhdamofpgaa.TabD Go.Proofs.Ytnabjhdamofpgaa.TabOps Go.Proofs.Ytnabjhdamofpgaa.TabM Go.Proofs.Ytnabjhdamofpgaa.Free

abbrev FN : Value := .func (.func 22) #[] #[]
theorem good_size {r : RouteR} (h : GoodR r) : r.x0.size ≤ 16 ∧ r.x2.size ≤ 16 := by
  have z := h.1
  have v := h.2.2.1
  unfold fitB at z
  simp only [Bool.and_eq_true, Bool.or_eq_true, beq_iff_eq, decide_eq_true_eq] at z
  omega
/-- A table lies at g: its order, its routes, in blocks that are none of F. -/
structure RtAt (F : Nat → Prop) (w : World) (g : Nat) (rs : List RouteR) : Prop where
  ex : ∃ A c, Blk w g 54 #[FN, .slice A rs.length c] ∧ RowAt RT 4 w A rs.length c (rs.flatMap RouteR.cells) ∧ ¬ F g ∧ (∀ k, own A k → ¬ F k) ∧ ¬ own A g
  tab : Tab rs
  few : rs.length ≤ 64
section
variable {F G : Nat → Prop} {w w' : World} {g : Nat} {rs : List RouteR}
theorem RtAt.mono (h : RtAt F w g rs) (hg : ∀ k, k < w.heap.size → G k → F k) : RtAt G w g rs := by
  obtain ⟨⟨A, c, h1, h2, h3, h4, h5⟩, ok, few⟩ := h
  exact ⟨⟨A, c, h1, h2, fun z => h3 (hg _ h1.lt z), fun k hk z => h4 k hk (hg _ (h2.lt hk) z), h5⟩, ok, few⟩
theorem RtAt.below (h : RtAt F w g rs) (hb : Below w.heap.size w w') : RtAt F w' g rs := by
  obtain ⟨⟨A, c, h1, h2, h3, h4, h5⟩, ok, few⟩ := h
  exact ⟨⟨A, c, h1.below hb h1.lt, h2.below hb, h3, h4, h5⟩, ok, few⟩
/-- What is new is foreign to it. -/
theorem RtAt.widen (h : RtAt F w g rs) (hb : Below w.heap.size w w') : RtAt (fun k => F k ∨ w.heap.size ≤ k) w' g rs := by
  obtain ⟨⟨A, c, h1, h2, h3, h4, h5⟩, ok, few⟩ := h
  refine ⟨⟨A, c, h1.below hb h1.lt, h2.below hb, ?_, ?_, h5⟩, ok, few⟩
  · have := h1.lt
    rintro (z | z)
    · exact h3 z
    · omega
  · intro k hk
    have := h2.lt hk
    rintro (z | z)
    · exact h4 k hk z
    · omega
theorem RtAt.lt (h : RtAt F w g rs) : g < w.heap.size := by
  obtain ⟨⟨A, c, h1, _⟩, _⟩ := h
  exact h1.lt
end
end Go.Proofs.Ytnabjhdamofpgaa.RtD
