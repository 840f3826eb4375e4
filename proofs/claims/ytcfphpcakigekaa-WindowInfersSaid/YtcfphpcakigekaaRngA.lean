/- The document's examples. -/
import Derived.Test.YtcfphpcakigekaaRngU
set_option linter.unusedVariables false
namespace Go.Proofs.Ytcfphpcakigekaa.RngA
open Go.RowKit Go.Proofs.Ytcfphpcakigekaa.Sums Go.Proofs.Ytcfphpcakigekaa.Mem Go.Proofs.Ytcfphpcakigekaa.Blk Go.Proofs.Ytcfphpcakigekaa.Longs Go.Proofs.Ytcfphpcakigekaa.WinD Go.Proofs.Ytcfphpcakigekaa.WinA Go.Proofs.Ytcfphpcakigekaa.RngD Go.Proofs.Ytcfphpcakigekaa.Rng4 Go.Proofs.Ytcfphpcakigekaa.RngU

theorem a1 : chk 64 true [] 5 = 0 ∧ acc 64 true [] 5 = [5] := by decide +kernel
theorem a2 : chk 64 true [5] 5 = 120 ∧ acc 64 true [5] 5 = [5] := by decide +kernel
theorem a3 : chk 64 true [5] 100 = 0 ∧ acc 64 true [5] 100 = [5, 100] := by decide +kernel
theorem a4 : chk 64 true [5, 100] 36 = 120 ∧ acc 64 true [5, 100] 36 = [5, 100] := by decide +kernel
theorem a5 : chk 64 true [5, 100] 37 = 0 ∧ acc 64 true [5, 100] 37 = [5, 100, 37] := by decide +kernel
theorem a6 : chk 64 true [5, 100, 37] 4294967300 = 0 ∧ acc 64 true [5, 100, 37] 4294967300 = [5, 100, 37, 4294967300] := by decide +kernel
theorem a7 : inf 64 true [5, 100, 37, 4294967300] 5 = (4294967301, 0) := by decide +kernel
theorem a8 : inf 64 true [5, 100, 37, 4294967300] 4294967290 = (4294967290, 0) := by decide +kernel

set_option maxHeartbeats 1000000 in
theorem awake_any (w : World) : Calls Try.prog 9 #[] w fun e w' => e = .returned (.bool true) ∧ Below w.heap.size w w' := by
  have CN := Lib.hid (new_run (B := w.heap.size) (w0 := w) (w := w) 64 true (Nat.le_refl _) (Below.refl _ _) (by omega) (by omega))
  go_enter Try.func9, Try.ntmps9
  go_wp2_with fail
  refine CN.out.mono ?_
  rintro e w1 ⟨g, gr, rfl, h, _, _⟩
  have H1 := Lib.hid h
  clear CN h
  go_wp2_with fail
  have C1 := accept_run H1.out 5 (by decide)
  rw [a1.1, a1.2] at C1
  refine C1.mono ?_
  rintro e w2 ⟨rfl, h, _⟩
  have H2 := Lib.hid h
  clear C1 H1 h
  go_wp2_with fail
  have C1 := accept_run H2.out 5 (by decide)
  rw [a2.1, a2.2] at C1
  refine C1.mono ?_
  rintro e w3 ⟨rfl, h, _⟩
  have H3 := Lib.hid h
  clear C1 H2 h
  go_wp2_with fail
  have C1 := accept_run H3.out 100 (by decide)
  rw [a3.1, a3.2] at C1
  refine C1.mono ?_
  rintro e w4 ⟨rfl, h, _⟩
  have H4 := Lib.hid h
  clear C1 H3 h
  go_wp2_with fail
  have C1 := accept_run H4.out 36 (by decide)
  rw [a4.1, a4.2] at C1
  refine C1.mono ?_
  rintro e w5 ⟨rfl, h, _⟩
  have H5 := Lib.hid h
  clear C1 H4 h
  go_wp2_with fail
  have C1 := accept_run H5.out 37 (by decide)
  rw [a5.1, a5.2] at C1
  refine C1.mono ?_
  rintro e w6 ⟨rfl, h, _⟩
  have H6 := Lib.hid h
  clear C1 H5 h
  go_wp2_with fail
  have C1 := accept_run H6.out 4294967300 (by decide)
  rw [a6.1, a6.2] at C1
  refine C1.mono ?_
  rintro e w7 ⟨rfl, h, _⟩
  have H7 := Lib.hid h
  clear C1 H6 h
  go_wp2_with fail
  have C1 := infer_run H7.out 5
  rw [a7] at C1
  refine C1.mono ?_
  rintro e w8 ⟨rfl, h, _⟩
  have H8 := Lib.hid h
  clear C1 H7 h
  go_wp2_with fail
  have C1 := infer_run H8.out 4294967290
  rw [a8] at C1
  refine C1.mono ?_
  rintro e w9 ⟨rfl, h, _⟩
  have H9 := Lib.hid h
  clear C1 H8 h
  go_wp2_with fail
  go_ret
  exact ⟨rfl, H9.out.bel⟩
end Go.Proofs.Ytcfphpcakigekaa.RngA
