/- The law PadSeals: its walk. -/
import Derived.Test.YtedojbhebbdagaaPadU
set_option linter.unusedVariables false
namespace Go.Proofs.Ytedojbhebbdagaa.LawSeals
open Go.RowKit Go.Proofs.Ytedojbhebbdagaa.Sums Go.Proofs.Ytedojbhebbdagaa.Mem Go.Proofs.Ytedojbhebbdagaa.Blk Go.Proofs.Ytedojbhebbdagaa.Bits Go.Proofs.Ytedojbhebbdagaa.Bits3 Go.Proofs.Ytedojbhebbdagaa.Ints Go.Proofs.Ytedojbhebbdagaa.Cut Go.Proofs.Ytedojbhebbdagaa.PadR Go.Proofs.Ytedojbhebbdagaa.PadO Go.Proofs.Ytedojbhebbdagaa.Pad1 Go.Proofs.Ytedojbhebbdagaa.Pad2 Go.Proofs.Ytedojbhebbdagaa.PadU

set_option maxHeartbeats 1000000 in
set_option maxRecDepth 100000 in
theorem big (A0 : Option Addr) (n0 c0 : Nat) (l0 : List Int) (x n : Int) (w : World) (h0 : Holds w w.heap.size A0 n0 c0 l0) (m0 : n0 ≤ 140737488355328) (q : (3000 < n0 ∧ n0 < 65000) ∨ 66000 < n0 ∨ (n0 ≤ 3000 ∧ 1000000 < n) ∨ (65000 ≤ n0 ∧ n0 ≤ 66000 ∧ 1000000 < n)) :
    Calls Try.prog 3 #[.slice A0 n0 c0, .int .i64 x, .int .i64 n] w fun e w' => e = .returned (.bool true) ∧ Below w.heap.size w w' := by
  rcases q with q | q | q | q
  · have g0 : decide ((3000 : Int) < (n0 : Int)) = true := decide_eq_true (by omega)
    have g1 : decide ((n0 : Int) < (65000 : Int)) = true := decide_eq_true (by omega)
    clear h0 m0 q
    go_enter Try.func3, Try.ntmps3
    go_wp2_with fail
    go_ret
    exact ⟨rfl, Below.refl _ _⟩
  · have g0 : decide ((3000 : Int) < (n0 : Int)) = true := decide_eq_true (by omega)
    have g1 : decide ((n0 : Int) < (65000 : Int)) = false := decide_eq_false (by omega)
    have g2 : decide ((66000 : Int) < (n0 : Int)) = true := decide_eq_true (by omega)
    clear h0 m0 q
    go_enter Try.func3, Try.ntmps3
    go_wp2_with fail
    go_ret
    exact ⟨rfl, Below.refl _ _⟩
  · have g0 : decide ((3000 : Int) < (n0 : Int)) = false := decide_eq_false (by omega)
    have g1 : decide ((66000 : Int) < (n0 : Int)) = false := decide_eq_false (by omega)
    have g2 : decide (1000000 < n) = true := decide_eq_true (by omega)
    clear h0 m0 q
    go_enter Try.func3, Try.ntmps3
    go_wp2_with fail
    go_ret
    exact ⟨rfl, Below.refl _ _⟩
  · have g0 : decide ((3000 : Int) < (n0 : Int)) = true := decide_eq_true (by omega)
    have g1 : decide ((n0 : Int) < (65000 : Int)) = false := decide_eq_false (by omega)
    have g2 : decide ((66000 : Int) < (n0 : Int)) = false := decide_eq_false (by omega)
    have g3 : decide (1000000 < n) = true := decide_eq_true (by omega)
    clear h0 m0 q
    go_enter Try.func3, Try.ntmps3
    go_wp2_with fail
    go_ret
    exact ⟨rfl, Below.refl _ _⟩

set_option maxHeartbeats 2000000 in
set_option maxRecDepth 100000 in
theorem main_a (A0 : Option Addr) (n0 c0 : Nat) (l0 : List Int) (x n : Int) (w : World) (h0 : Holds w w.heap.size A0 n0 c0 l0) (m0 : n0 ≤ 140737488355328) (q : n0 ≤ 3000) (q2 : n ≤ 1000000) :
    Calls Try.prog 3 #[.slice A0 n0 c0, .int .i64 x, .int .i64 n] w fun e w' => e = .returned (.bool true) ∧ Below w.heap.size w w' := by
  have g0 : decide ((3000 : Int) < (n0 : Int)) = false := decide_eq_false (by omega)
  have g2 : decide ((66000 : Int) < (n0 : Int)) = false := decide_eq_false (by omega)
  have g3 : decide (1000000 < n) = false := decide_eq_false (by omega)
  have H0 := Lib.hid h0
  have NB := Lib.hid (show n0 ≤ 66000 by omega)
  have NX := Lib.hid q2
  clear h0 m0 q q2
  go_enter Try.func3, Try.ntmps3
  go_wp2_with fail
  refine (both_one A0 n0 c0 l0 w w.heap.size H0.out (Nat.le_refl _) (by have := NB.out; omega) _ rfl _ rfl).mono ?_
  rintro e w1 ⟨A1, c1, rfl, hh, _, hb⟩
  have H1 := Lib.hid hh
  have B1 := Lib.hid hb
  replace H0 := Lib.hid ((H0.out.below hb).more hb.size)
  clear hh hb
  go_wp2_with fail
  refine (seal_u A1 n0 c1 l0 x w1 w1.heap.size H1.out (Nat.le_refl _) (by have := NB.out; omega)).mono ?_
  rintro e w2 ⟨A2, c2, rfl, hh, hb⟩
  have H2 := Lib.hid hh
  have B2 := Lib.hid (B1.out.trans (hb.mono B1.out.size))
  replace H0 := Lib.hid ((H0.out.below hb).more hb.size)
  replace H1 := Lib.hid ((H1.out.below hb).more hb.size)
  clear hh hb
  go_wp2_with fail
  refine (seal_ru A0 n0 c0 l0 x w2 w2.heap.size H0.out (Nat.le_refl _) (by have := NB.out; omega)).mono ?_
  rintro e w3 ⟨A3, c3, rfl, hh, hb⟩
  have H3 := Lib.hid hh
  have B3 := Lib.hid (B2.out.trans (hb.mono B2.out.size))
  replace H0 := Lib.hid ((H0.out.below hb).more hb.size)
  replace H1 := Lib.hid ((H1.out.below hb).more hb.size)
  replace H2 := Lib.hid ((H2.out.below hb).more hb.size)
  clear hh hb
  go_wp2_with fail
  refine (open_u A1 n0 c1 l0 w3 w3.heap.size H1.out (Nat.le_refl _) (by have := NB.out; omega)).mono ?_
  rintro e w4 ⟨A4, c4, rfl, hh, hb⟩
  have H4 := Lib.hid hh
  have B4 := Lib.hid (B3.out.trans (hb.mono B3.out.size))
  replace H0 := Lib.hid ((H0.out.below hb).more hb.size)
  replace H1 := Lib.hid ((H1.out.below hb).more hb.size)
  replace H2 := Lib.hid ((H2.out.below hb).more hb.size)
  replace H3 := Lib.hid ((H3.out.below hb).more hb.size)
  clear hh hb
  go_wp2_with fail
  refine (open_ru A0 n0 c0 l0 w4 w4.heap.size H0.out (Nat.le_refl _) (by have := NB.out; omega)).mono ?_
  rintro e w5 ⟨A5, c5, rfl, hh, hb⟩
  have H5 := Lib.hid hh
  have B5 := Lib.hid (B4.out.trans (hb.mono B4.out.size))
  replace H0 := Lib.hid ((H0.out.below hb).more hb.size)
  replace H1 := Lib.hid ((H1.out.below hb).more hb.size)
  replace H2 := Lib.hid ((H2.out.below hb).more hb.size)
  replace H3 := Lib.hid ((H3.out.below hb).more hb.size)
  replace H4 := Lib.hid ((H4.out.below hb).more hb.size)
  clear hh hb
  go_wp2_with fail
  refine (awake_any w5).mono ?_
  rintro e w6 ⟨rfl, hb⟩
  have B6 := Lib.hid (B5.out.trans (hb.mono B5.out.size))
  have s0 := run_string_bytes (H0.out.below hb)
  have s1 := run_string_bytes (H1.out.below hb)
  have s2 := run_string_bytes (H2.out.below hb)
  have s3 := run_string_bytes (H3.out.below hb)
  have s4 := run_string_bytes (H4.out.below hb)
  have s5 := run_string_bytes (H5.out.below hb)
  generalize slO l0 x = X at *
  generalize slE n0 x = er at *
  generalize opO l0 = Y at *
  generalize opY l0 = y at *
  generalize opE l0 = eo at *
  generalize strOfNums l0 = t0 at *
  generalize strOfNums X = t1 at *
  generalize strOfNums Y = t2 at *
  have L1 := Lib.hid (length_no n (by have := NX.out; omega) w6)
  have L2 := Lib.hid (length_ref n NX.out w6)
  generalize lengthI n = L at *
  clear hb H0 H1 H2 H3 H4 H5 NX NB
  go_wp2_with fail
  refine L1.out.mono ?_
  rintro e w' ⟨rfl, rfl⟩
  go_wp2_with fail
  refine L2.out.mono ?_
  rintro e w' ⟨rfl, rfl⟩
  go_wp2_with fail
  go_ret
  exact ⟨rfl, B6.out⟩

set_option maxHeartbeats 2000000 in
set_option maxRecDepth 100000 in
theorem main_b (A0 : Option Addr) (n0 c0 : Nat) (l0 : List Int) (x n : Int) (w : World) (h0 : Holds w w.heap.size A0 n0 c0 l0) (m0 : n0 ≤ 140737488355328) (q : 65000 ≤ n0 ∧ n0 ≤ 66000) (q2 : n ≤ 1000000) :
    Calls Try.prog 3 #[.slice A0 n0 c0, .int .i64 x, .int .i64 n] w fun e w' => e = .returned (.bool true) ∧ Below w.heap.size w w' := by
  have g0 : decide ((3000 : Int) < (n0 : Int)) = true := decide_eq_true (by omega)
  have g1 : decide ((n0 : Int) < (65000 : Int)) = false := decide_eq_false (by omega)
  have g2 : decide ((66000 : Int) < (n0 : Int)) = false := decide_eq_false (by omega)
  have g3 : decide (1000000 < n) = false := decide_eq_false (by omega)
  have H0 := Lib.hid h0
  have NB := Lib.hid (show n0 ≤ 66000 by omega)
  have NX := Lib.hid q2
  clear h0 m0 q q2
  go_enter Try.func3, Try.ntmps3
  go_wp2_with fail
  refine (both_one A0 n0 c0 l0 w w.heap.size H0.out (Nat.le_refl _) (by have := NB.out; omega) _ rfl _ rfl).mono ?_
  rintro e w1 ⟨A1, c1, rfl, hh, _, hb⟩
  have H1 := Lib.hid hh
  have B1 := Lib.hid hb
  replace H0 := Lib.hid ((H0.out.below hb).more hb.size)
  clear hh hb
  go_wp2_with fail
  refine (seal_u A1 n0 c1 l0 x w1 w1.heap.size H1.out (Nat.le_refl _) (by have := NB.out; omega)).mono ?_
  rintro e w2 ⟨A2, c2, rfl, hh, hb⟩
  have H2 := Lib.hid hh
  have B2 := Lib.hid (B1.out.trans (hb.mono B1.out.size))
  replace H0 := Lib.hid ((H0.out.below hb).more hb.size)
  replace H1 := Lib.hid ((H1.out.below hb).more hb.size)
  clear hh hb
  go_wp2_with fail
  refine (seal_ru A0 n0 c0 l0 x w2 w2.heap.size H0.out (Nat.le_refl _) (by have := NB.out; omega)).mono ?_
  rintro e w3 ⟨A3, c3, rfl, hh, hb⟩
  have H3 := Lib.hid hh
  have B3 := Lib.hid (B2.out.trans (hb.mono B2.out.size))
  replace H0 := Lib.hid ((H0.out.below hb).more hb.size)
  replace H1 := Lib.hid ((H1.out.below hb).more hb.size)
  replace H2 := Lib.hid ((H2.out.below hb).more hb.size)
  clear hh hb
  go_wp2_with fail
  refine (open_u A1 n0 c1 l0 w3 w3.heap.size H1.out (Nat.le_refl _) (by have := NB.out; omega)).mono ?_
  rintro e w4 ⟨A4, c4, rfl, hh, hb⟩
  have H4 := Lib.hid hh
  have B4 := Lib.hid (B3.out.trans (hb.mono B3.out.size))
  replace H0 := Lib.hid ((H0.out.below hb).more hb.size)
  replace H1 := Lib.hid ((H1.out.below hb).more hb.size)
  replace H2 := Lib.hid ((H2.out.below hb).more hb.size)
  replace H3 := Lib.hid ((H3.out.below hb).more hb.size)
  clear hh hb
  go_wp2_with fail
  refine (open_ru A0 n0 c0 l0 w4 w4.heap.size H0.out (Nat.le_refl _) (by have := NB.out; omega)).mono ?_
  rintro e w5 ⟨A5, c5, rfl, hh, hb⟩
  have H5 := Lib.hid hh
  have B5 := Lib.hid (B4.out.trans (hb.mono B4.out.size))
  replace H0 := Lib.hid ((H0.out.below hb).more hb.size)
  replace H1 := Lib.hid ((H1.out.below hb).more hb.size)
  replace H2 := Lib.hid ((H2.out.below hb).more hb.size)
  replace H3 := Lib.hid ((H3.out.below hb).more hb.size)
  replace H4 := Lib.hid ((H4.out.below hb).more hb.size)
  clear hh hb
  go_wp2_with fail
  refine (awake_any w5).mono ?_
  rintro e w6 ⟨rfl, hb⟩
  have B6 := Lib.hid (B5.out.trans (hb.mono B5.out.size))
  have s0 := run_string_bytes (H0.out.below hb)
  have s1 := run_string_bytes (H1.out.below hb)
  have s2 := run_string_bytes (H2.out.below hb)
  have s3 := run_string_bytes (H3.out.below hb)
  have s4 := run_string_bytes (H4.out.below hb)
  have s5 := run_string_bytes (H5.out.below hb)
  generalize slO l0 x = X at *
  generalize slE n0 x = er at *
  generalize opO l0 = Y at *
  generalize opY l0 = y at *
  generalize opE l0 = eo at *
  generalize strOfNums l0 = t0 at *
  generalize strOfNums X = t1 at *
  generalize strOfNums Y = t2 at *
  have L1 := Lib.hid (length_no n (by have := NX.out; omega) w6)
  have L2 := Lib.hid (length_ref n NX.out w6)
  generalize lengthI n = L at *
  clear hb H0 H1 H2 H3 H4 H5 NX NB
  go_wp2_with fail
  refine L1.out.mono ?_
  rintro e w' ⟨rfl, rfl⟩
  go_wp2_with fail
  refine L2.out.mono ?_
  rintro e w' ⟨rfl, rfl⟩
  go_wp2_with fail
  go_ret
  exact ⟨rfl, B6.out⟩

theorem seals_any (A0 : Option Addr) (n0 c0 : Nat) (l0 : List Int) (x n : Int) (w : World) (h0 : Holds w w.heap.size A0 n0 c0 l0) (m0 : n0 ≤ 140737488355328) :
    Calls Try.prog 3 #[.slice A0 n0 c0, .int .i64 x, .int .i64 n] w fun e w' => e = .returned (.bool true) ∧ Below w.heap.size w w' := by
  by_cases q0 : (3000 < n0 ∧ n0 < 65000) ∨ 66000 < n0 ∨ (n0 ≤ 3000 ∧ 1000000 < n) ∨ (65000 ≤ n0 ∧ n0 ≤ 66000 ∧ 1000000 < n)
  · exact big A0 n0 c0 l0 x n w h0 m0 q0
  · by_cases q1 : n0 ≤ 3000
    · exact main_a A0 n0 c0 l0 x n w h0 m0 q1 (by omega)
    · exact main_b A0 n0 c0 l0 x n w h0 m0 (by omega) (by omega)
end Go.Proofs.Ytedojbhebbdagaa.LawSeals
