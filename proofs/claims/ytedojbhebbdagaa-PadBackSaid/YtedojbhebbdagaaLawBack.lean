/- The law PadBack: its walk. -/
import Derived.Test.YtedojbhebbdagaaPadU
set_option linter.unusedVariables false
namespace Go.Proofs.Ytedojbhebbdagaa.LawBack
open Go.RowKit Go.Proofs.Ytedojbhebbdagaa.Sums Go.Proofs.Ytedojbhebbdagaa.Mem Go.Proofs.Ytedojbhebbdagaa.Blk Go.Proofs.Ytedojbhebbdagaa.Bits Go.Proofs.Ytedojbhebbdagaa.Bits3 Go.Proofs.Ytedojbhebbdagaa.Ints Go.Proofs.Ytedojbhebbdagaa.Cut Go.Proofs.Ytedojbhebbdagaa.PadR Go.Proofs.Ytedojbhebbdagaa.PadO Go.Proofs.Ytedojbhebbdagaa.Pad1 Go.Proofs.Ytedojbhebbdagaa.Pad2 Go.Proofs.Ytedojbhebbdagaa.PadU

set_option maxHeartbeats 1000000 in
set_option maxRecDepth 100000 in
theorem big (A0 : Option Addr) (n0 c0 : Nat) (l0 : List Int) (x : Int) (w : World) (h0 : Holds w w.heap.size A0 n0 c0 l0) (m0 : n0 ≤ 140737488355328) (q : 3000 < n0) :
    Calls Try.prog 4 #[.slice A0 n0 c0, .int .i64 x] w fun e w' => e = .returned (.bool true) ∧ Below w.heap.size w w' := by
  have g0 : decide ((3000 : Int) < (n0 : Int)) = true := decide_eq_true (by omega)
  clear h0 m0 q
  go_enter Try.func4, Try.ntmps4
  go_wp2_with fail
  go_ret
  exact ⟨rfl, Below.refl _ _⟩

set_option maxHeartbeats 1000000 in
set_option maxRecDepth 100000 in
theorem lo (A0 : Option Addr) (n0 c0 : Nat) (l0 : List Int) (x : Int) (w : World) (h0 : Holds w w.heap.size A0 n0 c0 l0) (m0 : n0 ≤ 140737488355328) (q : n0 ≤ 3000) (q1 : x < 0) :
    Calls Try.prog 4 #[.slice A0 n0 c0, .int .i64 x] w fun e w' => e = .returned (.bool true) ∧ Below w.heap.size w w' := by
  have H0 := Lib.hid h0
  have NB := Lib.hid q
  have g0 : decide ((3000 : Int) < (n0 : Int)) = false := decide_eq_false (by omega)
  have e1 : slO l0 x = [] := if_pos (by omega)
  have e2 : slE n0 x = 1 := if_pos (by omega)
  have g1 : decide (x < 0) = true := decide_eq_true (by omega)
  have C := Lib.hid (seal_u A0 n0 c0 l0 x w w.heap.size h0 (Nat.le_refl _) m0)
  rw [e1, e2] at C
  clear h0 m0 q q1 e1 e2
  go_enter Try.func4, Try.ntmps4
  go_wp2_with fail
  refine C.out.mono ?_
  rintro e w1 ⟨A1, c1, rfl, hh, hb⟩
  have B1 := Lib.hid hb
  clear hh hb C H0 NB
  rw [show ([] : List Int).length = 0 from rfl]
  go_wp2_with fail
  refine (awake_any w1).mono ?_
  rintro e w2 ⟨rfl, hb⟩
  have B2 := Lib.hid (B1.out.trans (hb.mono B1.out.size))
  clear hb
  go_wp2_with fail
  go_ret
  exact ⟨rfl, B2.out⟩

set_option maxHeartbeats 1000000 in
set_option maxRecDepth 100000 in
theorem hi (A0 : Option Addr) (n0 c0 : Nat) (l0 : List Int) (x : Int) (w : World) (h0 : Holds w w.heap.size A0 n0 c0 l0) (m0 : n0 ≤ 140737488355328) (q : n0 ≤ 3000) (q1 : 255 < x) :
    Calls Try.prog 4 #[.slice A0 n0 c0, .int .i64 x] w fun e w' => e = .returned (.bool true) ∧ Below w.heap.size w w' := by
  have H0 := Lib.hid h0
  have NB := Lib.hid q
  have g0 : decide ((3000 : Int) < (n0 : Int)) = false := decide_eq_false (by omega)
  have e1 : slO l0 x = [] := if_pos (by omega)
  have e2 : slE n0 x = 1 := if_pos (by omega)
  have g1 : decide (x < 0) = false := decide_eq_false (by omega)
  have g2 : decide (255 < x) = true := decide_eq_true (by omega)
  have C := Lib.hid (seal_u A0 n0 c0 l0 x w w.heap.size h0 (Nat.le_refl _) m0)
  rw [e1, e2] at C
  clear h0 m0 q q1 e1 e2
  go_enter Try.func4, Try.ntmps4
  go_wp2_with fail
  refine C.out.mono ?_
  rintro e w1 ⟨A1, c1, rfl, hh, hb⟩
  have B1 := Lib.hid hb
  clear hh hb C H0 NB
  rw [show ([] : List Int).length = 0 from rfl]
  go_wp2_with fail
  refine (awake_any w1).mono ?_
  rintro e w2 ⟨rfl, hb⟩
  have B2 := Lib.hid (B1.out.trans (hb.mono B1.out.size))
  clear hb
  go_wp2_with fail
  go_ret
  exact ⟨rfl, B2.out⟩

set_option maxHeartbeats 2000000 in
set_option maxRecDepth 100000 in
theorem main (A0 : Option Addr) (n0 c0 : Nat) (l0 : List Int) (x : Int) (w : World) (h0 : Holds w w.heap.size A0 n0 c0 l0) (m0 : n0 ≤ 140737488355328) (q : n0 ≤ 3000) (q1 : 0 ≤ x) (q2 : x ≤ 255) :
    Calls Try.prog 4 #[.slice A0 n0 c0, .int .i64 x] w fun e w' => e = .returned (.bool true) ∧ Below w.heap.size w w' := by
  have H0 := Lib.hid h0
  have NB := Lib.hid q
  have g0 : decide ((3000 : Int) < (n0 : Int)) = false := decide_eq_false (by omega)
  have e2 : slE n0 x = 0 := by rw [slE, if_neg (by omega), if_neg (by omega)]
  have e1 : slO l0 x = sealed l0 x := by rw [slO, if_neg (by omega), if_neg (by rw [h0.1]; omega)]
  have C := Lib.hid (seal_u A0 n0 c0 l0 x w w.heap.size h0 (Nat.le_refl _) m0)
  rw [e1, e2] at C
  unfold Ans at C
  rw [sealed_len, h0.1] at C
  have OR : opE (sealed l0 x) = 0 ∧ opO (sealed l0 x) = l0 ∧ opY (sealed l0 x) = x := open_row l0 (cnt l0.length) x
  have HL := Lib.hid h0.1
  obtain ⟨L, hL⟩ : ∃ L, L = long n0 := ⟨_, rfl⟩
  have LE : lengthI (n0 : Int) = L := by rw [hL, lengthI, if_neg (by omega), Int.toNat_natCast]
  have LC := cnt_long n0
  have LT := cnt_lt n0
  have L4 : L % 4 = 0 := by rw [hL, long]; omega
  rw [← hL] at C LC
  have LB : L ≤ 3005 := by omega
  have C3 : Hid (∀ (A : Option Addr) (c : Nat) (W : World), Holds W W.heap.size A L c (sealed l0 x) → Calls Try.prog 10 #[.slice A L c] W (Ans3 W l0 x 0)) := Lib.hid fun A c W hW => by
    have := open_u A L c (sealed l0 x) W _ hW (Nat.le_refl _) (by omega)
    rwa [OR.1, OR.2.1, OR.2.2] at this
  have f1 : (L : Int).tmod 4 = 0 := by rw [Int.tmod_eq_emod_of_nonneg (by omega)]; omega
  have f2 : IntKind.i64.wrap ((L : Int) - (n0 : Int)) = (L : Int) - (n0 : Int) := IntWalk.i64_in _ (by omega)
  have g6 : decide (2 ≤ (L : Int) - (n0 : Int)) = true := decide_eq_true (by omega)
  have g7 : decide ((L : Int) - (n0 : Int) ≤ 5) = true := decide_eq_true (by omega)
  have CL : Hid (∀ W : World, Calls Try.prog 13 #[.int .i64 (n0 : Int)] W fun e w' => e = .returned (.int .i64 (L : Int)) ∧ W = w') := Lib.hid fun W => by
    have := length_no (n0 : Int) (by omega) W
    rwa [LE] at this
  have B0 := Lib.hid (Below.refl w.heap.size w)
  generalize sealed l0 x = S at *
  clear h0 m0 q q1 q2 e1 e2 OR hL LE LC LT L4 LB
  go_enter Try.func4, Try.ntmps4
  go_wp2_with fail
  refine C.out.mono ?_
  rintro e w1 ⟨A1, c1, rfl, hh, hb⟩
  have H1 := Lib.hid hh
  have B1 := Lib.hid hb
  replace H0 := Lib.hid ((H0.out.below hb).more hb.size)
  clear hh hb C
  go_wp2_with fail
  have C4 := Lib.hid (C3.out A1 c1 w1 H1.out)
  unfold Ans3 at C4
  rw [HL.out] at C4
  refine C4.out.mono ?_
  rintro e w2 ⟨A2, c2, rfl, hh, hb⟩
  have H2 := Lib.hid hh
  have B2 := Lib.hid (B1.out.trans (hb.mono B1.out.size))
  replace H0 := Lib.hid ((H0.out.below hb).more hb.size)
  clear hh hb C4 C3
  go_wp2_with fail
  refine (awake_any w2).mono ?_
  rintro e w3 ⟨rfl, hb⟩
  have B3 := Lib.hid (B2.out.trans (hb.mono B2.out.size))
  have s0 := run_string_bytes (H0.out.below hb)
  have s2 := run_string_bytes (H2.out.below hb)
  generalize strOfNums l0 = t0 at *
  clear hb H0 H1 H2 NB HL
  go_wp2_with fail
  refine (CL.out w3).mono ?_
  rintro e w' ⟨rfl, rfl⟩
  go_wp2_with fail
  go_ret
  exact ⟨rfl, B3.out⟩

theorem back_any (A0 : Option Addr) (n0 c0 : Nat) (l0 : List Int) (x : Int) (w : World) (h0 : Holds w w.heap.size A0 n0 c0 l0) (m0 : n0 ≤ 140737488355328) :
    Calls Try.prog 4 #[.slice A0 n0 c0, .int .i64 x] w fun e w' => e = .returned (.bool true) ∧ Below w.heap.size w w' := by
  by_cases q : 3000 < n0
  · exact big A0 n0 c0 l0 x w h0 m0 q
  · by_cases q1 : x < 0
    · exact lo A0 n0 c0 l0 x w h0 m0 (by omega) q1
    · by_cases q2 : 255 < x
      · exact hi A0 n0 c0 l0 x w h0 m0 (by omega) q2
      · exact main A0 n0 c0 l0 x w h0 m0 (by omega) (by omega) (by omega)
end Go.Proofs.Ytedojbhebbdagaa.LawBack
