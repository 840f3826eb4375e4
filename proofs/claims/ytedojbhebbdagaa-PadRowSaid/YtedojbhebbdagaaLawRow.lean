/- The law PadRow: its walk. -/
import Derived.Test.YtedojbhebbdagaaPadU
set_option linter.unusedVariables false
namespace Go.Proofs.Ytedojbhebbdagaa.LawRow
open Go.RowKit Go.Proofs.Ytedojbhebbdagaa.Sums Go.Proofs.Ytedojbhebbdagaa.Mem Go.Proofs.Ytedojbhebbdagaa.Blk Go.Proofs.Ytedojbhebbdagaa.Bits Go.Proofs.Ytedojbhebbdagaa.Bits3 Go.Proofs.Ytedojbhebbdagaa.Ints Go.Proofs.Ytedojbhebbdagaa.Cut Go.Proofs.Ytedojbhebbdagaa.PadR Go.Proofs.Ytedojbhebbdagaa.PadO Go.Proofs.Ytedojbhebbdagaa.Pad1 Go.Proofs.Ytedojbhebbdagaa.Pad2 Go.Proofs.Ytedojbhebbdagaa.PadU

set_option maxHeartbeats 1000000 in
set_option maxRecDepth 100000 in
theorem big (A0 : Option Addr) (n0 c0 : Nat) (l0 : List Int) (x y : Int) (w : World) (h0 : Holds w w.heap.size A0 n0 c0 l0) (m0 : n0 ≤ 140737488355328) (q : (2000 < n0) ∨ (n0 ≤ 2000 ∧ x < 0) ∨ (n0 ≤ 2000 ∧ 255 < x) ∨ (n0 ≤ 2000 ∧ 0 ≤ x ∧ x ≤ 255 ∧ y < 0) ∨ (n0 ≤ 2000 ∧ 0 ≤ x ∧ x ≤ 255 ∧ 255 < y)) :
    Calls Try.prog 6 #[.slice A0 n0 c0, .int .i64 x, .int .i64 y] w fun e w' => e = .returned (.bool true) ∧ Below w.heap.size w w' := by
  rcases q with q | q | q | q | q
  · have g0 : decide ((2000 : Int) < (n0 : Int)) = true := decide_eq_true (by omega)
    clear h0 m0 q
    go_enter Try.func6, Try.ntmps6
    go_wp2_with fail
    go_ret
    exact ⟨rfl, Below.refl _ _⟩
  · have g0 : decide ((2000 : Int) < (n0 : Int)) = false := decide_eq_false (by omega)
    have g1 : decide (x < 0) = true := decide_eq_true (by omega)
    clear h0 m0 q
    go_enter Try.func6, Try.ntmps6
    go_wp2_with fail
    go_ret
    exact ⟨rfl, Below.refl _ _⟩
  · have g0 : decide ((2000 : Int) < (n0 : Int)) = false := decide_eq_false (by omega)
    have g1 : decide (x < 0) = false := decide_eq_false (by omega)
    have g2 : decide (255 < x) = true := decide_eq_true (by omega)
    clear h0 m0 q
    go_enter Try.func6, Try.ntmps6
    go_wp2_with fail
    go_ret
    exact ⟨rfl, Below.refl _ _⟩
  · have g0 : decide ((2000 : Int) < (n0 : Int)) = false := decide_eq_false (by omega)
    have g1 : decide (x < 0) = false := decide_eq_false (by omega)
    have g2 : decide (255 < x) = false := decide_eq_false (by omega)
    have g3 : decide (y < 0) = true := decide_eq_true (by omega)
    clear h0 m0 q
    go_enter Try.func6, Try.ntmps6
    go_wp2_with fail
    go_ret
    exact ⟨rfl, Below.refl _ _⟩
  · have g0 : decide ((2000 : Int) < (n0 : Int)) = false := decide_eq_false (by omega)
    have g1 : decide (x < 0) = false := decide_eq_false (by omega)
    have g2 : decide (255 < x) = false := decide_eq_false (by omega)
    have g3 : decide (y < 0) = false := decide_eq_false (by omega)
    have g4 : decide (255 < y) = true := decide_eq_true (by omega)
    clear h0 m0 q
    go_enter Try.func6, Try.ntmps6
    go_wp2_with fail
    go_ret
    exact ⟨rfl, Below.refl _ _⟩

set_option maxHeartbeats 2000000 in
set_option maxRecDepth 100000 in
theorem main (A0 : Option Addr) (n0 c0 : Nat) (l0 : List Int) (x y : Int) (w : World) (h0 : Holds w w.heap.size A0 n0 c0 l0) (m0 : n0 ≤ 140737488355328) (q : n0 ≤ 2000) (q1 : 0 ≤ x) (q2 : x ≤ 255) (q3 : 0 ≤ y) (q4 : y ≤ 255) :
    Calls Try.prog 6 #[.slice A0 n0 c0, .int .i64 x, .int .i64 y] w fun e w' => e = .returned (.bool true) ∧ Below w.heap.size w w' := by
  have H0 := Lib.hid h0
  have g0 : decide ((2000 : Int) < (n0 : Int)) = false := decide_eq_false (by omega)
  have g1 : decide (x < 0) = false := decide_eq_false (by omega)
  have g2 : decide (255 < x) = false := decide_eq_false (by omega)
  have g3 : decide (y < 0) = false := decide_eq_false (by omega)
  have g4 : decide (255 < y) = false := decide_eq_false (by omega)
  have e2 : slE n0 x = 0 := by rw [slE, if_neg (by omega), if_neg (by omega)]
  have e1 : slO l0 x = sealed l0 x := by rw [slO, if_neg (by omega), if_neg (by rw [h0.1]; omega)]
  have C := Lib.hid (seal_u A0 n0 c0 l0 x w w.heap.size h0 (Nat.le_refl _) m0)
  rw [e1, e2] at C
  have OR : opE (sealed l0 x) = 0 ∧ opO (sealed l0 x) = l0 ∧ opY (sealed l0 x) = x := open_row l0 (cnt l0.length) x
  have LC := cnt_long n0
  have LT := cnt_lt n0
  have hs : (sealed l0 x).length = long n0 := by rw [sealed_len, h0.1]
  obtain ⟨S, hS⟩ : ∃ S, S = sealed l0 x := ⟨_, rfl⟩
  rw [← hS] at C OR hs
  have hs2 : S.length ≤ 3000 := by omega
  have e3 : slE S.length y = 0 := by rw [slE, if_neg (by omega), if_neg (by omega)]
  have e4 : slO S y = sealed S y := by rw [slO, if_neg (by omega), if_neg (by omega)]
  have OR2 : opE (sealed S y) = 0 ∧ opO (sealed S y) = S ∧ opY (sealed S y) = y := open_row S (cnt S.length) y
  have hs3 : (sealed S y).length ≤ 4000 := by rw [sealed_len]; have := cnt_long S.length; have := cnt_lt S.length; omega
  obtain ⟨V, hV⟩ : ∃ V, V = sealed S y := ⟨_, rfl⟩
  rw [← hV] at OR2 hs3 e4
  have C2 : Hid (∀ (A : Option Addr) (c : Nat) (W : World), Holds W W.heap.size A S.length c S → Calls Try.prog 8 #[.slice A S.length c, .int .i64 y] W (Ans W V 0)) := Lib.hid fun A c W hW => by
    have := seal_u A S.length c S y W _ hW (Nat.le_refl _) (by omega)
    rwa [e3, e4] at this
  have C3 : Hid (∀ (A : Option Addr) (c : Nat) (W : World), Holds W W.heap.size A V.length c V → Calls Try.prog 10 #[.slice A V.length c] W (Ans3 W S y 0)) := Lib.hid fun A c W hW => by
    have := open_u A V.length c V W _ hW (Nat.le_refl _) (by omega)
    rwa [OR2.1, OR2.2.1, OR2.2.2] at this
  have C4 : Hid (∀ (A : Option Addr) (c : Nat) (W : World), Holds W W.heap.size A S.length c S → Calls Try.prog 10 #[.slice A S.length c] W (Ans3 W l0 x 0)) := Lib.hid fun A c W hW => by
    have := open_u A S.length c S W _ hW (Nat.le_refl _) (by omega)
    rwa [OR.1, OR.2.1, OR.2.2] at this
  have f1 : IntKind.i64.wrap ((n0 : Int) + 4) = ((n0 + 4 : Nat) : Int) := by rw [IntWalk.i64_in _ (by omega)]; omega
  obtain ⟨L, hL⟩ : ∃ L, L = long n0 := ⟨_, rfl⟩
  have f2 : IntKind.i64.wrap ((L : Int) + 4) = ((L + 4 : Nat) : Int) := by rw [IntWalk.i64_in _ (by omega)]; omega
  have CL1 : Hid (∀ W : World, Calls Try.prog 13 #[.int .i64 ((n0 + 4 : Nat) : Int)] W fun e w' => e = .returned (.int .i64 ((L + 4 : Nat) : Int)) ∧ W = w') := Lib.hid fun W => by
    have := length_no ((n0 + 4 : Nat) : Int) (by omega) W
    rwa [show lengthI ((n0 + 4 : Nat) : Int) = L + 4 by rw [lengthI, if_neg (by omega), Int.toNat_natCast, hL]; unfold long; omega] at this
  have CL2 : Hid (∀ W : World, Calls Try.prog 13 #[.int .i64 (n0 : Int)] W fun e w' => e = .returned (.int .i64 (L : Int)) ∧ W = w') := Lib.hid fun W => by
    have := length_no (n0 : Int) (by omega) W
    rwa [show lengthI (n0 : Int) = L by rw [lengthI, if_neg (by omega), Int.toNat_natCast, hL]] at this
  generalize n0 + 4 = n4 at *
  generalize L + 4 = L4 at *
  clear h0 m0 q q1 q2 q3 q4 e1 e2 e3 e4 OR OR2 LC LT hs hs2 hs3 hS hV hL
  go_enter Try.func6, Try.ntmps6
  go_wp2_with fail
  refine (C.out).mono ?_
  rintro e w1 ⟨A1, c1, rfl, hh, hb⟩
  have H1 := Lib.hid hh
  have B1 := Lib.hid hb
  replace H0 := Lib.hid ((H0.out.below hb).more hb.size)
  clear hh hb
  go_wp2_with fail
  refine (C2.out A1 c1 w1 H1.out).mono ?_
  rintro e w2 ⟨A2, c2, rfl, hh, hb⟩
  have H2 := Lib.hid hh
  have B2 := Lib.hid (B1.out.trans (hb.mono B1.out.size))
  replace H0 := Lib.hid ((H0.out.below hb).more hb.size)
  replace H1 := Lib.hid ((H1.out.below hb).more hb.size)
  clear hh hb
  go_wp2_with fail
  refine (C3.out A2 c2 w2 H2.out).mono ?_
  rintro e w3 ⟨A3, c3, rfl, hh, hb⟩
  have H3 := Lib.hid hh
  have B3 := Lib.hid (B2.out.trans (hb.mono B2.out.size))
  replace H0 := Lib.hid ((H0.out.below hb).more hb.size)
  replace H1 := Lib.hid ((H1.out.below hb).more hb.size)
  replace H2 := Lib.hid ((H2.out.below hb).more hb.size)
  clear hh hb
  go_wp2_with fail
  refine (C4.out A3 c3 w3 H3.out).mono ?_
  rintro e w4 ⟨A4, c4, rfl, hh, hb⟩
  have H4 := Lib.hid hh
  have B4 := Lib.hid (B3.out.trans (hb.mono B3.out.size))
  replace H0 := Lib.hid ((H0.out.below hb).more hb.size)
  replace H1 := Lib.hid ((H1.out.below hb).more hb.size)
  replace H2 := Lib.hid ((H2.out.below hb).more hb.size)
  replace H3 := Lib.hid ((H3.out.below hb).more hb.size)
  clear hh hb
  go_wp2_with fail
  refine (awake_any w4).mono ?_
  rintro e w5 ⟨rfl, hb⟩
  have B5 := Lib.hid (B4.out.trans (hb.mono B4.out.size))
  have s0 := run_string_bytes (H0.out.below hb)
  have s1 := run_string_bytes (H1.out.below hb)
  have s3 := run_string_bytes (H3.out.below hb)
  have s4 := run_string_bytes (H4.out.below hb)
  generalize strOfNums l0 = t0 at *
  generalize strOfNums S = t1 at *
  clear hb H0 H1 H2 H3 H4 C C2 C3 C4
  go_wp2_with fail
  refine (CL1.out w5).mono ?_
  rintro e w' ⟨rfl, rfl⟩
  go_wp2_with fail
  refine (CL2.out w5).mono ?_
  rintro e w' ⟨rfl, rfl⟩
  go_wp2_with fail
  go_ret
  exact ⟨rfl, B5.out⟩

theorem row_any (A0 : Option Addr) (n0 c0 : Nat) (l0 : List Int) (x y : Int) (w : World) (h0 : Holds w w.heap.size A0 n0 c0 l0) (m0 : n0 ≤ 140737488355328) :
    Calls Try.prog 6 #[.slice A0 n0 c0, .int .i64 x, .int .i64 y] w fun e w' => e = .returned (.bool true) ∧ Below w.heap.size w w' := by
  by_cases q : (2000 < n0) ∨ (n0 ≤ 2000 ∧ x < 0) ∨ (n0 ≤ 2000 ∧ 255 < x) ∨ (n0 ≤ 2000 ∧ 0 ≤ x ∧ x ≤ 255 ∧ y < 0) ∨ (n0 ≤ 2000 ∧ 0 ≤ x ∧ x ≤ 255 ∧ 255 < y)
  · exact big A0 n0 c0 l0 x y w h0 m0 q
  · exact main A0 n0 c0 l0 x y w h0 m0 (by omega) (by omega) (by omega) (by omega) (by omega)
end Go.Proofs.Ytedojbhebbdagaa.LawRow
