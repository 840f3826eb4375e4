/- The law CtrTurns: its walk. -/
import Derived.Test.YthjbcdjphokjbaaCtrU
set_option linter.unusedVariables false
namespace Go.Proofs.Ythjbcdjphokjbaa.LawTurns
open Go.RowKit Go.PlainAid Go.Proofs.Ythjbcdjphokjbaa.Sums Go.Proofs.Ythjbcdjphokjbaa.Mem Go.Proofs.Ythjbcdjphokjbaa.Blk Go.Proofs.Ythjbcdjphokjbaa.Bits3 Go.Proofs.Ythjbcdjphokjbaa.Ints Go.Proofs.Ythjbcdjphokjbaa.CutA Go.Proofs.Ythjbcdjphokjbaa.AesF Go.Proofs.Ythjbcdjphokjbaa.CtrD Go.Proofs.Ythjbcdjphokjbaa.AesB Go.Proofs.Ythjbcdjphokjbaa.AesK Go.Proofs.Ythjbcdjphokjbaa.AesR2 Go.Proofs.Ythjbcdjphokjbaa.AesR3 Go.Proofs.Ythjbcdjphokjbaa.Aes9 Go.Proofs.Ythjbcdjphokjbaa.Ctr1 Go.Proofs.Ythjbcdjphokjbaa.Ctr2 Go.Proofs.Ythjbcdjphokjbaa.Ctr4 Go.Proofs.Ythjbcdjphokjbaa.Ctr5 Go.Proofs.Ythjbcdjphokjbaa.CtrR Go.Proofs.Ythjbcdjphokjbaa.CtrT Go.Proofs.Ythjbcdjphokjbaa.CtrA Go.Proofs.Ythjbcdjphokjbaa.CtrU

set_option maxHeartbeats 1000000 in
theorem long (A0 : Option Addr) (n0 c0 : Nat) (l0 : List Int) (A1 : Option Addr) (n1 c1 : Nat) (l1 : List Int) (A2 : Option Addr) (n2 c2 : Nat) (l2 : List Int) (A3 : Option Addr) (n3 c3 : Nat) (l3 : List Int) (n : Int) (w : World) (h0 : Holds w w.heap.size A0 n0 c0 l0) (h1 : Holds w w.heap.size A1 n1 c1 l1) (h2 : Holds w w.heap.size A2 n2 c2 l2) (h3 : Holds w w.heap.size A3 n3 c3 l3) (m0 : n0 ≤ 140737488355328) (m1 : n1 ≤ 140737488355328) (m2 : n2 ≤ 140737488355328) (m3 : n3 ≤ 140737488355328) (q : ¬ n0 + n1 + n2 ≤ 300 ∨ (n0 + n1 + n2 ≤ 300 ∧ 400 < n3) ∨ (n0 + n1 + n2 ≤ 300 ∧ n3 ≤ 400 ∧ 400 < n ∧ n ≤ 65536)) :
    Calls Try.prog 3 #[.slice A0 n0 c0, .slice A1 n1 c1, .slice A2 n2 c2, .slice A3 n3 c3, .int .i64 n] w fun e w' => e = .returned (.bool true) ∧ Below w.heap.size w w' := by
  rcases q with q | ⟨q, q2⟩ | ⟨q, q2, q3, q4⟩
  · have Q : decide (n0 + n1 + n2 ≤ 300) = false := decide_eq_false q
    clear q h0 h1 h2 h3 m3
    go_enter Try.func3, Try.ntmps3
    go_wp2_with fail
    refine (few_any A0 n0 c0 A1 n1 c1 A2 n2 c2 w m0 m1 m2).mono ?_
    rintro e w' ⟨rfl, rfl⟩
    rw [Q]
    go_wp2_with fail
    go_ret
    exact ⟨rfl, Below.refl _ _⟩
  · have Q : decide (n0 + n1 + n2 ≤ 300) = true := decide_eq_true q
    have g1 : decide ((400 : Int) < (n3 : Int)) = true := decide_eq_true (by omega)
    clear q q2 h0 h1 h2 h3 m3
    go_enter Try.func3, Try.ntmps3
    go_wp2_with fail
    refine (few_any A0 n0 c0 A1 n1 c1 A2 n2 c2 w m0 m1 m2).mono ?_
    rintro e w' ⟨rfl, rfl⟩
    rw [Q]
    go_wp2_with fail
    go_ret
    exact ⟨rfl, Below.refl _ _⟩
  · have Q : decide (n0 + n1 + n2 ≤ 300) = true := decide_eq_true q
    have g1 : decide ((400 : Int) < (n3 : Int)) = false := decide_eq_false (by omega)
    have g2 : decide (400 < n) = true := decide_eq_true q3
    have g3 : decide (n ≤ 65536) = true := decide_eq_true q4
    clear q q2 q3 q4 h0 h1 h2 h3 m3
    go_enter Try.func3, Try.ntmps3
    go_wp2_with fail
    refine (few_any A0 n0 c0 A1 n1 c1 A2 n2 c2 w m0 m1 m2).mono ?_
    rintro e w' ⟨rfl, rfl⟩
    rw [Q]
    go_wp2_with fail
    go_ret
    exact ⟨rfl, Below.refl _ _⟩

set_option maxHeartbeats 2000000 in
set_option maxRecDepth 100000 in
theorem main (A0 : Option Addr) (n0 c0 : Nat) (l0 : List Int) (A1 : Option Addr) (n1 c1 : Nat) (l1 : List Int) (A2 : Option Addr) (n2 c2 : Nat) (l2 : List Int) (A3 : Option Addr) (n3 c3 : Nat) (l3 : List Int) (n : Int) (w : World) (h0 : Holds w w.heap.size A0 n0 c0 l0) (h1 : Holds w w.heap.size A1 n1 c1 l1) (h2 : Holds w w.heap.size A2 n2 c2 l2) (h3 : Holds w w.heap.size A3 n3 c3 l3) (m0 : n0 ≤ 140737488355328) (m1 : n1 ≤ 140737488355328) (m2 : n2 ≤ 140737488355328) (m3 : n3 ≤ 140737488355328) (q : n0 + n1 + n2 ≤ 300) (q2 : n3 ≤ 400) (q3 : ¬ 400 < n ∨ (400 < n ∧ ¬ n ≤ 65536)) :
    Calls Try.prog 3 #[.slice A0 n0 c0, .slice A1 n1 c1, .slice A2 n2 c2, .slice A3 n3 c3, .int .i64 n] w fun e w' => e = .returned (.bool true) ∧ Below w.heap.size w w' := by
  have A := Lib.hid awake_any
  have Q : decide (n0 + n1 + n2 ≤ 300) = true := decide_eq_true q
  have g1 : decide ((400 : Int) < (n3 : Int)) = false := decide_eq_false (by omega)
  have M3 : Hid (n3 ≤ 400) := Lib.hid q2
  have LE : Hid (l3.length = n3) := Lib.hid h3.1
  have H0 := Lib.hid h0
  have H1 := Lib.hid h1
  have H2 := Lib.hid h2
  have H3 := Lib.hid h3
  have M0 := Lib.hid m0
  obtain ⟨sb, hsb⟩ : ∃ s, s = strOfNums l3 := ⟨_, rfl⟩
  have TB := Lib.hid hsb
  clear hsb
  obtain ⟨XC, hXC⟩ : ∃ X, X = cOut l1 l2 n := ⟨_, rfl⟩
  obtain ⟨LC, hLC⟩ : ∃ L, L = XC.length := ⟨_, rfl⟩
  obtain ⟨sC, hsC⟩ : ∃ s, s = strOfNums XC := ⟨_, rfl⟩
  obtain ⟨XS, hXS⟩ : ∃ X, X = sOut l0 l1 l2 n := ⟨_, rfl⟩
  obtain ⟨LS, hLS⟩ : ∃ L, L = XS.length := ⟨_, rfl⟩
  obtain ⟨sS, hsS⟩ : ∃ s, s = strOfNums XS := ⟨_, rfl⟩
  obtain ⟨XT, hXT⟩ : ∃ X, X = tOut l0 l1 l2 l3 := ⟨_, rfl⟩
  obtain ⟨LT, hLT⟩ : ∃ L, L = XT.length := ⟨_, rfl⟩
  obtain ⟨sT, hsT⟩ : ∃ s, s = strOfNums XT := ⟨_, rfl⟩
  obtain ⟨eC, heC⟩ : ∃ e, e = cErr l1 l2 n := ⟨_, rfl⟩
  obtain ⟨eS, heS⟩ : ∃ e, e = sErr l0 l1 l2 n := ⟨_, rfl⟩
  obtain ⟨eT, heT⟩ : ∃ e, e = sErr l0 l1 l2 (l3.length : Int) := ⟨_, rfl⟩
  have C1 : Hid (∀ W, Below w.heap.size w W → Calls Try.prog 9 #[.slice A1 n1 c1, .slice A2 n2 c2, .int .i64 n] W fun e w' => ∃ A c, e = .returned (.tuple #[.slice A LC c, .int .i64 eC]) ∧ Holds w' w'.heap.size A LC c XC ∧ Below W.heap.size W w') := Lib.hid fun W hW => by
    subst hLC hXC heC
    exact counter_u A1 n1 c1 l1 A2 n2 c2 l2 n W w.heap.size (H1.out.below hW) (H2.out.below hW) hW.size
  have C2 : Hid (∀ W, Below w.heap.size w W → Calls Try.prog 10 #[.slice A1 n1 c1, .slice A2 n2 c2, .int .i64 n] W fun e w' => ∃ A c, e = .returned (.tuple #[.slice A LC c, .int .i64 eC]) ∧ Holds w' w'.heap.size A LC c XC ∧ Below W.heap.size W w') := Lib.hid fun W hW => by
    subst hLC hXC heC
    exact counter_ru A1 n1 c1 l1 A2 n2 c2 l2 n W w.heap.size (H1.out.below hW) (H2.out.below hW) hW.size
  have S1 : Hid (∀ W, Below w.heap.size w W → Calls Try.prog 11 #[.slice A0 n0 c0, .slice A1 n1 c1, .slice A2 n2 c2, .int .i64 n] W fun e w' => ∃ A c, e = .returned (.tuple #[.slice A LS c, .int .i64 eS]) ∧ Holds w' w'.heap.size A LS c XS ∧ Below W.heap.size W w') := Lib.hid fun W hW => by
    subst hLS hXS heS
    exact stream_u A0 n0 c0 l0 A1 n1 c1 l1 A2 n2 c2 l2 n W w.heap.size (H0.out.below hW) (H1.out.below hW) (H2.out.below hW) hW.size M0.out
  have S2 : Hid (∀ W, Below w.heap.size w W → Calls Try.prog 12 #[.slice A0 n0 c0, .slice A1 n1 c1, .slice A2 n2 c2, .int .i64 n] W fun e w' => ∃ A c, e = .returned (.tuple #[.slice A LS c, .int .i64 eS]) ∧ Holds w' w'.heap.size A LS c XS ∧ Below W.heap.size W w') := Lib.hid fun W hW => by
    subst hLS hXS heS
    exact stream_ru A0 n0 c0 l0 A1 n1 c1 l1 A2 n2 c2 l2 n W w.heap.size (H0.out.below hW) (H1.out.below hW) (H2.out.below hW) hW.size M0.out
  have T1 : Hid (∀ W A3' c3', Below w.heap.size w W → Holds W W.heap.size A3' n3 c3' l3 → Calls Try.prog 13 #[.slice A0 n0 c0, .slice A1 n1 c1, .slice A2 n2 c2, .slice A3' n3 c3'] W fun e w' => ∃ A c, e = .returned (.tuple #[.slice A LT c, .int .i64 eT]) ∧ Holds w' w'.heap.size A LT c XT ∧ Below W.heap.size W w') := Lib.hid fun W A3' c3' hW hh => by
    subst hLT hXT heT
    exact turn_u A0 n0 c0 l0 A1 n1 c1 l1 A2 n2 c2 l2 A3' n3 c3' l3 W W.heap.size ((H0.out.below hW).more hW.size) ((H1.out.below hW).more hW.size) ((H2.out.below hW).more hW.size) hh (Nat.le_refl _) M0.out
  have T2 : Hid (∀ W, Below w.heap.size w W → Calls Try.prog 14 #[.slice A0 n0 c0, .slice A1 n1 c1, .slice A2 n2 c2, .slice A3 n3 c3] W fun e w' => ∃ A c, e = .returned (.tuple #[.slice A LT c, .int .i64 eT]) ∧ Holds w' w'.heap.size A LT c XT ∧ Below W.heap.size W w') := Lib.hid fun W hW => by
    subst hLT hXT heT
    exact turn_ru A0 n0 c0 l0 A1 n1 c1 l1 A2 n2 c2 l2 A3 n3 c3 l3 W w.heap.size (H0.out.below hW) (H1.out.below hW) (H2.out.below hW) (H3.out.below hW) hW.size M0.out
  have ZC := Lib.hid hsC
  have ZS := Lib.hid hsS
  have ZT := Lib.hid hsT
  have B0 := Lib.hid (Below.refl w.heap.size w)
  have FW := Lib.hid (few_any A0 n0 c0 A1 n1 c1 A2 n2 c2 w m0 m1 m2)
  rw [Q] at FW
  clear h0 h1 h2 h3 m0 m1 m2 m3 q q2 Q hsC hsS hsT hLC hLS hLT hXC hXS hXT heC heS heT LE
  rcases q3 with q3 | ⟨q3, q4⟩
  · have g2 : decide (400 < n) = false := decide_eq_false q3
    clear q3
    go_enter Try.func3, Try.ntmps3
    go_wp2_with fail
    refine FW.out.mono ?_
    rintro e w' ⟨rfl, rfl⟩
    clear FW
    go_wp2_with fail
    refine (both_one A3 n3 c3 l3 w w.heap.size H3.out (Nat.le_refl _) (by have := M3.out; omega) _ rfl _ rfl _).mono ?_
    rintro e w1 ⟨A4, c4, rfl, hh, hb⟩
    have H4 := Lib.hid hh
    have B1 := Lib.hid hb
    clear hh hb B0
    go_wp2_with fail
    refine (C1.out _ B1.out).mono ?_
    rintro e w2 ⟨A5, c5, rfl, hh, hb⟩
    have P1 := Lib.hid hh
    replace H4 := Lib.hid ((H4.out.below hb).more hb.size)
    have B2 := Lib.hid (B1.out.trans (hb.mono B1.out.size))
    clear hh hb B1
    go_wp2_with fail
    refine (C2.out _ B2.out).mono ?_
    rintro e w3 ⟨A6, c6, rfl, hh, hb⟩
    have P2 := Lib.hid hh
    replace H4 := Lib.hid ((H4.out.below hb).more hb.size)
    replace P1 := Lib.hid ((P1.out.below hb).more hb.size)
    have B3 := Lib.hid (B2.out.trans (hb.mono B2.out.size))
    clear hh hb B2
    go_wp2_with fail
    refine (S1.out _ B3.out).mono ?_
    rintro e w4 ⟨A7, c7, rfl, hh, hb⟩
    have P3 := Lib.hid hh
    replace H4 := Lib.hid ((H4.out.below hb).more hb.size)
    replace P1 := Lib.hid ((P1.out.below hb).more hb.size)
    replace P2 := Lib.hid ((P2.out.below hb).more hb.size)
    have B4 := Lib.hid (B3.out.trans (hb.mono B3.out.size))
    clear hh hb B3
    go_wp2_with fail
    refine (S2.out _ B4.out).mono ?_
    rintro e w5 ⟨A8, c8, rfl, hh, hb⟩
    have P4 := Lib.hid hh
    replace H4 := Lib.hid ((H4.out.below hb).more hb.size)
    replace P1 := Lib.hid ((P1.out.below hb).more hb.size)
    replace P2 := Lib.hid ((P2.out.below hb).more hb.size)
    replace P3 := Lib.hid ((P3.out.below hb).more hb.size)
    have B5 := Lib.hid (B4.out.trans (hb.mono B4.out.size))
    clear hh hb B4
    go_wp2_with fail
    refine (T1.out _ _ _ B5.out H4.out).mono ?_
    rintro e w6 ⟨A9, c9, rfl, hh, hb⟩
    have P5 := Lib.hid hh
    replace H4 := Lib.hid ((H4.out.below hb).more hb.size)
    replace P1 := Lib.hid ((P1.out.below hb).more hb.size)
    replace P2 := Lib.hid ((P2.out.below hb).more hb.size)
    replace P3 := Lib.hid ((P3.out.below hb).more hb.size)
    replace P4 := Lib.hid ((P4.out.below hb).more hb.size)
    have B6 := Lib.hid (B5.out.trans (hb.mono B5.out.size))
    clear hh hb B5
    go_wp2_with fail
    refine (T2.out _ B6.out).mono ?_
    rintro e w7 ⟨A10, c10, rfl, hh, hb⟩
    have P6 := Lib.hid hh
    replace H4 := Lib.hid ((H4.out.below hb).more hb.size)
    replace P1 := Lib.hid ((P1.out.below hb).more hb.size)
    replace P2 := Lib.hid ((P2.out.below hb).more hb.size)
    replace P3 := Lib.hid ((P3.out.below hb).more hb.size)
    replace P4 := Lib.hid ((P4.out.below hb).more hb.size)
    replace P5 := Lib.hid ((P5.out.below hb).more hb.size)
    have B7 := Lib.hid (B6.out.trans (hb.mono B6.out.size))
    clear hh hb B6
    go_wp2_with fail
    refine (A.out _).mono ?_
    rintro e w8 ⟨rfl, hb⟩
    have B8 := Lib.hid (B7.out.trans (hb.mono B7.out.size))
    have v0 : (convert 22 9 (.slice A4 n3 c4)).run Try.prog w8 = .ok (.string sb) w8 := by
      have := run_string_bytes (H4.out.below hb)
      rw [← TB.out] at this
      exact this
    have v1 : (convert 22 9 (.slice A3 n3 c3)).run Try.prog w8 = .ok (.string sb) w8 := by
      have := run_string_bytes (H3.out.below B8.out)
      rw [← TB.out] at this
      exact this
    have v2 : (convert 22 9 (.slice A5 LC c5)).run Try.prog w8 = .ok (.string sC) w8 := by
      have := run_string_bytes (P1.out.below hb)
      rw [← ZC.out] at this
      exact this
    have v3 : (convert 22 9 (.slice A6 LC c6)).run Try.prog w8 = .ok (.string sC) w8 := by
      have := run_string_bytes (P2.out.below hb)
      rw [← ZC.out] at this
      exact this
    have v4 : (convert 22 9 (.slice A7 LS c7)).run Try.prog w8 = .ok (.string sS) w8 := by
      have := run_string_bytes (P3.out.below hb)
      rw [← ZS.out] at this
      exact this
    have v5 : (convert 22 9 (.slice A8 LS c8)).run Try.prog w8 = .ok (.string sS) w8 := by
      have := run_string_bytes (P4.out.below hb)
      rw [← ZS.out] at this
      exact this
    have v6 : (convert 22 9 (.slice A9 LT c9)).run Try.prog w8 = .ok (.string sT) w8 := by
      have := run_string_bytes (P5.out.below hb)
      rw [← ZT.out] at this
      exact this
    have v7 : (convert 22 9 (.slice A10 LT c10)).run Try.prog w8 = .ok (.string sT) w8 := by
      have := run_string_bytes (P6.out.below hb)
      rw [← ZT.out] at this
      exact this
    clear hb H4 P1 P2 P3 P4 P5 P6 H0 H1 H2 H3 C1 C2 S1 S2 T1 T2
    go_wp2_with fail
    go_ret
    exact ⟨rfl, B8.out⟩
  · have g2 : decide (400 < n) = true := decide_eq_true q3
    have g3 : decide (n ≤ 65536) = false := decide_eq_false q4
    clear q3 q4
    go_enter Try.func3, Try.ntmps3
    go_wp2_with fail
    refine FW.out.mono ?_
    rintro e w' ⟨rfl, rfl⟩
    clear FW
    go_wp2_with fail
    refine (both_one A3 n3 c3 l3 w w.heap.size H3.out (Nat.le_refl _) (by have := M3.out; omega) _ rfl _ rfl _).mono ?_
    rintro e w1 ⟨A4, c4, rfl, hh, hb⟩
    have H4 := Lib.hid hh
    have B1 := Lib.hid hb
    clear hh hb B0
    go_wp2_with fail
    refine (C1.out _ B1.out).mono ?_
    rintro e w2 ⟨A5, c5, rfl, hh, hb⟩
    have P1 := Lib.hid hh
    replace H4 := Lib.hid ((H4.out.below hb).more hb.size)
    have B2 := Lib.hid (B1.out.trans (hb.mono B1.out.size))
    clear hh hb B1
    go_wp2_with fail
    refine (C2.out _ B2.out).mono ?_
    rintro e w3 ⟨A6, c6, rfl, hh, hb⟩
    have P2 := Lib.hid hh
    replace H4 := Lib.hid ((H4.out.below hb).more hb.size)
    replace P1 := Lib.hid ((P1.out.below hb).more hb.size)
    have B3 := Lib.hid (B2.out.trans (hb.mono B2.out.size))
    clear hh hb B2
    go_wp2_with fail
    refine (S1.out _ B3.out).mono ?_
    rintro e w4 ⟨A7, c7, rfl, hh, hb⟩
    have P3 := Lib.hid hh
    replace H4 := Lib.hid ((H4.out.below hb).more hb.size)
    replace P1 := Lib.hid ((P1.out.below hb).more hb.size)
    replace P2 := Lib.hid ((P2.out.below hb).more hb.size)
    have B4 := Lib.hid (B3.out.trans (hb.mono B3.out.size))
    clear hh hb B3
    go_wp2_with fail
    refine (S2.out _ B4.out).mono ?_
    rintro e w5 ⟨A8, c8, rfl, hh, hb⟩
    have P4 := Lib.hid hh
    replace H4 := Lib.hid ((H4.out.below hb).more hb.size)
    replace P1 := Lib.hid ((P1.out.below hb).more hb.size)
    replace P2 := Lib.hid ((P2.out.below hb).more hb.size)
    replace P3 := Lib.hid ((P3.out.below hb).more hb.size)
    have B5 := Lib.hid (B4.out.trans (hb.mono B4.out.size))
    clear hh hb B4
    go_wp2_with fail
    refine (T1.out _ _ _ B5.out H4.out).mono ?_
    rintro e w6 ⟨A9, c9, rfl, hh, hb⟩
    have P5 := Lib.hid hh
    replace H4 := Lib.hid ((H4.out.below hb).more hb.size)
    replace P1 := Lib.hid ((P1.out.below hb).more hb.size)
    replace P2 := Lib.hid ((P2.out.below hb).more hb.size)
    replace P3 := Lib.hid ((P3.out.below hb).more hb.size)
    replace P4 := Lib.hid ((P4.out.below hb).more hb.size)
    have B6 := Lib.hid (B5.out.trans (hb.mono B5.out.size))
    clear hh hb B5
    go_wp2_with fail
    refine (T2.out _ B6.out).mono ?_
    rintro e w7 ⟨A10, c10, rfl, hh, hb⟩
    have P6 := Lib.hid hh
    replace H4 := Lib.hid ((H4.out.below hb).more hb.size)
    replace P1 := Lib.hid ((P1.out.below hb).more hb.size)
    replace P2 := Lib.hid ((P2.out.below hb).more hb.size)
    replace P3 := Lib.hid ((P3.out.below hb).more hb.size)
    replace P4 := Lib.hid ((P4.out.below hb).more hb.size)
    replace P5 := Lib.hid ((P5.out.below hb).more hb.size)
    have B7 := Lib.hid (B6.out.trans (hb.mono B6.out.size))
    clear hh hb B6
    go_wp2_with fail
    refine (A.out _).mono ?_
    rintro e w8 ⟨rfl, hb⟩
    have B8 := Lib.hid (B7.out.trans (hb.mono B7.out.size))
    have v0 : (convert 22 9 (.slice A4 n3 c4)).run Try.prog w8 = .ok (.string sb) w8 := by
      have := run_string_bytes (H4.out.below hb)
      rw [← TB.out] at this
      exact this
    have v1 : (convert 22 9 (.slice A3 n3 c3)).run Try.prog w8 = .ok (.string sb) w8 := by
      have := run_string_bytes (H3.out.below B8.out)
      rw [← TB.out] at this
      exact this
    have v2 : (convert 22 9 (.slice A5 LC c5)).run Try.prog w8 = .ok (.string sC) w8 := by
      have := run_string_bytes (P1.out.below hb)
      rw [← ZC.out] at this
      exact this
    have v3 : (convert 22 9 (.slice A6 LC c6)).run Try.prog w8 = .ok (.string sC) w8 := by
      have := run_string_bytes (P2.out.below hb)
      rw [← ZC.out] at this
      exact this
    have v4 : (convert 22 9 (.slice A7 LS c7)).run Try.prog w8 = .ok (.string sS) w8 := by
      have := run_string_bytes (P3.out.below hb)
      rw [← ZS.out] at this
      exact this
    have v5 : (convert 22 9 (.slice A8 LS c8)).run Try.prog w8 = .ok (.string sS) w8 := by
      have := run_string_bytes (P4.out.below hb)
      rw [← ZS.out] at this
      exact this
    have v6 : (convert 22 9 (.slice A9 LT c9)).run Try.prog w8 = .ok (.string sT) w8 := by
      have := run_string_bytes (P5.out.below hb)
      rw [← ZT.out] at this
      exact this
    have v7 : (convert 22 9 (.slice A10 LT c10)).run Try.prog w8 = .ok (.string sT) w8 := by
      have := run_string_bytes (P6.out.below hb)
      rw [← ZT.out] at this
      exact this
    clear hb H4 P1 P2 P3 P4 P5 P6 H0 H1 H2 H3 C1 C2 S1 S2 T1 T2
    go_wp2_with fail
    go_ret
    exact ⟨rfl, B8.out⟩

theorem turns_any (A0 : Option Addr) (n0 c0 : Nat) (l0 : List Int) (A1 : Option Addr) (n1 c1 : Nat) (l1 : List Int) (A2 : Option Addr) (n2 c2 : Nat) (l2 : List Int) (A3 : Option Addr) (n3 c3 : Nat) (l3 : List Int) (n : Int) (w : World) (h0 : Holds w w.heap.size A0 n0 c0 l0) (h1 : Holds w w.heap.size A1 n1 c1 l1) (h2 : Holds w w.heap.size A2 n2 c2 l2) (h3 : Holds w w.heap.size A3 n3 c3 l3) (m0 : n0 ≤ 140737488355328) (m1 : n1 ≤ 140737488355328) (m2 : n2 ≤ 140737488355328) (m3 : n3 ≤ 140737488355328) :
    Calls Try.prog 3 #[.slice A0 n0 c0, .slice A1 n1 c1, .slice A2 n2 c2, .slice A3 n3 c3, .int .i64 n] w fun e w' => e = .returned (.bool true) ∧ Below w.heap.size w w' := by
  by_cases q : n0 + n1 + n2 ≤ 300
  · by_cases q2 : 400 < n3
    · exact long A0 n0 c0 l0 A1 n1 c1 l1 A2 n2 c2 l2 A3 n3 c3 l3 n w h0 h1 h2 h3 m0 m1 m2 m3 (.inr (.inl ⟨q, q2⟩))
    · by_cases q3 : 400 < n ∧ n ≤ 65536
      · exact long A0 n0 c0 l0 A1 n1 c1 l1 A2 n2 c2 l2 A3 n3 c3 l3 n w h0 h1 h2 h3 m0 m1 m2 m3 (.inr (.inr ⟨q, by omega, q3.1, q3.2⟩))
      · exact main A0 n0 c0 l0 A1 n1 c1 l1 A2 n2 c2 l2 A3 n3 c3 l3 n w h0 h1 h2 h3 m0 m1 m2 m3 q (by omega) (by omega)
  · exact long A0 n0 c0 l0 A1 n1 c1 l1 A2 n2 c2 l2 A3 n3 c3 l3 n w h0 h1 h2 h3 m0 m1 m2 m3 (.inl q)
end Go.Proofs.Ythjbcdjphokjbaa.LawTurns
