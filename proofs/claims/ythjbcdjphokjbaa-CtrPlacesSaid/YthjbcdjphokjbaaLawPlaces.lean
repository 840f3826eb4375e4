/- The law CtrPlaces: its walk. -/
import Derived.Test.YthjbcdjphokjbaaLawTwice
import Derived.LoopTactic
import Derived.Test.YthjbcdjphokjbaaCtrU
set_option linter.unusedVariables false
namespace Go.Proofs.Ythjbcdjphokjbaa.LawPlaces
open Go.RowKit Go.PlainAid Go.Sort Go.Proofs.Ythjbcdjphokjbaa.Sums Go.Proofs.Ythjbcdjphokjbaa.Mem Go.Proofs.Ythjbcdjphokjbaa.Blk Go.Proofs.Ythjbcdjphokjbaa.Bits3 Go.Proofs.Ythjbcdjphokjbaa.Ints Go.Proofs.Ythjbcdjphokjbaa.CutA Go.Proofs.Ythjbcdjphokjbaa.AesF Go.Proofs.Ythjbcdjphokjbaa.CtrD Go.Proofs.Ythjbcdjphokjbaa.AesB Go.Proofs.Ythjbcdjphokjbaa.AesK Go.Proofs.Ythjbcdjphokjbaa.AesR2 Go.Proofs.Ythjbcdjphokjbaa.AesR3 Go.Proofs.Ythjbcdjphokjbaa.Aes9 Go.Proofs.Ythjbcdjphokjbaa.Ctr1 Go.Proofs.Ythjbcdjphokjbaa.Ctr2 Go.Proofs.Ythjbcdjphokjbaa.Ctr4 Go.Proofs.Ythjbcdjphokjbaa.Ctr5 Go.Proofs.Ythjbcdjphokjbaa.CtrR Go.Proofs.Ythjbcdjphokjbaa.CtrT Go.Proofs.Ythjbcdjphokjbaa.CtrA Go.Proofs.Ythjbcdjphokjbaa.CtrU Go.Proofs.Ythjbcdjphokjbaa.LawTwice

set_option maxHeartbeats 1000000 in
theorem long (A0 : Option Addr) (n0 c0 : Nat) (l0 : List Int) (A1 : Option Addr) (n1 c1 : Nat) (l1 : List Int) (A2 : Option Addr) (n2 c2 : Nat) (l2 : List Int) (A3 : Option Addr) (n3 c3 : Nat) (l3 : List Int) (A4 : Option Addr) (n4 c4 : Nat) (l4 : List Int) (w : World) (h0 : Holds w w.heap.size A0 n0 c0 l0) (h1 : Holds w w.heap.size A1 n1 c1 l1) (h2 : Holds w w.heap.size A2 n2 c2 l2) (h3 : Holds w w.heap.size A3 n3 c3 l3) (h4 : Holds w w.heap.size A4 n4 c4 l4) (m0 : n0 ≤ 140737488355328) (m1 : n1 ≤ 140737488355328) (m2 : n2 ≤ 140737488355328) (m3 : n3 ≤ 140737488355328) (m4 : n4 ≤ 140737488355328) (q : ¬ n0 + n1 + n2 ≤ 300 ∨ (n0 + n1 + n2 ≤ 300 ∧ 400 < n3) ∨ (n0 + n1 + n2 ≤ 300 ∧ n3 ≤ 400 ∧ n3 ≠ n4)) :
    Calls Try.prog 5 #[.slice A0 n0 c0, .slice A1 n1 c1, .slice A2 n2 c2, .slice A3 n3 c3, .slice A4 n4 c4] w fun e w' => e = .returned (.bool true) ∧ Below w.heap.size w w' := by
  rcases q with q | ⟨q, q2⟩ | ⟨q, q2, q3⟩
  · have Q : decide (n0 + n1 + n2 ≤ 300) = false := decide_eq_false q
    clear q h0 h1 h2 h3 h4 m3 m4
    go_enter Try.func5, Try.ntmps5
    go_wp2_with fail
    refine (few_any A0 n0 c0 A1 n1 c1 A2 n2 c2 w m0 m1 m2).mono ?_
    rintro e w' ⟨rfl, rfl⟩
    rw [Q]
    go_wp2_with fail
    refine (awake_any _).mono ?_
    rintro e w1 ⟨rfl, hb⟩
    have B1 := Lib.hid hb
    clear hb
    go_wp2_with fail
    go_ret
    exact ⟨rfl, B1.out⟩
  · have Q : decide (n0 + n1 + n2 ≤ 300) = true := decide_eq_true q
    have g1 : decide ((400 : Int) < (n3 : Int)) = true := decide_eq_true (by omega)
    clear q2
    clear q h0 h1 h2 h3 h4 m3 m4
    go_enter Try.func5, Try.ntmps5
    go_wp2_with fail
    refine (few_any A0 n0 c0 A1 n1 c1 A2 n2 c2 w m0 m1 m2).mono ?_
    rintro e w' ⟨rfl, rfl⟩
    rw [Q]
    go_wp2_with fail
    refine (awake_any _).mono ?_
    rintro e w1 ⟨rfl, hb⟩
    have B1 := Lib.hid hb
    clear hb
    go_wp2_with fail
    go_ret
    exact ⟨rfl, B1.out⟩
  · have Q : decide (n0 + n1 + n2 ≤ 300) = true := decide_eq_true q
    have g1 : decide ((400 : Int) < (n3 : Int)) = false := decide_eq_false (by omega)
    have g2 : ((n3 : Int) != (n4 : Int)) = true := by simp; omega
    have g2' : (n3 != n4) = true := by simp; omega
    clear q2 q3
    clear q h0 h1 h2 h3 h4 m3 m4
    go_enter Try.func5, Try.ntmps5
    go_wp2_with fail
    refine (few_any A0 n0 c0 A1 n1 c1 A2 n2 c2 w m0 m1 m2).mono ?_
    rintro e w' ⟨rfl, rfl⟩
    rw [Q]
    go_wp2_with fail
    refine (awake_any _).mono ?_
    rintro e w1 ⟨rfl, hb⟩
    have B1 := Lib.hid hb
    clear hb
    go_wp2_with fail
    go_ret
    exact ⟨rfl, B1.out⟩

set_option maxHeartbeats 1000000 in
theorem bad (A0 : Option Addr) (n0 c0 : Nat) (l0 : List Int) (A1 : Option Addr) (n1 c1 : Nat) (l1 : List Int) (A2 : Option Addr) (n2 c2 : Nat) (l2 : List Int) (A3 : Option Addr) (n3 c3 : Nat) (l3 : List Int) (A4 : Option Addr) (n4 c4 : Nat) (l4 : List Int) (w : World) (h0 : Holds w w.heap.size A0 n0 c0 l0) (h1 : Holds w w.heap.size A1 n1 c1 l1) (h2 : Holds w w.heap.size A2 n2 c2 l2) (h3 : Holds w w.heap.size A3 n3 c3 l3) (h4 : Holds w w.heap.size A4 n4 c4 l4) (m0 : n0 ≤ 140737488355328) (m1 : n1 ≤ 140737488355328) (m2 : n2 ≤ 140737488355328) (m3 : n3 ≤ 140737488355328) (m4 : n4 ≤ 140737488355328) (q : n0 + n1 + n2 ≤ 300) (q2 : n3 ≤ 400) (q3 : n3 = n4) (gd : ¬ good l0 l1 l2) :
    Calls Try.prog 5 #[.slice A0 n0 c0, .slice A1 n1 c1, .slice A2 n2 c2, .slice A3 n3 c3, .slice A4 n4 c4] w fun e w' => e = .returned (.bool true) ∧ Below w.heap.size w w' := by
  have Q : decide (n0 + n1 + n2 ≤ 300) = true := decide_eq_true q
  have g1 : decide ((400 : Int) < (n3 : Int)) = false := decide_eq_false (by omega)
  have FW := Lib.hid (few_any A0 n0 c0 A1 n1 c1 A2 n2 c2 w m0 m1 m2)
  rw [Q] at FW
  obtain rfl := q3
  have H3 := Lib.hid h3
  have H4 := Lib.hid h4
  have Q2 := Lib.hid q2
  have TT := Lib.hid (turn_ungood A0 n0 c0 l0 A1 n1 c1 l1 A2 n2 c2 l2 w h0 h1 h2 m0 gd)
  clear h0 h1 h2 h3 h4 m0 m1 m2 m3 m4 q q2 Q gd
  go_enter Try.func5, Try.ntmps5
  go_wp2_with fail
  refine FW.out.mono ?_
  rintro e w' ⟨rfl, rfl⟩
  clear FW
  go_wp2_with fail
  refine (TT.out w (Below.refl _ _) _ _ _ _ H3.out).mono ?_
  rintro e w1 ⟨A5, c5, rfl, hh, hb⟩
  have P1 := Lib.hid hh
  have B1 := Lib.hid hb
  clear hh hb
  go_wp2_with fail
  refine (TT.out w1 B1.out _ _ _ _ ((H4.out.below B1.out).more B1.out.size)).mono ?_
  rintro e w2 ⟨A6, c6, rfl, hh, hb⟩
  have P2 := Lib.hid hh
  have P1' := Lib.hid ((P1.out.below hb).more hb.size)
  have B2 := Lib.hid (B1.out.trans (hb.mono B1.out.size))
  clear hh hb B1 P1
  go_wp2_with fail
  refine (awake_any _).mono ?_
  rintro e w4 ⟨rfl, hb⟩
  have B4 := Lib.hid (B2.out.trans (hb.mono B2.out.size))
  clear hb
  go_wp2_with fail
  go_ret
  exact ⟨rfl, B4.out⟩

theorem tr_get {ky sa iv l : List Int} (hb : Bytes l) (i : Nat) (hi : i < l.length) : (tr ky sa iv l).getD i 0 = (((nats l).getD i 0 ^^^ kb (keys (nats ky)) (nats sa) (nats iv) i : Nat) : Int) := by
  unfold tr
  rw [ints_getD, trn_get _ _ _ (by rw [nats_len]; exact hi)]

set_option maxHeartbeats 2000000 in
set_option maxRecDepth 100000 in
theorem fine (A0 : Option Addr) (n0 c0 : Nat) (l0 : List Int) (A1 : Option Addr) (n1 c1 : Nat) (l1 : List Int) (A2 : Option Addr) (n2 c2 : Nat) (l2 : List Int) (A3 : Option Addr) (n3 c3 : Nat) (l3 : List Int) (A4 : Option Addr) (n4 c4 : Nat) (l4 : List Int) (w : World) (h0 : Holds w w.heap.size A0 n0 c0 l0) (h1 : Holds w w.heap.size A1 n1 c1 l1) (h2 : Holds w w.heap.size A2 n2 c2 l2) (h3 : Holds w w.heap.size A3 n3 c3 l3) (h4 : Holds w w.heap.size A4 n4 c4 l4) (m0 : n0 ≤ 140737488355328) (m1 : n1 ≤ 140737488355328) (m2 : n2 ≤ 140737488355328) (m3 : n3 ≤ 140737488355328) (m4 : n4 ≤ 140737488355328) (q : n0 + n1 + n2 ≤ 300) (q2 : n3 ≤ 400) (q3 : n3 = n4) (gd : good l0 l1 l2) :
    Calls Try.prog 5 #[.slice A0 n0 c0, .slice A1 n1 c1, .slice A2 n2 c2, .slice A3 n3 c3, .slice A4 n4 c4] w fun e w' => e = .returned (.bool true) ∧ Below w.heap.size w w' := by
  have Q : decide (n0 + n1 + n2 ≤ 300) = true := decide_eq_true q
  have g1 : decide ((400 : Int) < (n3 : Int)) = false := decide_eq_false (by omega)
  have FW := Lib.hid (few_any A0 n0 c0 A1 n1 c1 A2 n2 c2 w m0 m1 m2)
  rw [Q] at FW
  obtain rfl := q3
  have H3 := Lib.hid h3
  have H4 := Lib.hid h4
  have Q2 := Lib.hid q2
  have TT := Lib.hid (turn_good A0 n0 c0 l0 A1 n1 c1 l1 A2 n2 c2 l2 w h0 h1 h2 m0 gd)
  have KF : Hid (∀ j, kb (keys (nats l0)) (nats l1) (nats l2) j < 256) := Lib.hid fun j => kb_lt (keys_byt (nats_byt h0.2.2.2.1)) (nats_byt h1.2.2.2.1) (nats_byt h2.2.2.2.1) j
  have G3 : Hid (∀ i, i < n3 → (tr l0 l1 l2 l3).getD i 0 = (((nats l3).getD i 0 ^^^ kb (keys (nats l0)) (nats l1) (nats l2) i : Nat) : Int)) := Lib.hid fun i hi => tr_get h3.2.2.2.1 i (by rw [h3.1]; exact hi)
  have G4 : Hid (∀ i, i < n3 → (tr l0 l1 l2 l4).getD i 0 = (((nats l4).getD i 0 ^^^ kb (keys (nats l0)) (nats l1) (nats l2) i : Nat) : Int)) := Lib.hid fun i hi => tr_get h4.2.2.2.1 i (by rw [h4.1]; exact hi)
  obtain ⟨kf, hkf⟩ : ∃ kf, kf = kb (keys (nats l0)) (nats l1) (nats l2) := ⟨_, rfl⟩
  rw [← hkf] at KF G3 G4
  clear h0 h1 h2 h3 h4 m0 m1 m2 m3 m4 q q2 Q gd hkf
  go_enter Try.func5, Try.ntmps5
  go_wp2_with fail
  refine FW.out.mono ?_
  rintro e w' ⟨rfl, rfl⟩
  clear FW
  go_wp2_with fail
  refine (TT.out w (Below.refl _ _) _ _ _ _ H3.out Q2.out).mono ?_
  rintro e w1 ⟨A5, c5, rfl, hh, hb⟩
  have P1 := Lib.hid hh
  have B1 := Lib.hid hb
  clear hh hb
  go_wp2_with fail
  refine (TT.out w1 B1.out _ _ _ _ ((H4.out.below B1.out).more B1.out.size) Q2.out).mono ?_
  rintro e w2 ⟨A6, c6, rfl, hh, hb⟩
  have P2 := Lib.hid hh
  have P1' := Lib.hid ((P1.out.below hb).more hb.size)
  have B2 := Lib.hid (B1.out.trans (hb.mono B1.out.size))
  clear hh hb B1 P1
  obtain ⟨X, hX⟩ : ∃ X, X = tr l0 l1 l2 l3 := ⟨_, rfl⟩
  obtain ⟨Y, hY⟩ : ∃ Y, Y = tr l0 l1 l2 l4 := ⟨_, rfl⟩
  rw [← hX] at G3 P1'
  rw [← hY] at G4 P2
  clear hX hY TT
  go_wp2_with fail
  go_loopw [15] (fun kv wr => ∃ j : Nat, kv = .int .i64 (j : Int) ∧ j ≤ n3 ∧ Hid (Below w2.heap.size w2 wr)) (fun kv _ => n3 - (intOf kv).toNat)
  case atStart => exact ⟨0, rfl, by omega, Lib.hid (Below.refl _ _)⟩
  case round =>
    obtain ⟨j, rfl, hj, HB⟩ := hrel
    by_cases hlt : j < n3
    · have h3 := H3.out.below (B2.out.trans (HB.out.mono B2.out.size))
      have h4 := H4.out.below (B2.out.trans (HB.out.mono B2.out.size))
      have p1 := P1'.out.below HB.out
      have p2 := P2.out.below HB.out
      obtain ⟨q3, o3, e3, _⟩ := h3.2.2.2.2 (by omega)
      obtain ⟨q4, o4, e4, _⟩ := h4.2.2.2.2 (by omega)
      obtain ⟨q5, o5, e5, _⟩ := p1.2.2.2.2 (by omega)
      obtain ⟨q6, o6, e6, _⟩ := p2.2.2.2.2 (by omega)
      subst e3 e4 e5 e6
      have x3 := cell_getD h3 j hlt
      rw [nats_getD h3.2.2.2.1 j] at x3
      have x4 := cell_getD h4 j hlt
      rw [nats_getD h4.2.2.2.1 j] at x4
      have x5 := cell_getD p1 j hlt
      rw [G3.out j hlt] at x5
      have x6 := cell_getD p2 j hlt
      rw [G4.out j hlt] at x6
      have b3 := (nats_byt h3.2.2.2.1).get j
      have b4 := (nats_byt h4.2.2.2.1).get j
      have bk := KF.out j
      have r3 := h3.2.2.1
      have r4 := h4.2.2.1
      have r5 := p1.2.2.1
      have r6 := p2.2.2.1
      have s3 := h3.2.1
      have s4 := h4.2.1
      have s5 := p1.2.1
      have s6 := p2.2.1
      unfold maxLen at r3 r4 r5 r6
      generalize (nats l3).getD j 0 = x at *
      generalize (nats l4).getD j 0 = y at *
      generalize kf j = z at *
      have e1 : bits .xor .u8 (x : Int) (y : Int) = ((x ^^^ y : Nat) : Int) := Bits3.u8_xor b3 b4
      have e2 : bits .xor .u8 ((x ^^^ z : Nat) : Int) ((y ^^^ z : Nat) : Int) = ((x ^^^ y : Nat) : Int) := by
        rw [Bits3.u8_xor (xor_lt b3 bk) (xor_lt b4 bk)]
        have : (x ^^^ z) ^^^ (y ^^^ z) = x ^^^ y := by
          rw [Nat.xor_assoc, ← Nat.xor_assoc z, Nat.xor_comm z y, Nat.xor_assoc y, Nat.xor_self, Nat.xor_zero]
        rw [this]
      generalize x ^^^ y = xy at *
      generalize x ^^^ z = xz at *
      generalize y ^^^ z = yz at *
      have g5 : decide ((n3 : Int) ≤ (j : Int)) = false := decide_eq_false (by omega)
      have g5' : decide (n3 ≤ j) = false := decide_eq_false (by omega)
      have g6 : decide ((j : Int) < (n3 : Int)) = true := decide_eq_true (by omega)
      clear h3 h4 p1 p2
      go_wp2_with fail
      go_quiet (fail)
      have HB2 := Lib.hid (below_drewN HB.out nq)
      clear x3 x4 x5 x6 e1 e2 HB
      generalize wr.drewN nq = wr2 at *
      go_wp2_with fail
      go_roundw
      case rel => exact ⟨j + 1, by go_num, by omega, HB2⟩
      case measure => simp [intOf]; omega
    · obtain rfl : j = n3 := by omega
      clear hlt
      have g6 : decide ((j : Int) < (j : Int)) = false := decide_eq_false (by omega)
      go_wp2_with fail
      refine (awake_any _).mono ?_
      rintro e w4 ⟨rfl, hb⟩
      have B4 := Lib.hid ((B2.out.trans (HB.out.mono B2.out.size)).trans (hb.mono (by have := B2.out.size; have := HB.out.size; omega)))
      clear hb
      go_wp2_with fail
      go_ret
      exact ⟨rfl, B4.out⟩

theorem places_any (A0 : Option Addr) (n0 c0 : Nat) (l0 : List Int) (A1 : Option Addr) (n1 c1 : Nat) (l1 : List Int) (A2 : Option Addr) (n2 c2 : Nat) (l2 : List Int) (A3 : Option Addr) (n3 c3 : Nat) (l3 : List Int) (A4 : Option Addr) (n4 c4 : Nat) (l4 : List Int) (w : World) (h0 : Holds w w.heap.size A0 n0 c0 l0) (h1 : Holds w w.heap.size A1 n1 c1 l1) (h2 : Holds w w.heap.size A2 n2 c2 l2) (h3 : Holds w w.heap.size A3 n3 c3 l3) (h4 : Holds w w.heap.size A4 n4 c4 l4) (m0 : n0 ≤ 140737488355328) (m1 : n1 ≤ 140737488355328) (m2 : n2 ≤ 140737488355328) (m3 : n3 ≤ 140737488355328) (m4 : n4 ≤ 140737488355328) :
    Calls Try.prog 5 #[.slice A0 n0 c0, .slice A1 n1 c1, .slice A2 n2 c2, .slice A3 n3 c3, .slice A4 n4 c4] w fun e w' => e = .returned (.bool true) ∧ Below w.heap.size w w' := by
  by_cases q : n0 + n1 + n2 ≤ 300
  · by_cases q2 : 400 < n3
    · exact long A0 n0 c0 l0 A1 n1 c1 l1 A2 n2 c2 l2 A3 n3 c3 l3 A4 n4 c4 l4 w h0 h1 h2 h3 h4 m0 m1 m2 m3 m4 (.inr (.inl ⟨q, q2⟩))
    · by_cases q3 : n3 = n4
      · by_cases gd : good l0 l1 l2
        · exact fine A0 n0 c0 l0 A1 n1 c1 l1 A2 n2 c2 l2 A3 n3 c3 l3 A4 n4 c4 l4 w h0 h1 h2 h3 h4 m0 m1 m2 m3 m4 q (by omega) q3 gd
        · exact bad A0 n0 c0 l0 A1 n1 c1 l1 A2 n2 c2 l2 A3 n3 c3 l3 A4 n4 c4 l4 w h0 h1 h2 h3 h4 m0 m1 m2 m3 m4 q (by omega) q3 gd
      · exact long A0 n0 c0 l0 A1 n1 c1 l1 A2 n2 c2 l2 A3 n3 c3 l3 A4 n4 c4 l4 w h0 h1 h2 h3 h4 m0 m1 m2 m3 m4 (.inr (.inr ⟨q, by omega, q3⟩))
  · exact long A0 n0 c0 l0 A1 n1 c1 l1 A2 n2 c2 l2 A3 n3 c3 l3 A4 n4 c4 l4 w h0 h1 h2 h3 h4 m0 m1 m2 m3 m4 (.inl q)
end Go.Proofs.Ythjbcdjphokjbaa.LawPlaces
