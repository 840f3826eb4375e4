/- The law CtrBlocks: its walk. -/
import Derived.Test.YthjbcdjphokjbaaLawTwice
import Derived.Test.YthjbcdjphokjbaaCtrU
set_option linter.unusedVariables false
namespace Go.Proofs.Ythjbcdjphokjbaa.LawBlocks9
open Go.RowKit Go.PlainAid Go.Sort Go.Proofs.Ythjbcdjphokjbaa.Sums Go.Proofs.Ythjbcdjphokjbaa.Mem Go.Proofs.Ythjbcdjphokjbaa.Blk Go.Proofs.Ythjbcdjphokjbaa.Bits3 Go.Proofs.Ythjbcdjphokjbaa.Ints Go.Proofs.Ythjbcdjphokjbaa.CutA Go.Proofs.Ythjbcdjphokjbaa.AesF Go.Proofs.Ythjbcdjphokjbaa.CtrD Go.Proofs.Ythjbcdjphokjbaa.AesB Go.Proofs.Ythjbcdjphokjbaa.AesK Go.Proofs.Ythjbcdjphokjbaa.AesR2 Go.Proofs.Ythjbcdjphokjbaa.AesR3 Go.Proofs.Ythjbcdjphokjbaa.Aes9 Go.Proofs.Ythjbcdjphokjbaa.Ctr1 Go.Proofs.Ythjbcdjphokjbaa.Ctr2 Go.Proofs.Ythjbcdjphokjbaa.Ctr4 Go.Proofs.Ythjbcdjphokjbaa.Ctr5 Go.Proofs.Ythjbcdjphokjbaa.CtrR Go.Proofs.Ythjbcdjphokjbaa.CtrT Go.Proofs.Ythjbcdjphokjbaa.CtrA Go.Proofs.Ythjbcdjphokjbaa.CtrU Go.Proofs.Ythjbcdjphokjbaa.LawTwice

set_option maxHeartbeats 1000000 in
theorem long (A0 : Option Addr) (n0 c0 : Nat) (l0 : List Int) (A1 : Option Addr) (n1 c1 : Nat) (l1 : List Int) (A2 : Option Addr) (n2 c2 : Nat) (l2 : List Int) (n : Int) (w : World) (h0 : Holds w w.heap.size A0 n0 c0 l0) (h1 : Holds w w.heap.size A1 n1 c1 l1) (h2 : Holds w w.heap.size A2 n2 c2 l2) (m0 : n0 ≤ 140737488355328) (m1 : n1 ≤ 140737488355328) (m2 : n2 ≤ 140737488355328) (q : ¬ n0 + n1 + n2 ≤ 300 ∨ (n0 + n1 + n2 ≤ 300 ∧ n < 0) ∨ (n0 + n1 + n2 ≤ 300 ∧ 0 ≤ n ∧ 20 < n)) :
    Calls Try.prog 6 #[.slice A0 n0 c0, .slice A1 n1 c1, .slice A2 n2 c2, .int .i64 n] w fun e w' => e = .returned (.bool true) ∧ Below w.heap.size w w' := by
  rcases q with q | ⟨q, q2⟩ | ⟨q, q2, q3⟩
  · have Q : decide (n0 + n1 + n2 ≤ 300) = false := decide_eq_false q
    clear q h0 h1 h2
    go_enter Try.func6, Try.ntmps6
    go_wp2_with fail
    refine (few_any A0 n0 c0 A1 n1 c1 A2 n2 c2 w m0 m1 m2).mono ?_
    rintro e w' ⟨rfl, rfl⟩
    rw [Q]
    go_wp2_with fail
    refine (awake_any _).mono ?_
    rintro e w1 ⟨rfl, hb⟩
    have B1 := Lib.hid hb
    clear hb
    go_wp2_with fail
    go_ret
    exact ⟨rfl, B1.out⟩
  · have Q : decide (n0 + n1 + n2 ≤ 300) = true := decide_eq_true q
    have g1 : decide (n < 0) = true := decide_eq_true q2
    clear q2
    clear q h0 h1 h2
    go_enter Try.func6, Try.ntmps6
    go_wp2_with fail
    refine (few_any A0 n0 c0 A1 n1 c1 A2 n2 c2 w m0 m1 m2).mono ?_
    rintro e w' ⟨rfl, rfl⟩
    rw [Q]
    go_wp2_with fail
    refine (awake_any _).mono ?_
    rintro e w1 ⟨rfl, hb⟩
    have B1 := Lib.hid hb
    clear hb
    go_wp2_with fail
    go_ret
    exact ⟨rfl, B1.out⟩
  · have Q : decide (n0 + n1 + n2 ≤ 300) = true := decide_eq_true q
    have g1 : decide (n < 0) = false := decide_eq_false (by omega)
    have g2 : decide (20 < n) = true := decide_eq_true q3
    clear q2 q3
    clear q h0 h1 h2
    go_enter Try.func6, Try.ntmps6
    go_wp2_with fail
    refine (few_any A0 n0 c0 A1 n1 c1 A2 n2 c2 w m0 m1 m2).mono ?_
    rintro e w' ⟨rfl, rfl⟩
    rw [Q]
    go_wp2_with fail
    refine (awake_any _).mono ?_
    rintro e w1 ⟨rfl, hb⟩
    have B1 := Lib.hid hb
    clear hb
    go_wp2_with fail
    go_ret
    exact ⟨rfl, B1.out⟩

set_option maxHeartbeats 2000000 in
theorem bad (A0 : Option Addr) (n0 c0 : Nat) (l0 : List Int) (A1 : Option Addr) (n1 c1 : Nat) (l1 : List Int) (A2 : Option Addr) (n2 c2 : Nat) (l2 : List Int) (n : Nat) (w : World) (h0 : Holds w w.heap.size A0 n0 c0 l0) (h1 : Holds w w.heap.size A1 n1 c1 l1) (h2 : Holds w w.heap.size A2 n2 c2 l2) (m0 : n0 ≤ 140737488355328) (m1 : n1 ≤ 140737488355328) (m2 : n2 ≤ 140737488355328) (q : n0 + n1 + n2 ≤ 300) (q2 : n ≤ 20) (gd : ¬ good l0 l1 l2) :
    Calls Try.prog 6 #[.slice A0 n0 c0, .slice A1 n1 c1, .slice A2 n2 c2, .int .i64 (n : Int)] w fun e w' => e = .returned (.bool true) ∧ Below w.heap.size w w' := by
  have Q : decide (n0 + n1 + n2 ≤ 300) = true := decide_eq_true q
  have g1 : decide ((n : Int) < 0) = false := decide_eq_false (by omega)
  have g2 : decide ((20 : Int) < (n : Int)) = false := decide_eq_false (by omega)
  have g2' : decide (20 < n) = false := decide_eq_false (by omega)
  have e1 : IntKind.i64.wrap (16 * (n : Int)) = 16 * (n : Int) := IntWalk.i64_in _ (by omega)
  have e2 : IntKind.i64.wrap (16 * (n : Int) + 16) = 16 * (n : Int) + 16 := IntWalk.i64_in _ (by omega)
  have e3 : IntKind.i64.wrap ((n : Int) + 1) = (n : Int) + 1 := IntWalk.i64_in _ (by omega)
  have FW := Lib.hid (few_any A0 n0 c0 A1 n1 c1 A2 n2 c2 w m0 m1 m2)
  rw [Q] at FW
  have H0 := Lib.hid h0
  have H1 := Lib.hid h1
  have H2 := Lib.hid h2
  have Q2 := Lib.hid q2
  have M0 := Lib.hid m0
  have ES := Lib.hid (err_bad (n := 16 * (n : Int) + 16) gd)
  have OS : Hid (sOut l0 l1 l2 (16 * (n : Int) + 16) = []) := Lib.hid (by unfold sOut; rw [if_neg (by rw [ES.out]; decide)])
  have C1 := Lib.hid (stream_u A0 n0 c0 l0 A1 n1 c1 l1 A2 n2 c2 l2 (16 * (n : Int) + 16) w w.heap.size h0 h1 h2 (Nat.le_refl _) m0)
  rw [ES.out, OS.out] at C1
  have C2 : Hid (∀ W, Below w.heap.size w W → Calls Try.prog 9 #[.slice A1 n1 c1, .slice A2 n2 c2, .int .i64 ((n : Int) + 1)] W (Ans W (cOut l1 l2 ((n : Int) + 1)) (cErr l1 l2 ((n : Int) + 1)))) := Lib.hid fun W hW => counter_u A1 n1 c1 l1 A2 n2 c2 l2 ((n : Int) + 1) W w.heap.size (H1.out.below hW) (H2.out.below hW) hW.size
  by_cases gc : cErr l1 l2 ((n : Int) + 1) = 0
  · have gk : ¬ (n0 = 16 ∨ n0 = 32) := fun k => gd (by
      have hc : cbad l1.length l2.length ((n : Int) + 1) = false := by
        unfold cErr at gc
        cases hq : cbad l1.length l2.length ((n : Int) + 1) with
        | false => rfl
        | true => rw [hq] at gc; exact absurd gc (by decide)
      have := cbad_false hc
      exact ⟨by rw [h0.1]; exact k, this.1, this.2.1⟩)
    rw [gc] at C2
    obtain ⟨X, hX⟩ : ∃ X, X = cOut l1 l2 ((n : Int) + 1) := ⟨_, rfl⟩
    rw [← hX] at C2
    have C3 : Hid (∀ W A c, Below w.heap.size w W → X.length ≤ 16 → Calls Try.prog 16 #[.slice A0 n0 c0, .slice A X.length c] W fun e w' => e = .returned (.tuple #[.slice none 0 0, .int .i64 1]) ∧ Below W.heap.size W w') := Lib.hid fun W A c hW hl =>
      enc_bad A0 n0 c0 l0 A X.length c W w.heap.size (H0.out.below hW) hW.size M0.out (by omega) (by
        have a : n0 ≠ 16 := fun e => gk (.inl e)
        have b : n0 ≠ 32 := fun e => gk (.inr e)
        simp [mayE, a, b])
    have LX : Hid (X.length ≤ 16) := Lib.hid (by
      rw [hX]; unfold cOut
      split
      · exact Nat.zero_le _
      · rename_i hq
        have := cbad_false (Bool.eq_false_iff.2 hq)
        rw [Ctr1.ints_len, cnt_len (by rw [nats_len]; exact this.1) (by rw [nats_len]; exact this.2.1)]; decide)
    obtain ⟨LL, hLL⟩ : ∃ L, L = X.length := ⟨_, rfl⟩
    clear h0 h1 h2 m0 m1 m2 q q2 Q gd gk ES OS gc hX
    go_enter Try.func6, Try.ntmps6
    go_wp2_with fail
    refine FW.out.mono ?_
    rintro e w' ⟨rfl, rfl⟩
    clear FW
    go_wp2_with fail
    refine C1.out.mono ?_
    rintro e w1 ⟨A5, c5, rfl, hh, hb⟩
    have B1 := Lib.hid hb
    clear hh hb C1
    go_wp2_with fail
    refine (C2.out _ B1.out).mono ?_
    rintro e w2 ⟨A6, c6, rfl, hh, hb⟩
    have B2 := Lib.hid (B1.out.trans (hb.mono B1.out.size))
    clear hh hb B1 C2
    go_wp2_with fail
    refine (C3.out _ _ _ B2.out LX.out).mono ?_
    rintro e w3 ⟨rfl, hb⟩
    have B3 := Lib.hid (B2.out.trans (hb.mono B2.out.size))
    clear hb B2 C3
    go_wp2_with fail
    refine (awake_any _).mono ?_
    rintro e w4 ⟨rfl, hb⟩
    have B4 := Lib.hid (B3.out.trans (hb.mono B3.out.size))
    clear hb
    go_wp2_with fail
    go_ret
    exact ⟨rfl, B4.out⟩
  · have hX : cOut l1 l2 ((n : Int) + 1) = [] ∧ cErr l1 l2 ((n : Int) + 1) = 1 := by
      unfold cErr at gc
      unfold cOut cErr
      cases hq : cbad l1.length l2.length ((n : Int) + 1) with
      | false => rw [hq] at gc; exact absurd rfl gc
      | true => exact ⟨rfl, rfl⟩
    rw [hX.1, hX.2] at C2
    have C3 : Hid (∀ W A c, Below w.heap.size w W → Calls Try.prog 16 #[.slice A0 n0 c0, .slice A 0 c] W fun e w' => e = .returned (.tuple #[.slice none 0 0, .int .i64 1]) ∧ Below W.heap.size W w') := Lib.hid fun W A c hW =>
      enc_bad A0 n0 c0 l0 A 0 c W w.heap.size (H0.out.below hW) hW.size M0.out (by omega) (by simp [mayE])
    clear h0 h1 h2 m0 m1 m2 q q2 Q gd ES OS gc hX
    go_enter Try.func6, Try.ntmps6
    go_wp2_with fail
    refine FW.out.mono ?_
    rintro e w' ⟨rfl, rfl⟩
    clear FW
    go_wp2_with fail
    refine C1.out.mono ?_
    rintro e w1 ⟨A5, c5, rfl, hh, hb⟩
    have B1 := Lib.hid hb
    clear hh hb C1
    go_wp2_with fail
    refine (C2.out _ B1.out).mono ?_
    rintro e w2 ⟨A6, c6, rfl, hh, hb⟩
    have B2 := Lib.hid (B1.out.trans (hb.mono B1.out.size))
    clear hh hb B1 C2
    go_wp2_with fail
    refine (C3.out _ _ _ B2.out).mono ?_
    rintro e w3 ⟨rfl, hb⟩
    have B3 := Lib.hid (B2.out.trans (hb.mono B2.out.size))
    clear hb B2 C3
    go_wp2_with fail
    refine (awake_any _).mono ?_
    rintro e w4 ⟨rfl, hb⟩
    have B4 := Lib.hid (B3.out.trans (hb.mono B3.out.size))
    clear hb
    go_wp2_with fail
    go_ret
    exact ⟨rfl, B4.out⟩

set_option maxHeartbeats 2000000 in
set_option maxRecDepth 100000 in
theorem fine (A0 : Option Addr) (n0 c0 : Nat) (l0 : List Int) (A1 : Option Addr) (n1 c1 : Nat) (l1 : List Int) (A2 : Option Addr) (n2 c2 : Nat) (l2 : List Int) (n : Nat) (w : World) (h0 : Holds w w.heap.size A0 n0 c0 l0) (h1 : Holds w w.heap.size A1 n1 c1 l1) (h2 : Holds w w.heap.size A2 n2 c2 l2) (m0 : n0 ≤ 140737488355328) (m1 : n1 ≤ 140737488355328) (m2 : n2 ≤ 140737488355328) (q : n0 + n1 + n2 ≤ 300) (q2 : n ≤ 20) (gd : good l0 l1 l2) :
    Calls Try.prog 6 #[.slice A0 n0 c0, .slice A1 n1 c1, .slice A2 n2 c2, .int .i64 (n : Int)] w fun e w' => e = .returned (.bool true) ∧ Below w.heap.size w w' := by
  have Q : decide (n0 + n1 + n2 ≤ 300) = true := decide_eq_true q
  have g1 : decide ((n : Int) < 0) = false := decide_eq_false (by omega)
  have g2 : decide ((20 : Int) < (n : Int)) = false := decide_eq_false (by omega)
  have g2' : decide (20 < n) = false := decide_eq_false (by omega)
  have e1 : IntKind.i64.wrap (16 * (n : Int)) = 16 * (n : Int) := IntWalk.i64_in _ (by omega)
  have e2 : IntKind.i64.wrap (16 * (n : Int) + 16) = 16 * (n : Int) + 16 := IntWalk.i64_in _ (by omega)
  have e3 : IntKind.i64.wrap ((n : Int) + 1) = (n : Int) + 1 := IntWalk.i64_in _ (by omega)
  have FW := Lib.hid (few_any A0 n0 c0 A1 n1 c1 A2 n2 c2 w m0 m1 m2)
  rw [Q] at FW
  have H0 := Lib.hid h0
  have H1 := Lib.hid h1
  have H2 := Lib.hid h2
  have Q2 := Lib.hid q2
  have M0 := Lib.hid m0
  obtain ⟨gk, gs, gv⟩ := gd
  rw [h0.1] at gk
  obtain rfl : n1 = 4 := h1.1.symm.trans gs
  obtain rfl : n2 = 8 := h2.1.symm.trans gv
  have KB := Lib.hid (keys_byt (nats_byt h0.2.2.2.1))
  have SB := Lib.hid (nats_byt h1.2.2.2.1)
  have VB := Lib.hid (nats_byt h2.2.2.2.1)
  have C1 := Lib.hid (stream_ok A0 n0 c0 l0 A1 c1 l1 A2 c2 l2 (16 * n + 16) w w.heap.size h0 h1 h2 (Nat.le_refl _) gk (by omega))
  have C2 : Hid (∀ W, Below w.heap.size w W → Calls Try.prog 9 #[.slice A1 4 c1, .slice A2 8 c2, .int .i64 ((n : Int) + 1)] W fun e w' => ∃ A c, e = .returned (.tuple #[.slice A 16 c, .int .i64 0]) ∧ Holds w' w'.heap.size A 16 c (ints (cnt (nats l1) (nats l2) (n + 1))) ∧ Below W.heap.size W w') := Lib.hid fun W hW => by
    have := counter_ok A1 A2 c1 c2 l1 l2 (n + 1) W w.heap.size (H1.out.below hW) (H2.out.below hW) hW.size (by omega) (by omega)
    rwa [show ((n + 1 : Nat) : Int) = (n : Int) + 1 by omega] at this
  have SE : Hid ((strm (keys (nats l0)) (nats l1) (nats l2) (16 * n + 16)).drop (16 * n) = block (keys (nats l0)) (cnt (nats l1) (nats l2) (n + 1))) := Lib.hid (strm_last _ _ _ _)
  have SBY := Lib.hid (strm_byt KB.out SB.out VB.out (16 * n + 16))
  have BBY := Lib.hid (block_byt KB.out (cnt_byt SB.out VB.out (n + 1)))
  have GK := Lib.hid gk
  obtain ⟨CT, hCT⟩ : ∃ C, C = cnt (nats l1) (nats l2) (n + 1) := ⟨_, rfl⟩
  obtain ⟨ST, hST⟩ : ∃ C, C = strm (keys (nats l0)) (nats l1) (nats l2) (16 * n + 16) := ⟨_, rfl⟩
  have SL : Hid (ST.length = 16 * n + 16) := Lib.hid (by rw [hST, strm_len])
  rw [← hCT] at C2 SE BBY
  rw [← hST] at C1 SE SBY
  rw [show ((16 * n + 16 : Nat) : Int) = 16 * (n : Int) + 16 by omega] at C1
  obtain ⟨N, hN⟩ : ∃ N, N = 16 * n := ⟨_, rfl⟩
  have NE := Lib.hid hN
  clear h0 h1 h2 m0 m1 m2 q q2 Q gk gs gv hCT hST hN
  go_enter Try.func6, Try.ntmps6
  go_wp2_with fail
  refine FW.out.mono ?_
  rintro e w' ⟨rfl, rfl⟩
  clear FW
  go_wp2_with fail
  refine C1.out.mono ?_
  rintro e w1 ⟨gx, rfl, hg, hr, hb⟩
  have R1 := Lib.hid hr
  have B1 := Lib.hid hb
  clear hg hr hb C1
  go_wp2_with fail
  refine (C2.out _ B1.out).mono ?_
  rintro e w2 ⟨A6, c6, rfl, hh, hb⟩
  have P2 := Lib.hid hh
  have R2 := Lib.hid (R1.out.up hb)
  have B2 := Lib.hid (B1.out.trans (hb.mono B1.out.size))
  clear hh hb B1 C2 R1
  go_wp2_with fail
  refine (enc_ok A0 n0 c0 l0 A6 c6 (ints CT) w2 w2.heap.size ((H0.out.below B2.out).more B2.out.size) P2.out (Nat.le_refl _) GK.out).mono ?_
  rintro e w3 ⟨gy, rfl, hg, hr, hb⟩
  rw [nats_ints, ← SE.out] at hr
  have R3 := Lib.hid hr
  have R2' := Lib.hid (R2.out.up hb)
  have B3 := Lib.hid (B2.out.trans (hb.mono B2.out.size))
  clear hg hr hb B2 R2 P2
  obtain ⟨s1, hs1⟩ : ∃ s, s = strOfNums (ints (ST.drop (16 * n))) := ⟨_, rfl⟩
  have AW : ∀ (d : Nat) (os : Array Obj), Calls Try.prog 15 #[] (grow (redrawn w3 d) os) fun e w'' => e = .returned (.bool true) ∧ ∃ p : Regrown, w'' = grow (redrawn w3 p.d) p.os := fun d os => Calls.regrown_of (awake_any _)
  have sl : ∀ (d : Nat) (os : Array Obj), (Instr.sliceAt 22 (.slice (some ⟨gx, 0, none⟩) (16 * n + 16) (16 * n + 16)) (some (.int .i64 (16 * (n : Int)))) none none).run Try.prog (grow (redrawn w3 d) os) = .ok (.slice (some ⟨gx, N, none⟩) 16 16) (grow (redrawn w3 d) os) := fun d os => by
    have := cut_l gx 0 (16 * n + 16) (16 * n + 16) (16 * n) (grow (redrawn w3 d) os) (by omega) (Nat.le_refl _) (by omega)
    rw [Nat.zero_add, ← NE.out, show N + 16 - N = 16 by omega, NE.out, show ((16 * n : Nat) : Int) = 16 * (n : Int) by omega] at this
    rw [NE.out]
    exact this
  have HX : ∀ W, BRow W gx ST → Holds W W.heap.size (some ⟨gx, N, none⟩) 16 16 (ints (ST.drop (16 * n))) := fun W h => by
    have h2 := BRow.holds h SBY.out (by rw [SL.out]; have := Q2.out; omega)
    rw [SL.out] at h2
    obtain ⟨b, o, e, h3⟩ := h2.from_ (k := 16 * n) (by omega)
    injection e with e
    injection e with e4 e5
    subst e4 e5
    rw [Nat.zero_add, show 16 * n + 16 - 16 * n = 16 by omega, ← NE.out] at h3
    rw [NE.out] at h3 ⊢
    have e6 : ints (ST.drop (16 * n)) = (ints ST).drop (16 * n) := by simp [ints, List.map_drop]
    rw [e6]
    exact h3
  have v1 : ∀ (d : Nat) (os : Array Obj), (convert 22 9 (.slice (some ⟨gx, N, none⟩) 16 16)).run Try.prog (grow (redrawn w3 d) os) = .ok (.string s1) (grow (redrawn w3 d) os) := fun d os => by
    rw [hs1]; exact run_string_bytes (HX _ (R2'.out.up (below_regrown w3 d os)))
  have v2 : ∀ (d : Nat) (os : Array Obj), (convert 22 9 (.slice (some ⟨gy, 0, none⟩) 16 16)).run Try.prog (grow (redrawn w3 d) os) = .ok (.string s1) (grow (redrawn w3 d) os) := fun d os => by
    rw [hs1]
    have := ARow.holds (R3.out.up (below_regrown w3 d os)) (by rw [SE.out]; exact BBY.out) (by rw [List.length_drop, SL.out]; omega)
    rw [List.length_drop, SL.out, show 16 * n + 16 - 16 * n = 16 by omega] at this
    exact run_string_bytes this
  clear HX hs1 R2' R3 SE SBY BBY KB SB VB
  have f1 : (16 * (n : Int)) ≤ 16 * (n : Int) + 16 := by omega
  have f0 : 0 ≤ 16 * (n : Int) := by omega
  have ft : (16 * (n : Int)).toNat = 16 * n := by omega
  rw [NE.out] at v1
  clear sl
  have NE2 := Q2.out
  go_wp2_with fail
  refine wp_region_quiet_below (by kernel_rfl) (by kernel_rfl) ?_
  repeat (quiet_step (with_reducible exact AW _ _))
  refine wpQuiet_nil ?_
  intro _ hw'
  obtain ⟨⟨dq, osq⟩, hw''⟩ := hw'
  subst hw''
  have G1 := Lib.hid (below_regrown w3 dq osq)
  clear v1 v2 AW
  generalize grow (redrawn w3 dq) osq = w4 at *
  have B4 := Lib.hid (B3.out.trans (G1.out.mono B3.out.size))
  go_wp2_with fail
  go_ret
  exact ⟨rfl, B4.out⟩

theorem blocks_any (A0 : Option Addr) (n0 c0 : Nat) (l0 : List Int) (A1 : Option Addr) (n1 c1 : Nat) (l1 : List Int) (A2 : Option Addr) (n2 c2 : Nat) (l2 : List Int) (n : Int) (w : World) (h0 : Holds w w.heap.size A0 n0 c0 l0) (h1 : Holds w w.heap.size A1 n1 c1 l1) (h2 : Holds w w.heap.size A2 n2 c2 l2) (m0 : n0 ≤ 140737488355328) (m1 : n1 ≤ 140737488355328) (m2 : n2 ≤ 140737488355328) :
    Calls Try.prog 6 #[.slice A0 n0 c0, .slice A1 n1 c1, .slice A2 n2 c2, .int .i64 n] w fun e w' => e = .returned (.bool true) ∧ Below w.heap.size w w' := by
  by_cases q : n0 + n1 + n2 ≤ 300
  · by_cases q2 : n < 0
    · exact long A0 n0 c0 l0 A1 n1 c1 l1 A2 n2 c2 l2 n w h0 h1 h2 m0 m1 m2 (.inr (.inl ⟨q, q2⟩))
    · by_cases q3 : 20 < n
      · exact long A0 n0 c0 l0 A1 n1 c1 l1 A2 n2 c2 l2 n w h0 h1 h2 m0 m1 m2 (.inr (.inr ⟨q, by omega, q3⟩))
      · obtain ⟨k, rfl⟩ : ∃ k : Nat, n = (k : Int) := ⟨n.toNat, by omega⟩
        by_cases gd : good l0 l1 l2
        · exact fine A0 n0 c0 l0 A1 n1 c1 l1 A2 n2 c2 l2 k w h0 h1 h2 m0 m1 m2 q (by omega) gd
        · exact bad A0 n0 c0 l0 A1 n1 c1 l1 A2 n2 c2 l2 k w h0 h1 h2 m0 m1 m2 q (by omega) gd
  · exact long A0 n0 c0 l0 A1 n1 c1 l1 A2 n2 c2 l2 n w h0 h1 h2 m0 m1 m2 (.inl q)
end Go.Proofs.Ythjbcdjphokjbaa.LawBlocks9
