/- The law CtrTwice: its walk. -/
import Derived.Lib.QuietBelow
import Derived.BigQuiet
import Derived.Test.YthjbcdjphokjbaaCtrU
set_option linter.unusedVariables false
namespace Go.Proofs.Ythjbcdjphokjbaa.LawTwice
open Go.RowKit Go.PlainAid Go.Sort Go.Proofs.Ythjbcdjphokjbaa.Sums Go.Proofs.Ythjbcdjphokjbaa.Mem Go.Proofs.Ythjbcdjphokjbaa.Blk Go.Proofs.Ythjbcdjphokjbaa.Bits3 Go.Proofs.Ythjbcdjphokjbaa.Ints Go.Proofs.Ythjbcdjphokjbaa.CutA Go.Proofs.Ythjbcdjphokjbaa.AesF Go.Proofs.Ythjbcdjphokjbaa.CtrD Go.Proofs.Ythjbcdjphokjbaa.AesB Go.Proofs.Ythjbcdjphokjbaa.AesK Go.Proofs.Ythjbcdjphokjbaa.AesR2 Go.Proofs.Ythjbcdjphokjbaa.AesR3 Go.Proofs.Ythjbcdjphokjbaa.Aes9 Go.Proofs.Ythjbcdjphokjbaa.Ctr1 Go.Proofs.Ythjbcdjphokjbaa.Ctr2 Go.Proofs.Ythjbcdjphokjbaa.Ctr4 Go.Proofs.Ythjbcdjphokjbaa.Ctr5 Go.Proofs.Ythjbcdjphokjbaa.CtrR Go.Proofs.Ythjbcdjphokjbaa.CtrT Go.Proofs.Ythjbcdjphokjbaa.CtrA Go.Proofs.Ythjbcdjphokjbaa.CtrU

def good (ky sa iv : List Int) : Prop := (ky.length = 16 ∨ ky.length = 32) ∧ sa.length = 4 ∧ iv.length = 8
theorem err_good {ky sa iv : List Int} {n : Int} (g : good ky sa iv) (h0 : 0 ≤ n) (h1 : n ≤ 65536) : sErr ky sa iv n = 0 := by
  unfold sErr errS; rw [if_pos ⟨g.1, g.2.1, g.2.2, h0⟩, if_pos h1]
theorem err_bad {ky sa iv : List Int} {n : Int} (g : ¬ good ky sa iv) : sErr ky sa iv n = 1 := by
  unfold sErr errS; rw [if_neg fun h => g ⟨h.1, h.2.1, h.2.2.1⟩]
def tr (ky sa iv l : List Int) : List Int := ints (trn (keys (nats ky)) (nats sa) (nats iv) (nats l))
theorem tr_len (ky sa iv l : List Int) : (tr ky sa iv l).length = l.length := by rw [tr, Ctr1.ints_len, trn_len, nats_len]
theorem tr_twice (ky sa iv l : List Int) (h : Bytes l) : tr ky sa iv (tr ky sa iv l) = l := by
  unfold tr; rw [nats_ints, trn_twice, ints_nats (fun z hz => h z hz)]
theorem nats_take (l : List Int) (k : Nat) : nats (l.take k) = (nats l).take k := by simp [nats, List.map_take]
theorem ints_take (l : List Nat) (k : Nat) : ints (l.take k) = (ints l).take k := by simp [ints, List.map_take]
theorem tr_take (ky sa iv l : List Int) (k : Nat) : tr ky sa iv (l.take k) = (tr ky sa iv l).take k := by
  unfold tr; rw [nats_take, trn_take, ints_take]
theorem out_good {ky sa iv l : List Int} (g : good ky sa iv) (h1 : l.length ≤ 65536) : tOut ky sa iv l = tr ky sa iv l := by
  unfold tOut; rw [if_pos (err_good g (by omega) (by omega))]; rfl
theorem out_bad {ky sa iv l : List Int} (g : ¬ good ky sa iv) : tOut ky sa iv l = [] := by
  unfold tOut; rw [if_neg (by rw [err_bad g]; decide)]
/-- Turn of a good key, salt, iv, in whatever later world. -/
theorem turn_good (A0 : Option Addr) (n0 c0 : Nat) (l0 : List Int) (A1 : Option Addr) (n1 c1 : Nat) (l1 : List Int) (A2 : Option Addr) (n2 c2 : Nat) (l2 : List Int) (w : World) (h0 : Holds w w.heap.size A0 n0 c0 l0) (h1 : Holds w w.heap.size A1 n1 c1 l1) (h2 : Holds w w.heap.size A2 n2 c2 l2) (m0 : n0 ≤ 140737488355328) (g : good l0 l1 l2)
    (W : World) (hW : Below w.heap.size w W) (A : Option Addr) (m c : Nat) (l : List Int) (hh : Holds W W.heap.size A m c l) (hm : m ≤ 400) :
    Calls Try.prog 13 #[.slice A0 n0 c0, .slice A1 n1 c1, .slice A2 n2 c2, .slice A m c] W fun e w' => ∃ A' c', e = .returned (.tuple #[.slice A' m c', .int .i64 0]) ∧ Holds w' w'.heap.size A' m c' (tr l0 l1 l2 l) ∧ Below W.heap.size W w' := by
  have t := turn_u A0 n0 c0 l0 A1 n1 c1 l1 A2 n2 c2 l2 A m c l W W.heap.size ((h0.below hW).more hW.size) ((h1.below hW).more hW.size) ((h2.below hW).more hW.size) hh (Nat.le_refl _) m0
  have hl := hh.1
  rw [out_good g (by omega), err_good g (by omega) (by omega)] at t
  unfold Ans at t
  rw [tr_len, hl] at t
  exact t
theorem turn_ungood (A0 : Option Addr) (n0 c0 : Nat) (l0 : List Int) (A1 : Option Addr) (n1 c1 : Nat) (l1 : List Int) (A2 : Option Addr) (n2 c2 : Nat) (l2 : List Int) (w : World) (h0 : Holds w w.heap.size A0 n0 c0 l0) (h1 : Holds w w.heap.size A1 n1 c1 l1) (h2 : Holds w w.heap.size A2 n2 c2 l2) (m0 : n0 ≤ 140737488355328) (g : ¬ good l0 l1 l2)
    (W : World) (hW : Below w.heap.size w W) (A : Option Addr) (m c : Nat) (l : List Int) (hh : Holds W W.heap.size A m c l) :
    Calls Try.prog 13 #[.slice A0 n0 c0, .slice A1 n1 c1, .slice A2 n2 c2, .slice A m c] W fun e w' => ∃ A' c', e = .returned (.tuple #[.slice A' 0 c', .int .i64 1]) ∧ Holds w' w'.heap.size A' 0 c' [] ∧ Below W.heap.size W w' := by
  have t := turn_u A0 n0 c0 l0 A1 n1 c1 l1 A2 n2 c2 l2 A m c l W W.heap.size ((h0.below hW).more hW.size) ((h1.below hW).more hW.size) ((h2.below hW).more hW.size) hh (Nat.le_refl _) m0
  rw [out_bad g, err_bad g] at t
  exact t

set_option maxHeartbeats 1000000 in
theorem long (A0 : Option Addr) (n0 c0 : Nat) (l0 : List Int) (A1 : Option Addr) (n1 c1 : Nat) (l1 : List Int) (A2 : Option Addr) (n2 c2 : Nat) (l2 : List Int) (A3 : Option Addr) (n3 c3 : Nat) (l3 : List Int) (n : Int) (w : World) (h0 : Holds w w.heap.size A0 n0 c0 l0) (h1 : Holds w w.heap.size A1 n1 c1 l1) (h2 : Holds w w.heap.size A2 n2 c2 l2) (h3 : Holds w w.heap.size A3 n3 c3 l3) (m0 : n0 ≤ 140737488355328) (m1 : n1 ≤ 140737488355328) (m2 : n2 ≤ 140737488355328) (m3 : n3 ≤ 140737488355328) (q : ¬ n0 + n1 + n2 ≤ 300 ∨ (n0 + n1 + n2 ≤ 300 ∧ 400 < n3) ∨ (n0 + n1 + n2 ≤ 300 ∧ n3 ≤ 400 ∧ n < 0) ∨ (n0 + n1 + n2 ≤ 300 ∧ n3 ≤ 400 ∧ 0 ≤ n ∧ (n3 : Int) < n)) :
    Calls Try.prog 4 #[.slice A0 n0 c0, .slice A1 n1 c1, .slice A2 n2 c2, .slice A3 n3 c3, .int .i64 n] w fun e w' => e = .returned (.bool true) ∧ Below w.heap.size w w' := by
  rcases q with q | ⟨q, q2⟩ | ⟨q, q2, q3⟩ | ⟨q, q2, q3, q4⟩
  · have Q : decide (n0 + n1 + n2 ≤ 300) = false := decide_eq_false q
    clear q h0 h1 h2 h3 m3
    go_enter Try.func4, Try.ntmps4
    go_wp2_with fail
    refine (few_any A0 n0 c0 A1 n1 c1 A2 n2 c2 w m0 m1 m2).mono ?_
    rintro e w' ⟨rfl, rfl⟩
    rw [Q]
    go_wp2_with fail
    refine (awake_any _).mono ?_
    rintro e w1 ⟨rfl, hb⟩
    have B1 := Lib.hid hb
    clear hb
    go_wp2_with fail
    go_ret
    exact ⟨rfl, B1.out⟩
  · have Q : decide (n0 + n1 + n2 ≤ 300) = true := decide_eq_true q
    have g1 : decide ((400 : Int) < (n3 : Int)) = true := decide_eq_true (by omega)
    clear q2
    clear q h0 h1 h2 h3 m3
    go_enter Try.func4, Try.ntmps4
    go_wp2_with fail
    refine (few_any A0 n0 c0 A1 n1 c1 A2 n2 c2 w m0 m1 m2).mono ?_
    rintro e w' ⟨rfl, rfl⟩
    rw [Q]
    go_wp2_with fail
    refine (awake_any _).mono ?_
    rintro e w1 ⟨rfl, hb⟩
    have B1 := Lib.hid hb
    clear hb
    go_wp2_with fail
    go_ret
    exact ⟨rfl, B1.out⟩
  · have Q : decide (n0 + n1 + n2 ≤ 300) = true := decide_eq_true q
    have g1 : decide ((400 : Int) < (n3 : Int)) = false := decide_eq_false (by omega)
    have g2 : decide (n < 0) = true := decide_eq_true q3
    clear q2 q3
    clear q h0 h1 h2 h3 m3
    go_enter Try.func4, Try.ntmps4
    go_wp2_with fail
    refine (few_any A0 n0 c0 A1 n1 c1 A2 n2 c2 w m0 m1 m2).mono ?_
    rintro e w' ⟨rfl, rfl⟩
    rw [Q]
    go_wp2_with fail
    refine (awake_any _).mono ?_
    rintro e w1 ⟨rfl, hb⟩
    have B1 := Lib.hid hb
    clear hb
    go_wp2_with fail
    go_ret
    exact ⟨rfl, B1.out⟩
  · have Q : decide (n0 + n1 + n2 ≤ 300) = true := decide_eq_true q
    have g1 : decide ((400 : Int) < (n3 : Int)) = false := decide_eq_false (by omega)
    have g2 : decide (n < 0) = false := decide_eq_false (by omega)
    have g3 : decide ((n3 : Int) < n) = true := decide_eq_true q4
    clear q2 q3 q4
    clear q h0 h1 h2 h3 m3
    go_enter Try.func4, Try.ntmps4
    go_wp2_with fail
    refine (few_any A0 n0 c0 A1 n1 c1 A2 n2 c2 w m0 m1 m2).mono ?_
    rintro e w' ⟨rfl, rfl⟩
    rw [Q]
    go_wp2_with fail
    refine (awake_any _).mono ?_
    rintro e w1 ⟨rfl, hb⟩
    have B1 := Lib.hid hb
    clear hb
    go_wp2_with fail
    go_ret
    exact ⟨rfl, B1.out⟩

set_option maxHeartbeats 1000000 in
theorem bad (A0 : Option Addr) (n0 c0 : Nat) (l0 : List Int) (A1 : Option Addr) (n1 c1 : Nat) (l1 : List Int) (A2 : Option Addr) (n2 c2 : Nat) (l2 : List Int) (A3 : Option Addr) (n3 c3 : Nat) (l3 : List Int) (n : Nat) (w : World) (h0 : Holds w w.heap.size A0 n0 c0 l0) (h1 : Holds w w.heap.size A1 n1 c1 l1) (h2 : Holds w w.heap.size A2 n2 c2 l2) (h3 : Holds w w.heap.size A3 n3 c3 l3) (m0 : n0 ≤ 140737488355328) (m1 : n1 ≤ 140737488355328) (m2 : n2 ≤ 140737488355328) (m3 : n3 ≤ 140737488355328) (q : n0 + n1 + n2 ≤ 300) (q2 : n3 ≤ 400) (q3 : n ≤ n3) (gd : ¬ good l0 l1 l2) :
    Calls Try.prog 4 #[.slice A0 n0 c0, .slice A1 n1 c1, .slice A2 n2 c2, .slice A3 n3 c3, .int .i64 (n : Int)] w fun e w' => e = .returned (.bool true) ∧ Below w.heap.size w w' := by
  have Q : decide (n0 + n1 + n2 ≤ 300) = true := decide_eq_true q
  have g1 : decide ((400 : Int) < (n3 : Int)) = false := decide_eq_false (by omega)
  have g2 : decide ((n : Int) < 0) = false := decide_eq_false (by omega)
  have g3 : decide ((n3 : Int) < (n : Int)) = false := decide_eq_false (by omega)
  have g3' : decide (n3 < n) = false := decide_eq_false (by omega)
  have FW := Lib.hid (few_any A0 n0 c0 A1 n1 c1 A2 n2 c2 w m0 m1 m2)
  rw [Q] at FW
  have sl : ∀ W : World, (Instr.sliceAt 22 (.slice A3 n3 c3) none (some (.int .i64 (n : Int))) none).run Try.prog W = .ok (.slice A3 n c3) W := fun W => cut_h A3 n3 c3 n W (by have := h3.2.1; omega)
  have H3 := Lib.hid h3
  have HU := Lib.hid (h3.upto (k := n) q3)
  have Q2 := Lib.hid q2
  have Q3 := Lib.hid q3
  have TT := Lib.hid (turn_ungood A0 n0 c0 l0 A1 n1 c1 l1 A2 n2 c2 l2 w h0 h1 h2 m0 gd)
  clear h0 h1 h2 h3 m0 m1 m2 m3 q q2 q3 Q gd
  go_enter Try.func4, Try.ntmps4
  go_wp2_with fail
  refine FW.out.mono ?_
  rintro e w' ⟨rfl, rfl⟩
  clear FW
  go_wp2_with fail
  refine (TT.out w (Below.refl _ _) _ _ _ _ H3.out).mono ?_
  rintro e w1 ⟨A4, c4, rfl, hh, hb⟩
  have P1 := Lib.hid hh
  have B1 := Lib.hid hb
  clear hh hb
  go_wp2_with fail
  refine (TT.out w1 B1.out _ _ _ _ P1.out).mono ?_
  rintro e w2 ⟨A5, c5, rfl, hh, hb⟩
  have B2 := Lib.hid (B1.out.trans (hb.mono B1.out.size))
  clear hh hb B1 P1
  go_wp2_with fail
  refine (TT.out w2 B2.out _ _ _ _ ((HU.out.below B2.out).more B2.out.size)).mono ?_
  rintro e w3 ⟨A6, c6, rfl, hh, hb⟩
  have B3 := Lib.hid (B2.out.trans (hb.mono B2.out.size))
  clear hh hb B2 sl
  go_wp2_with fail
  refine (awake_any _).mono ?_
  rintro e w4 ⟨rfl, hb⟩
  have B4 := Lib.hid (B3.out.trans (hb.mono B3.out.size))
  clear hb
  go_wp2_with fail
  go_ret
  exact ⟨rfl, B4.out⟩

set_option maxHeartbeats 2000000 in
set_option maxRecDepth 100000 in
theorem fine (A0 : Option Addr) (n0 c0 : Nat) (l0 : List Int) (A1 : Option Addr) (n1 c1 : Nat) (l1 : List Int) (A2 : Option Addr) (n2 c2 : Nat) (l2 : List Int) (A3 : Option Addr) (n3 c3 : Nat) (l3 : List Int) (n : Nat) (w : World) (h0 : Holds w w.heap.size A0 n0 c0 l0) (h1 : Holds w w.heap.size A1 n1 c1 l1) (h2 : Holds w w.heap.size A2 n2 c2 l2) (h3 : Holds w w.heap.size A3 n3 c3 l3) (m0 : n0 ≤ 140737488355328) (m1 : n1 ≤ 140737488355328) (m2 : n2 ≤ 140737488355328) (m3 : n3 ≤ 140737488355328) (q : n0 + n1 + n2 ≤ 300) (q2 : n3 ≤ 400) (q3 : n ≤ n3) (gd : good l0 l1 l2) :
    Calls Try.prog 4 #[.slice A0 n0 c0, .slice A1 n1 c1, .slice A2 n2 c2, .slice A3 n3 c3, .int .i64 (n : Int)] w fun e w' => e = .returned (.bool true) ∧ Below w.heap.size w w' := by
  have Q : decide (n0 + n1 + n2 ≤ 300) = true := decide_eq_true q
  have g1 : decide ((400 : Int) < (n3 : Int)) = false := decide_eq_false (by omega)
  have g2 : decide ((n : Int) < 0) = false := decide_eq_false (by omega)
  have g3 : decide ((n3 : Int) < (n : Int)) = false := decide_eq_false (by omega)
  have g3' : decide (n3 < n) = false := decide_eq_false (by omega)
  have FW := Lib.hid (few_any A0 n0 c0 A1 n1 c1 A2 n2 c2 w m0 m1 m2)
  rw [Q] at FW
  have sl : ∀ W : World, (Instr.sliceAt 22 (.slice A3 n3 c3) none (some (.int .i64 (n : Int))) none).run Try.prog W = .ok (.slice A3 n c3) W := fun W => cut_h A3 n3 c3 n W (by have := h3.2.1; omega)
  have H3 := Lib.hid h3
  have HU := Lib.hid (h3.upto (k := n) q3)
  have Q2 := Lib.hid q2
  have Q3 := Lib.hid q3
  have TT := Lib.hid (turn_good A0 n0 c0 l0 A1 n1 c1 l1 A2 n2 c2 l2 w h0 h1 h2 m0 gd)
  have E1 := Lib.hid (tr_twice l0 l1 l2 l3 h3.2.2.2.1)
  have E2 := Lib.hid (tr_take l0 l1 l2 l3 n)
  obtain ⟨X, hX⟩ : ∃ X, X = tr l0 l1 l2 l3 := ⟨_, rfl⟩
  have XE := Lib.hid hX
  rw [← hX] at E1 E2
  clear h0 h1 h2 h3 m0 m1 m2 m3 q q2 q3 Q gd hX
  go_enter Try.func4, Try.ntmps4
  go_wp2_with fail
  refine FW.out.mono ?_
  rintro e w' ⟨rfl, rfl⟩
  clear FW
  go_wp2_with fail
  refine (TT.out w (Below.refl _ _) _ _ _ _ H3.out Q2.out).mono ?_
  rintro e w1 ⟨A4, c4, rfl, hh, hb⟩
  rw [← XE.out] at hh
  have P1 := Lib.hid hh
  have B1 := Lib.hid hb
  clear hh hb
  go_wp2_with fail
  refine (TT.out w1 B1.out _ _ _ _ P1.out Q2.out).mono ?_
  rintro e w2 ⟨A5, c5, rfl, hh, hb⟩
  rw [E1.out] at hh
  have P2 := Lib.hid hh
  have P1' := Lib.hid ((P1.out.below hb).more hb.size)
  have B2 := Lib.hid (B1.out.trans (hb.mono B1.out.size))
  clear hh hb B1 P1
  go_wp2_with fail
  refine (TT.out w2 B2.out _ _ _ _ ((HU.out.below B2.out).more B2.out.size) (by have := Q2.out; have := Q3.out; omega)).mono ?_
  rintro e w3 ⟨A6, c6, rfl, hh, hb⟩
  rw [E2.out] at hh
  have P3 := Lib.hid hh
  have P1'' := Lib.hid ((P1'.out.below hb).more hb.size)
  have P2' := Lib.hid ((P2.out.below hb).more hb.size)
  have B3 := Lib.hid (B2.out.trans (hb.mono B2.out.size))
  clear hh hb B2 sl P1' P2
  have PU := Lib.hid (P1''.out.upto (k := n) Q3.out)
  have AW : ∀ (d : Nat) (os : Array Obj), Calls Try.prog 15 #[] (grow (redrawn w3 d) os) fun e w'' => e = .returned (.bool true) ∧ ∃ p : Regrown, w'' = grow (redrawn w3 p.d) p.os := fun d os => Calls.regrown_of (awake_any _)
  have sl : ∀ (d : Nat) (os : Array Obj), (Instr.sliceAt 22 (.slice A4 n3 c4) none (some (.int .i64 (n : Int))) none).run Try.prog (grow (redrawn w3 d) os) = .ok (.slice A4 n c4) (grow (redrawn w3 d) os) := fun d os => cut_h A4 n3 c4 n _ (by have := P1''.out.2.1; have := Q3.out; omega)
  obtain ⟨s1, hs1⟩ : ∃ s, s = strOfNums l3 := ⟨_, rfl⟩
  obtain ⟨s2, hs2⟩ : ∃ s, s = strOfNums (X.take n) := ⟨_, rfl⟩
  have v1 : ∀ (d : Nat) (os : Array Obj), (convert 22 9 (.slice A5 n3 c5)).run Try.prog (grow (redrawn w3 d) os) = .ok (.string s1) (grow (redrawn w3 d) os) := fun d os => by
    rw [hs1]; exact run_string_bytes (P2'.out.below (below_regrown w3 d os))
  have v2 : ∀ (d : Nat) (os : Array Obj), (convert 22 9 (.slice A3 n3 c3)).run Try.prog (grow (redrawn w3 d) os) = .ok (.string s1) (grow (redrawn w3 d) os) := fun d os => by
    rw [hs1]; exact run_string_bytes (((H3.out.below B3.out).more B3.out.size).below (below_regrown w3 d os))
  have v3 : ∀ (d : Nat) (os : Array Obj), (convert 22 9 (.slice A6 n c6)).run Try.prog (grow (redrawn w3 d) os) = .ok (.string s2) (grow (redrawn w3 d) os) := fun d os => by
    rw [hs2]; exact run_string_bytes (P3.out.below (below_regrown w3 d os))
  have v4 : ∀ (d : Nat) (os : Array Obj), (convert 22 9 (.slice A4 n c4)).run Try.prog (grow (redrawn w3 d) os) = .ok (.string s2) (grow (redrawn w3 d) os) := fun d os => by
    rw [hs2]; exact run_string_bytes (PU.out.below (below_regrown w3 d os))
  have f1 := P1''.out.2.1
  have f2 := Q3.out
  have f3 : n ≤ c4 := by omega
  have f4 : (n : Int) ≤ (c4 : Int) := by omega
  have f5 : decide (c4 < n) = false := decide_eq_false (by omega)
  have f6 : decide ((c4 : Int) < (n : Int)) = false := decide_eq_false (by omega)
  clear hs1 hs2 E1 E2 XE P1'' P2' P3 PU TT H3 HU
  go_wp2_with fail
  refine wp_region_quiet_below (by kernel_rfl) (by kernel_rfl) ?_
  repeat (quiet_step (with_reducible exact AW _ _))
  refine wpQuiet_nil ?_
  intro _ hw'
  obtain ⟨⟨dq, osq⟩, hw''⟩ := hw'
  subst hw''
  have G1 := Lib.hid (below_regrown w3 dq osq)
  clear v1 v2 v3 v4 AW sl
  generalize grow (redrawn w3 dq) osq = w4 at *
  have B4 := Lib.hid (B3.out.trans (G1.out.mono B3.out.size))
  go_wp2_with fail
  go_ret
  exact ⟨rfl, B4.out⟩

theorem twice_any (A0 : Option Addr) (n0 c0 : Nat) (l0 : List Int) (A1 : Option Addr) (n1 c1 : Nat) (l1 : List Int) (A2 : Option Addr) (n2 c2 : Nat) (l2 : List Int) (A3 : Option Addr) (n3 c3 : Nat) (l3 : List Int) (n : Int) (w : World) (h0 : Holds w w.heap.size A0 n0 c0 l0) (h1 : Holds w w.heap.size A1 n1 c1 l1) (h2 : Holds w w.heap.size A2 n2 c2 l2) (h3 : Holds w w.heap.size A3 n3 c3 l3) (m0 : n0 ≤ 140737488355328) (m1 : n1 ≤ 140737488355328) (m2 : n2 ≤ 140737488355328) (m3 : n3 ≤ 140737488355328) :
    Calls Try.prog 4 #[.slice A0 n0 c0, .slice A1 n1 c1, .slice A2 n2 c2, .slice A3 n3 c3, .int .i64 n] w fun e w' => e = .returned (.bool true) ∧ Below w.heap.size w w' := by
  by_cases q : n0 + n1 + n2 ≤ 300
  · by_cases q2 : 400 < n3
    · exact long A0 n0 c0 l0 A1 n1 c1 l1 A2 n2 c2 l2 A3 n3 c3 l3 n w h0 h1 h2 h3 m0 m1 m2 m3 (.inr (.inl ⟨q, q2⟩))
    · by_cases q3 : n < 0
      · exact long A0 n0 c0 l0 A1 n1 c1 l1 A2 n2 c2 l2 A3 n3 c3 l3 n w h0 h1 h2 h3 m0 m1 m2 m3 (.inr (.inr (.inl ⟨q, by omega, q3⟩)))
      · by_cases q4 : (n3 : Int) < n
        · exact long A0 n0 c0 l0 A1 n1 c1 l1 A2 n2 c2 l2 A3 n3 c3 l3 n w h0 h1 h2 h3 m0 m1 m2 m3 (.inr (.inr (.inr ⟨q, by omega, by omega, q4⟩)))
        · obtain ⟨k, rfl⟩ : ∃ k : Nat, n = (k : Int) := ⟨n.toNat, by omega⟩
          by_cases gd : good l0 l1 l2
          · exact fine A0 n0 c0 l0 A1 n1 c1 l1 A2 n2 c2 l2 A3 n3 c3 l3 k w h0 h1 h2 h3 m0 m1 m2 m3 q (by omega) (by omega) gd
          · exact bad A0 n0 c0 l0 A1 n1 c1 l1 A2 n2 c2 l2 A3 n3 c3 l3 k w h0 h1 h2 h3 m0 m1 m2 m3 q (by omega) (by omega) gd
  · exact long A0 n0 c0 l0 A1 n1 c1 l1 A2 n2 c2 l2 A3 n3 c3 l3 n w h0 h1 h2 h3 m0 m1 m2 m3 (.inl q)
end Go.Proofs.Ythjbcdjphokjbaa.LawTwice
