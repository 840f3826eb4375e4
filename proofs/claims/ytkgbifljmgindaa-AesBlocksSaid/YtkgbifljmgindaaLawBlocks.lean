/- The law AesBlocks: its walk, for any key and any block. -/
import Derived.Test.YtkgbifljmgindaaLawApart
import Derived.Test.YtkgbifljmgindaaAesBy
import Derived.Test.YtkgbifljmgindaaAesKy
import Derived.Test.YtkgbifljmgindaaBoth
set_option linter.unusedVariables false
namespace Go.Proofs.Ytkgbifljmgindaa.LawBlocks
open Go.RowKit Go.Proofs.Ytkgbifljmgindaa.Sums Go.Proofs.Ytkgbifljmgindaa.Mem Go.Proofs.Ytkgbifljmgindaa.Blk Go.Proofs.Ytkgbifljmgindaa.Bits3 Go.Proofs.Ytkgbifljmgindaa.Ints Go.Proofs.Ytkgbifljmgindaa.AesF Go.Proofs.Ytkgbifljmgindaa.AesB Go.Proofs.Ytkgbifljmgindaa.AesK Go.Proofs.Ytkgbifljmgindaa.AesR2 Go.Proofs.Ytkgbifljmgindaa.AesR3 Go.Proofs.Ytkgbifljmgindaa.Aes2 Go.Proofs.Ytkgbifljmgindaa.Aes3 Go.Proofs.Ytkgbifljmgindaa.Aes6 Go.Proofs.Ytkgbifljmgindaa.Aes7 Go.Proofs.Ytkgbifljmgindaa.Aes8 Go.Proofs.Ytkgbifljmgindaa.Aes9 Go.Proofs.Ytkgbifljmgindaa.AesA Go.Proofs.Ytkgbifljmgindaa.LawApart

theorem both_one (A : Option Addr) (n c : Nat) (l : List Int) (w : World) (B : Nat) (h : Holds w B A n c l) (hB : B ≤ w.heap.size) (hn : n ≤ 1048576) (g : Nat) (hg : w.heap.size = g) (cs : Array Value) (hc : cs = #[.slice A n c]) (t : TypeId) :
    Calls Try.prog 13 #[.slice (some ⟨g, 0, none⟩) 1 1] (w.alloc (.cells cs t)) fun e w' => ∃ A' c', e = .returned (.slice A' n c') ∧ Holds w' w'.heap.size A' n c' l ∧ Below w.heap.size w w' := by
  subst hc
  refine (Both.both_lit hB [⟨A, n, c, l⟩] _ t rfl (Both.mem1 h) g 1 hg rfl (by decide) (by show n + 0 ≤ 1048576; omega)).mono ?_
  rintro e w' ⟨A', c', he, hh, _, hb⟩
  have e1 : Both.total [(⟨A, n, c, l⟩ : Both.Row)] = n := rfl
  have e2 : Both.flat [(⟨A, n, c, l⟩ : Both.Row)] = l := by show l ++ [] = l; simp
  rw [e1] at he hh
  rw [e2] at hh
  exact ⟨A', c', he, hh, hb⟩
/-- The document's keys of a key that may be. -/
theorem keys_ref (A : Option Addr) (n c : Nat) (ky : List Int) (w : World) (B : Nat) (h : Holds w B A n c ky) (hB : B ≤ w.heap.size) (hn : n = 16 ∨ n = 32) :
    Calls Try.prog 18 #[.slice A n c] w fun e w' => ∃ A' c' L, e = .returned (.slice A' L c') ∧ (L = 176 ∨ L = 240) ∧ Holds w' w'.heap.size A' L c' (ints (keys (nats ky))) ∧ Below w.heap.size w w' := by
  rcases hn with rfl | rfl
  · refine (Go.Proofs.Ytkgbifljmgindaa.AesKy.keys_4 A c ky w B h hB).mono ?_
    rintro e w' ⟨v, he, ho, hb⟩
    obtain ⟨A', c', rfl, hh⟩ := ho.slice
    exact ⟨A', c', 176, he, .inl rfl, hh, hb⟩
  · refine (Go.Proofs.Ytkgbifljmgindaa.AesKy.keys_8 A c ky w B h hB).mono ?_
    rintro e w' ⟨v, he, ho, hb⟩
    obtain ⟨A', c', rfl, hh⟩ := ho.slice
    exact ⟨A', c', 240, he, .inr rfl, hh, hb⟩
theorem blk_ref (A : Option Addr) (n c : Nat) (ks : List Int) (Ai : Option Addr) (ci : Nat) (ins : List Int) (w : World) (B : Nat) (h : Holds w B A n c ks) (hi : Holds w B Ai 16 ci ins) (hB : B ≤ w.heap.size) (hn : n = 176 ∨ n = 240) :
    Calls Try.prog 19 #[.slice A n c, .slice Ai 16 ci] w fun e w' => ∃ A' c', e = .returned (.slice A' 16 c') ∧ Holds w' w'.heap.size A' 16 c' (ints (block (nats ks) (nats ins))) ∧ Below w.heap.size w w' := by
  refine (Go.Proofs.Ytkgbifljmgindaa.AesBy.block_ref A n c ks Ai ci ins w B h hi hB hn).mono ?_
  rintro e w' ⟨v, he, ho, hb⟩
  obtain ⟨A', c', rfl, hh⟩ := ho.slice
  exact ⟨A', c', he, hh, hb⟩

set_option maxHeartbeats 1000000 in
theorem blocks_long (A0 : Option Addr) (n0 c0 : Nat) (l0 : List Int) (A1 : Option Addr) (n1 c1 : Nat) (l1 : List Int) (w : World)
    (h0 : Holds w w.heap.size A0 n0 c0 l0) (h1 : Holds w w.heap.size A1 n1 c1 l1) (hl : 300 < n0 ∨ 300 < n1) :
    Calls Try.prog 4 #[.slice A0 n0 c0, .slice A1 n1 c1] w fun e w' => e = .returned (.bool true) ∧ Below w.heap.size w w' := by
  clear h0 h1
  by_cases q0 : 300 < n0
  · have g0 : decide ((300 : Int) < (n0 : Int)) = true := decide_eq_true (by omega)
    clear hl
    go_enter Try.func4, Try.ntmps4
    go_wp2_with fail
    go_ret
    exact ⟨rfl, Below.refl _ _⟩
  · have g0 : decide ((300 : Int) < (n0 : Int)) = false := decide_eq_false (by omega)
    have g1 : decide ((300 : Int) < (n1 : Int)) = true := decide_eq_true (by omega)
    clear hl
    go_enter Try.func4, Try.ntmps4
    go_wp2_with fail
    go_ret
    exact ⟨rfl, Below.refl _ _⟩

set_option maxHeartbeats 1000000 in
theorem blocks_1 (A0 : Option Addr) (n0 c0 : Nat) (l0 : List Int) (A1 : Option Addr) (n1 c1 : Nat) (l1 : List Int) (w : World)
    (h0 : Holds w w.heap.size A0 n0 c0 l0) (h1 : Holds w w.heap.size A1 n1 c1 l1) (hl0 : n0 ≤ 300) (hl1 : n1 ≤ 300) (hk : ¬ (n0 = 16 ∨ n0 = 32)) :
    Calls Try.prog 4 #[.slice A0 n0 c0, .slice A1 n1 c1] w fun e w' => e = .returned (.bool true) ∧ Below w.heap.size w w' := by
  have NG := Lib.hid hk
  have NE : Hid (mayE n0 n1 = false) := Lib.hid (by
    have a : n0 ≠ 16 := fun e => hk (.inl e)
    have b : n0 ≠ 32 := fun e => hk (.inr e)
    simp [mayE, a, b])
  have MV : Hid (mayB n0 = false) := Lib.hid (by
    have a : n0 ≠ 16 := fun e => hk (.inl e)
    have b : n0 ≠ 32 := fun e => hk (.inr e)
    simp [mayB, a, b])
  have NB : Hid (goodB 0 n1 = false) := Lib.hid (by simp [goodB])
  have A := Lib.hid awake_any
  have H0 := Lib.hid h0
  have H1 := Lib.hid h1
  have g0 : decide ((300 : Int) < (n0 : Int)) = false := decide_eq_false (by omega)
  have g1 : decide ((300 : Int) < (n1 : Int)) = false := decide_eq_false (by omega)
  have M0 := Lib.hid hl0
  have M1 := Lib.hid hl1
  obtain ⟨s0, hs0⟩ : ∃ s, s = strOfNums l0 := ⟨_, rfl⟩
  obtain ⟨s1, hs1⟩ : ∃ s, s = strOfNums l1 := ⟨_, rfl⟩
  have T0 := Lib.hid hs0
  have T1 := Lib.hid hs1
  clear h0 h1 hl0 hl1 hs0 hs1
  clear hk
  go_enter Try.func4, Try.ntmps4
  go_wp2_with fail
  refine (both_one A0 n0 c0 l0 w w.heap.size H0.out (Nat.le_refl _) (by have := M0.out; omega) _ rfl _ rfl _).mono ?_
  rintro e w1 ⟨A2, c2, rfl, hh, hb⟩
  have H2 := Lib.hid hh
  have B1 := Lib.hid hb
  clear hh hb
  have sz : w1.heap.size = w1.heap.size := rfl
  go_wp2_with fail
  refine (both_one A1 n1 c1 l1 w1 w.heap.size (H1.out.below B1.out) B1.out.size (by have := M1.out; omega) _ rfl _ rfl _).mono ?_
  rintro e w2 ⟨A3, c3, rfl, hh, hb⟩
  have H3 := Lib.hid hh
  have H2' := Lib.hid ((H2.out.below hb).more hb.size)
  have B2 := Lib.hid (B1.out.trans (hb.mono B1.out.size))
  clear hh hb H2 B1 sz
  go_wp2_with fail
  refine (keys_bad A2 n0 c2 w2 (by have := M0.out; omega) (fun e => NG.out (.inl e)) (fun e => NG.out (.inr e))).mono ?_
  rintro e w' ⟨rfl, rfl⟩
  go_wp2_with fail
  refine (enc_bad A2 n0 c2 l0 A3 n1 c3 w2 w2.heap.size H2'.out (Nat.le_refl _) (by have := M0.out; omega) (by have := M1.out; omega) NE.out).mono ?_
  rintro e w3 ⟨rfl, hb⟩
  have HK := Lib.hid (H2'.out.below hb)
  have HI := Lib.hid (H3.out.below hb)
  have B3 := Lib.hid (B2.out.trans (hb.mono B2.out.size))
  clear hb B2 H2' H3
  go_wp2_with fail
  refine (block_bad none A3 0 0 n1 c3 w3 (by decide) (by have := M1.out; omega) NB.out).mono ?_
  rintro e w' ⟨rfl, rfl⟩
  have v0 : (convert 28 9 (.slice A2 n0 c2)).run Try.prog w3 = .ok (.string s0) w3 := by
    have := run_string_bytes HK.out
    rw [← T0.out] at this
    exact this
  have v1 : (convert 28 9 (.slice A0 n0 c0)).run Try.prog w3 = .ok (.string s0) w3 := by
    have := run_string_bytes (H0.out.below B3.out)
    rw [← T0.out] at this
    exact this
  have v2 : (convert 28 9 (.slice A3 n1 c3)).run Try.prog w3 = .ok (.string s1) w3 := by
    have := run_string_bytes HI.out
    rw [← T1.out] at this
    exact this
  have v3 : (convert 28 9 (.slice A1 n1 c1)).run Try.prog w3 = .ok (.string s1) w3 := by
    have := run_string_bytes (H1.out.below B3.out)
    rw [← T1.out] at this
    exact this
  go_wp2_with fail
  clear v0 v1 v2 v3
  refine (may_ref A0 n0 c0 _ (by have := M0.out; omega)).mono ?_
  rintro e w' ⟨rfl, rfl⟩
  rw [MV.out]
  go_wp2_with fail
  refine (A.out _).mono ?_
  rintro e w5 ⟨rfl, hb5⟩
  have B5 := Lib.hid (B3.out.trans (hb5.mono B3.out.size))
  clear hb5
  go_wp2_with fail
  go_ret
  exact ⟨rfl, B5.out⟩

set_option maxHeartbeats 1000000 in
theorem blocks_2 (A0 : Option Addr) (n0 c0 : Nat) (l0 : List Int) (A1 : Option Addr) (n1 c1 : Nat) (l1 : List Int) (w : World)
    (h0 : Holds w w.heap.size A0 n0 c0 l0) (h1 : Holds w w.heap.size A1 n1 c1 l1) (hl0 : n0 ≤ 300) (hl1 : n1 ≤ 300) (hk : n0 = 16 ∨ n0 = 32) (hm : n1 ≠ 16) :
    Calls Try.prog 4 #[.slice A0 n0 c0, .slice A1 n1 c1] w fun e w' => e = .returned (.bool true) ∧ Below w.heap.size w w' := by
  have KG := Lib.hid hk
  have MV : Hid (mayB n0 = true) := Lib.hid (by rcases hk with rfl | rfl <;> rfl)
  have YX := Lib.hid (keys_byt (nats_byt h0.2.2.2.1))
  obtain ⟨kk, hkk⟩ : ∃ k, k = keys (nats l0) := ⟨_, rfl⟩
  have KE := Lib.hid hkk.symm
  rw [← hkk] at YX
  obtain ⟨sk, hsk⟩ : ∃ s, s = strOfNums (ints kk) := ⟨_, rfl⟩
  have TK := Lib.hid hsk
  have NE : Hid (mayE n0 n1 = false) := Lib.hid (by simp [mayE, hm])
  have NB : Hid (∀ L, goodB L n1 = false) := Lib.hid (fun L => by simp [goodB, hm])
  have gm : ((n1 : Int) != 16) = true := by simp; omega
  have A := Lib.hid awake_any
  have H0 := Lib.hid h0
  have H1 := Lib.hid h1
  have g0 : decide ((300 : Int) < (n0 : Int)) = false := decide_eq_false (by omega)
  have g1 : decide ((300 : Int) < (n1 : Int)) = false := decide_eq_false (by omega)
  have M0 := Lib.hid hl0
  have M1 := Lib.hid hl1
  obtain ⟨s0, hs0⟩ : ∃ s, s = strOfNums l0 := ⟨_, rfl⟩
  obtain ⟨s1, hs1⟩ : ∃ s, s = strOfNums l1 := ⟨_, rfl⟩
  have T0 := Lib.hid hs0
  have T1 := Lib.hid hs1
  clear h0 h1 hl0 hl1 hs0 hs1
  clear hk hkk hsk hm
  go_enter Try.func4, Try.ntmps4
  go_wp2_with fail
  refine (both_one A0 n0 c0 l0 w w.heap.size H0.out (Nat.le_refl _) (by have := M0.out; omega) _ rfl _ rfl _).mono ?_
  rintro e w1 ⟨A2, c2, rfl, hh, hb⟩
  have H2 := Lib.hid hh
  have B1 := Lib.hid hb
  clear hh hb
  have sz : w1.heap.size = w1.heap.size := rfl
  go_wp2_with fail
  refine (both_one A1 n1 c1 l1 w1 w.heap.size (H1.out.below B1.out) B1.out.size (by have := M1.out; omega) _ rfl _ rfl _).mono ?_
  rintro e w2 ⟨A3, c3, rfl, hh, hb⟩
  have H3 := Lib.hid hh
  have H2' := Lib.hid ((H2.out.below hb).more hb.size)
  have B2 := Lib.hid (B1.out.trans (hb.mono B1.out.size))
  clear hh hb H2 B1 sz
  go_wp2_with fail
  refine (keys_ok A2 n0 c2 l0 w2 w2.heap.size H2'.out (Nat.le_refl _) KG.out).mono ?_
  rintro e w3 ⟨gk, L, rfl, hL, hL2, hg, hr, hb⟩
  rw [KE.out] at hr hL
  have LX := Lib.hid hL
  have LX2 := Lib.hid hL2
  have RK := Lib.hid hr
  have B3 := Lib.hid (B2.out.trans (hb.mono B2.out.size))
  have H2k := Lib.hid ((H2'.out.below hb).more hb.size)
  have H3k := Lib.hid ((H3.out.below hb).more hb.size)
  clear hL hL2 hg hr hb B2 H2' H3
  go_wp2_with fail
  refine (enc_bad A2 n0 c2 l0 A3 n1 c3 w3 w3.heap.size H2k.out (Nat.le_refl _) (by have := M0.out; omega) (by have := M1.out; omega) NE.out).mono ?_
  rintro e w4 ⟨rfl, hb⟩
  have HK := Lib.hid (H2k.out.below hb)
  have HI := Lib.hid (H3k.out.below hb)
  have RK4 := Lib.hid (RK.out.up hb)
  have B4 := Lib.hid (B3.out.trans (hb.mono B3.out.size))
  clear hb B3 H2k H3k RK
  go_wp2_with fail
  refine (block_bad (some ⟨gk, 0, none⟩) A3 L L n1 c3 w4 (by have := LX2.out; omega) (by have := M1.out; omega) (NB.out L)).mono ?_
  rintro e w' ⟨rfl, rfl⟩
  have v0 : (convert 28 9 (.slice A2 n0 c2)).run Try.prog w4 = .ok (.string s0) w4 := by
    have := run_string_bytes HK.out
    rw [← T0.out] at this
    exact this
  have v1 : (convert 28 9 (.slice A0 n0 c0)).run Try.prog w4 = .ok (.string s0) w4 := by
    have := run_string_bytes (H0.out.below B4.out)
    rw [← T0.out] at this
    exact this
  have v2 : (convert 28 9 (.slice A3 n1 c3)).run Try.prog w4 = .ok (.string s1) w4 := by
    have := run_string_bytes HI.out
    rw [← T1.out] at this
    exact this
  have v3 : (convert 28 9 (.slice A1 n1 c1)).run Try.prog w4 = .ok (.string s1) w4 := by
    have := run_string_bytes (H1.out.below B4.out)
    rw [← T1.out] at this
    exact this
  go_wp2_with fail
  clear v0 v1 v2 v3
  refine (may_ref A0 n0 c0 _ (by have := M0.out; omega)).mono ?_
  rintro e w' ⟨rfl, rfl⟩
  rw [MV.out]
  go_wp2_with fail
  refine (keys_ref A0 n0 c0 l0 w4 w.heap.size (H0.out.below B4.out) B4.out.size KG.out).mono ?_
  rintro e w6 ⟨A6, c6, L6, rfl, hl6, hh, hb⟩
  rw [KE.out] at hh
  have H6 := Lib.hid hh
  have L62 := Lib.hid hl6
  have RK6 := Lib.hid (RK4.out.up hb)
  have B6 := Lib.hid (B4.out.trans (hb.mono B4.out.size))
  have v4 : (convert 28 9 (.slice (some ⟨gk, 0, none⟩) L L)).run Try.prog w6 = .ok (.string sk) w6 := by
    have := run_string_bytes (BRow.holds RK6.out YX.out (by have := LX.out; have := LX2.out; omega))
    rw [LX.out, ← TK.out] at this
    exact this
  have v5 : (convert 28 9 (.slice A6 L6 c6)).run Try.prog w6 = .ok (.string sk) w6 := by
    have := run_string_bytes H6.out
    rw [← TK.out] at this
    exact this
  clear hl6 hh hb B4 RK4
  go_wp2_with fail
  clear v4 v5
  refine (A.out _).mono ?_
  rintro e w5 ⟨rfl, hb5⟩
  have B5 := Lib.hid (B6.out.trans (hb5.mono B6.out.size))
  clear hb5
  go_wp2_with fail
  go_ret
  exact ⟨rfl, B5.out⟩

set_option maxHeartbeats 2000000 in
theorem blocks_3 (A0 : Option Addr) (n0 c0 : Nat) (l0 : List Int) (A1 : Option Addr) (n1 c1 : Nat) (l1 : List Int) (w : World)
    (h0 : Holds w w.heap.size A0 n0 c0 l0) (h1 : Holds w w.heap.size A1 n1 c1 l1) (hl0 : n0 ≤ 300) (hl1 : n1 ≤ 300) (hk : n0 = 16 ∨ n0 = 32) (hm : n1 = 16) :
    Calls Try.prog 4 #[.slice A0 n0 c0, .slice A1 n1 c1] w fun e w' => e = .returned (.bool true) ∧ Below w.heap.size w w' := by
  subst hm
  have KG := Lib.hid hk
  have MV : Hid (mayB n0 = true) := Lib.hid (by rcases hk with rfl | rfl <;> rfl)
  have YX := Lib.hid (keys_byt (nats_byt h0.2.2.2.1))
  obtain ⟨kk, hkk⟩ : ∃ k, k = keys (nats l0) := ⟨_, rfl⟩
  have KE := Lib.hid hkk.symm
  rw [← hkk] at YX
  obtain ⟨sk, hsk⟩ : ∃ s, s = strOfNums (ints kk) := ⟨_, rfl⟩
  have TK := Lib.hid hsk
  have BY := Lib.hid (block_byt YX.out (nats_byt h1.2.2.2.1))
  have BL := Lib.hid (block_len kk (nats l1))
  obtain ⟨bb, hbb⟩ : ∃ b, b = block kk (nats l1) := ⟨_, rfl⟩
  have BE := Lib.hid hbb.symm
  rw [← hbb] at BY BL
  obtain ⟨sb, hsb⟩ : ∃ s, s = strOfNums (ints bb) := ⟨_, rfl⟩
  have TB := Lib.hid hsb
  have A := Lib.hid awake_any
  have H0 := Lib.hid h0
  have H1 := Lib.hid h1
  have g0 : decide ((300 : Int) < (n0 : Int)) = false := decide_eq_false (by omega)
  have g1 : decide ((300 : Int) < (16 : Int)) = false := decide_eq_false (by omega)
  have M0 := Lib.hid hl0
  have M1 := Lib.hid hl1
  obtain ⟨s0, hs0⟩ : ∃ s, s = strOfNums l0 := ⟨_, rfl⟩
  obtain ⟨s1, hs1⟩ : ∃ s, s = strOfNums l1 := ⟨_, rfl⟩
  have T0 := Lib.hid hs0
  have T1 := Lib.hid hs1
  clear h0 h1 hl0 hl1 hs0 hs1
  clear hk hkk hsk hbb hsb
  go_enter Try.func4, Try.ntmps4
  go_wp2_with fail
  refine (both_one A0 n0 c0 l0 w w.heap.size H0.out (Nat.le_refl _) (by have := M0.out; omega) _ rfl _ rfl _).mono ?_
  rintro e w1 ⟨A2, c2, rfl, hh, hb⟩
  have H2 := Lib.hid hh
  have B1 := Lib.hid hb
  clear hh hb
  have sz : w1.heap.size = w1.heap.size := rfl
  go_wp2_with fail
  refine (both_one A1 16 c1 l1 w1 w.heap.size (H1.out.below B1.out) B1.out.size (by have := M1.out; omega) _ rfl _ rfl _).mono ?_
  rintro e w2 ⟨A3, c3, rfl, hh, hb⟩
  have H3 := Lib.hid hh
  have H2' := Lib.hid ((H2.out.below hb).more hb.size)
  have B2 := Lib.hid (B1.out.trans (hb.mono B1.out.size))
  clear hh hb H2 B1 sz
  go_wp2_with fail
  refine (keys_ok A2 n0 c2 l0 w2 w2.heap.size H2'.out (Nat.le_refl _) KG.out).mono ?_
  rintro e w3 ⟨gk, L, rfl, hL, hL2, hg, hr, hb⟩
  rw [KE.out] at hr hL
  have LX := Lib.hid hL
  have LX2 := Lib.hid hL2
  have RK := Lib.hid hr
  have B3 := Lib.hid (B2.out.trans (hb.mono B2.out.size))
  have H2k := Lib.hid ((H2'.out.below hb).more hb.size)
  have H3k := Lib.hid ((H3.out.below hb).more hb.size)
  clear hL hL2 hg hr hb B2 H2' H3
  go_wp2_with fail
  refine (enc_ok A2 n0 c2 l0 A3 c3 l1 w3 w3.heap.size H2k.out H3k.out (Nat.le_refl _) KG.out).mono ?_
  rintro e w4 ⟨gb, rfl, hg, hr, hb⟩
  rw [KE.out, BE.out] at hr
  have RB := Lib.hid hr
  have HK0 := Lib.hid ((H2k.out.below hb).more hb.size)
  have HI0 := Lib.hid ((H3k.out.below hb).more hb.size)
  have RK4 := Lib.hid (RK.out.up hb)
  have B4 := Lib.hid (B3.out.trans (hb.mono B3.out.size))
  have HKK : Hid (Holds w4 w4.heap.size (some ⟨gk, 0, none⟩) L L (ints kk)) := Lib.hid (by
    have := BRow.holds RK4.out YX.out (by have := LX.out; have := LX2.out; omega)
    rwa [LX.out] at this)
  clear hg hr hb B3 H2k H3k RK
  go_wp2_with fail
  refine (block_no (some ⟨gk, 0, none⟩) L L (ints kk) A3 c3 l1 w4 w4.heap.size HKK.out HI0.out (Nat.le_refl _) LX2.out).mono ?_
  rintro e w7 ⟨gc, rfl, hg, hr, hb⟩
  rw [nats_ints, BE.out] at hr
  have RC := Lib.hid hr
  have RB7 := Lib.hid (RB.out.up hb)
  have HK := Lib.hid (HK0.out.below hb)
  have HI := Lib.hid (HI0.out.below hb)
  have RK7 := Lib.hid (RK4.out.up hb)
  have B7 := Lib.hid (B4.out.trans (hb.mono B4.out.size))
  clear hg hr hb B4 HK0 HI0 HKK RB RK4
  have v0 : (convert 28 9 (.slice A2 n0 c2)).run Try.prog w7 = .ok (.string s0) w7 := by
    have := run_string_bytes HK.out
    rw [← T0.out] at this
    exact this
  have v1 : (convert 28 9 (.slice A0 n0 c0)).run Try.prog w7 = .ok (.string s0) w7 := by
    have := run_string_bytes (H0.out.below B7.out)
    rw [← T0.out] at this
    exact this
  have v2 : (convert 28 9 (.slice A3 16 c3)).run Try.prog w7 = .ok (.string s1) w7 := by
    have := run_string_bytes HI.out
    rw [← T1.out] at this
    exact this
  have v3 : (convert 28 9 (.slice A1 16 c1)).run Try.prog w7 = .ok (.string s1) w7 := by
    have := run_string_bytes (H1.out.below B7.out)
    rw [← T1.out] at this
    exact this
  go_wp2_with fail
  clear v0 v1 v2 v3
  refine (may_ref A0 n0 c0 _ (by have := M0.out; omega)).mono ?_
  rintro e w' ⟨rfl, rfl⟩
  rw [MV.out]
  go_wp2_with fail
  refine (keys_ref A0 n0 c0 l0 w7 w.heap.size (H0.out.below B7.out) B7.out.size KG.out).mono ?_
  rintro e w6 ⟨A6, c6, L6, rfl, hl6, hh, hb⟩
  rw [KE.out] at hh
  have H6 := Lib.hid hh
  have L62 := Lib.hid hl6
  have RK6 := Lib.hid (RK7.out.up hb)
  have B6 := Lib.hid (B7.out.trans (hb.mono B7.out.size))
  have RC6 := Lib.hid (RC.out.up hb)
  have RB6 := Lib.hid (RB7.out.up hb)
  clear RC RB7
  have v4 : (convert 28 9 (.slice (some ⟨gk, 0, none⟩) L L)).run Try.prog w6 = .ok (.string sk) w6 := by
    have := run_string_bytes (BRow.holds RK6.out YX.out (by have := LX.out; have := LX2.out; omega))
    rw [LX.out, ← TK.out] at this
    exact this
  have v5 : (convert 28 9 (.slice A6 L6 c6)).run Try.prog w6 = .ok (.string sk) w6 := by
    have := run_string_bytes H6.out
    rw [← TK.out] at this
    exact this
  clear hl6 hh hb B7 RK7
  go_wp2_with fail
  clear v4 v5
  refine (blk_ref A6 L6 c6 (ints kk) A1 c1 l1 w6 w6.heap.size H6.out ((H1.out.below B6.out).more B6.out.size) (Nat.le_refl _) L62.out).mono ?_
  rintro e w8 ⟨A8, c8, rfl, hh, hb⟩
  rw [nats_ints, BE.out] at hh
  have H8 := Lib.hid hh
  have RC8 := Lib.hid (RC6.out.up hb)
  have RB8 := Lib.hid (RB6.out.up hb)
  have B8 := Lib.hid (B6.out.trans (hb.mono B6.out.size))
  clear hh hb RC6 RB6 B6
  go_wp2_with fail
  refine (A.out _).mono ?_
  rintro e w9 ⟨rfl, hb9⟩
  have B9 := Lib.hid (B8.out.trans (hb9.mono B8.out.size))
  have v6 : (convert 28 9 (.slice (some ⟨gb, 0, none⟩) 16 16)).run Try.prog w9 = .ok (.string sb) w9 := by
    have := run_string_bytes (ARow.holds (RB8.out.up hb9) BY.out (by rw [BL.out]; decide))
    rw [BL.out, ← TB.out] at this
    exact this
  have v7 : (convert 28 9 (.slice (some ⟨gc, 0, none⟩) 16 16)).run Try.prog w9 = .ok (.string sb) w9 := by
    have := run_string_bytes (ARow.holds (RC8.out.up hb9) BY.out (by rw [BL.out]; decide))
    rw [BL.out, ← TB.out] at this
    exact this
  have v8 : (convert 28 9 (.slice A8 16 c8)).run Try.prog w9 = .ok (.string sb) w9 := by
    have := run_string_bytes (H8.out.below hb9)
    rw [← TB.out] at this
    exact this
  clear hb9 RB8 RC8 H8
  go_wp2_with fail
  go_ret
  exact ⟨rfl, B9.out⟩

theorem blocks_any (A0 : Option Addr) (n0 c0 : Nat) (l0 : List Int) (A1 : Option Addr) (n1 c1 : Nat) (l1 : List Int) (w : World)
    (h0 : Holds w w.heap.size A0 n0 c0 l0) (h1 : Holds w w.heap.size A1 n1 c1 l1) :
    Calls Try.prog 4 #[.slice A0 n0 c0, .slice A1 n1 c1] w fun e w' => e = .returned (.bool true) ∧ Below w.heap.size w w' := by
  by_cases hl : 300 < n0 ∨ 300 < n1
  · exact blocks_long A0 n0 c0 l0 A1 n1 c1 l1 w h0 h1 hl
  · have m0 : n0 ≤ 300 := by omega
    have m1 : n1 ≤ 300 := by omega
    by_cases k0 : n0 = 16 ∨ n0 = 32
    · by_cases k1 : n1 = 16
      · exact blocks_3 A0 n0 c0 l0 A1 n1 c1 l1 w h0 h1 m0 m1 k0 k1
      · exact blocks_2 A0 n0 c0 l0 A1 n1 c1 l1 w h0 h1 m0 m1 k0 k1
    · exact blocks_1 A0 n0 c0 l0 A1 n1 c1 l1 w h0 h1 m0 m1 k0
end Go.Proofs.Ytkgbifljmgindaa.LawBlocks
