/- The law AesKeys: its walk, for any two keys. -/
import Derived.Test.YtkgbifljmgindaaLawApart
import Derived.Lib.QuietBelow
import Derived.BigQuiet
import Derived.Deep.QuietTactic
set_option linter.unusedVariables false
namespace Go.Proofs.Ytkgbifljmgindaa.LawKeys
open Go.RowKit Go.Proofs.Ytkgbifljmgindaa.Sums Go.Proofs.Ytkgbifljmgindaa.Mem Go.Proofs.Ytkgbifljmgindaa.Blk Go.Proofs.Ytkgbifljmgindaa.Bits3 Go.Proofs.Ytkgbifljmgindaa.Ints Go.Proofs.Ytkgbifljmgindaa.CutA Go.Proofs.Ytkgbifljmgindaa.AesF Go.Proofs.Ytkgbifljmgindaa.AesB Go.Proofs.Ytkgbifljmgindaa.AesK Go.Proofs.Ytkgbifljmgindaa.AesR3 Go.Proofs.Ytkgbifljmgindaa.Aes1 Go.Proofs.Ytkgbifljmgindaa.Aes2 Go.Proofs.Ytkgbifljmgindaa.Aes3 Go.Proofs.Ytkgbifljmgindaa.Aes6 Go.Proofs.Ytkgbifljmgindaa.Aes7 Go.Proofs.Ytkgbifljmgindaa.Aes8 Go.Proofs.Ytkgbifljmgindaa.Aes9 Go.Proofs.Ytkgbifljmgindaa.AesA Go.Proofs.Ytkgbifljmgindaa.LawApart

theorem cut_h (b p n c h : Nat) (w : World) (h2 : h ≤ c) :
    (Instr.sliceAt 28 (.slice (some ⟨b, p, none⟩) n c) none (some (.int .i64 (h : Int))) none).run Try.prog w = .ok (.slice (some ⟨b, p, none⟩) h c) w := by
  have e := run_slice_h (P := Try.prog) (w := w) (t := 28) (a := some ⟨b, p, none⟩) (len := n) (cap := c) (ht := (by kernel_rfl)) .i64 (h : Int) (by omega) (by omega)
  rw [run_sliceAt_slice (P := Try.prog) (h := (by kernel_rfl)), e, byte_elem]
  simp only [Result.andThen_ok, sliced, Int.toNat_natCast, Nat.sub_zero, Nat.zero_mul, Option.map_some, add_plain, Nat.add_zero]
  split <;> rfl

set_option maxHeartbeats 1000000 in
theorem keys_long (A0 : Option Addr) (n0 c0 : Nat) (l0 : List Int) (A1 : Option Addr) (n1 c1 : Nat) (l1 : List Int) (w : World)
    (h0 : Holds w w.heap.size A0 n0 c0 l0) (h1 : Holds w w.heap.size A1 n1 c1 l1) (hl : 300 < n0 ∨ 300 < n1) :
    Calls Try.prog 7 #[.slice A0 n0 c0, .slice A1 n1 c1] w fun e w' => e = .returned (.bool true) ∧ Below w.heap.size w w' := by
  clear h0 h1
  by_cases q0 : 300 < n0
  · have g0 : decide ((300 : Int) < (n0 : Int)) = true := decide_eq_true (by omega)
    clear hl
    go_enter Try.func7, Try.ntmps7
    go_wp2_with fail
    go_ret
    exact ⟨rfl, Below.refl _ _⟩
  · have g0 : decide ((300 : Int) < (n0 : Int)) = false := decide_eq_false (by omega)
    have g1 : decide ((300 : Int) < (n1 : Int)) = true := decide_eq_true (by omega)
    clear hl
    go_enter Try.func7, Try.ntmps7
    go_wp2_with fail
    go_ret
    exact ⟨rfl, Below.refl _ _⟩

set_option maxHeartbeats 1000000 in
theorem keys_1 (A0 : Option Addr) (n0 c0 : Nat) (l0 : List Int) (A1 : Option Addr) (n1 c1 : Nat) (l1 : List Int) (w : World)
    (h0 : Holds w w.heap.size A0 n0 c0 l0) (h1 : Holds w w.heap.size A1 n1 c1 l1) (hl0 : n0 ≤ 300) (hl1 : n1 ≤ 300) (hk0 : ¬ (n0 = 16 ∨ n0 = 32)) (hk1 : ¬ (n1 = 16 ∨ n1 = 32)) :
    Calls Try.prog 7 #[.slice A0 n0 c0, .slice A1 n1 c1] w fun e w' => e = .returned (.bool true) ∧ Below w.heap.size w w' := by
  have NG0 := Lib.hid hk0
  have NG1 := Lib.hid hk1
  have A := Lib.hid awake_any
  have H0 := Lib.hid h0
  have H1 := Lib.hid h1
  have g0 : decide ((300 : Int) < (n0 : Int)) = false := decide_eq_false (by omega)
  have g1 : decide ((300 : Int) < (n1 : Int)) = false := decide_eq_false (by omega)
  have M0 := Lib.hid hl0
  have M1 := Lib.hid hl1
  clear h0 h1 hl0 hl1
  clear hk0 hk1
  go_enter Try.func7, Try.ntmps7
  go_wp2_with fail
  refine (keys_bad A0 n0 c0 w (by have := M0.out; omega) (fun e => NG0.out (.inl e)) (fun e => NG0.out (.inr e))).mono ?_
  rintro e w' ⟨rfl, rfl⟩
  go_wp2_with fail
  refine (keys_bad A1 n1 c1 w (by have := M1.out; omega) (fun e => NG1.out (.inl e)) (fun e => NG1.out (.inr e))).mono ?_
  rintro e w' ⟨rfl, rfl⟩
  go_wp2_with fail
  refine (A.out _).mono ?_
  rintro e w5 ⟨rfl, hb5⟩
  have B5 : Hid (Below w.heap.size w w5) := Lib.hid hb5
  clear hb5
  go_wp2_with fail
  go_ret
  exact ⟨rfl, B5.out⟩

set_option maxHeartbeats 1000000 in
theorem keys_2 (A0 : Option Addr) (n0 c0 : Nat) (l0 : List Int) (A1 : Option Addr) (n1 c1 : Nat) (l1 : List Int) (w : World)
    (h0 : Holds w w.heap.size A0 n0 c0 l0) (h1 : Holds w w.heap.size A1 n1 c1 l1) (hl0 : n0 ≤ 300) (hl1 : n1 ≤ 300) (hk0 : ¬ (n0 = 16 ∨ n0 = 32)) (hk1 : n1 = 16 ∨ n1 = 32) :
    Calls Try.prog 7 #[.slice A0 n0 c0, .slice A1 n1 c1] w fun e w' => e = .returned (.bool true) ∧ Below w.heap.size w w' := by
  have NG0 := Lib.hid hk0
  have KG1 := Lib.hid hk1
  have A := Lib.hid awake_any
  have H0 := Lib.hid h0
  have H1 := Lib.hid h1
  have g0 : decide ((300 : Int) < (n0 : Int)) = false := decide_eq_false (by omega)
  have g1 : decide ((300 : Int) < (n1 : Int)) = false := decide_eq_false (by omega)
  have M0 := Lib.hid hl0
  have M1 := Lib.hid hl1
  clear h0 h1 hl0 hl1
  clear hk0 hk1
  go_enter Try.func7, Try.ntmps7
  go_wp2_with fail
  refine (keys_bad A0 n0 c0 w (by have := M0.out; omega) (fun e => NG0.out (.inl e)) (fun e => NG0.out (.inr e))).mono ?_
  rintro e w' ⟨rfl, rfl⟩
  go_wp2_with fail
  refine (keys_ok A1 n1 c1 l1 w w.heap.size H1.out (Nat.le_refl _) KG1.out).mono ?_
  rintro e w1 ⟨gy, L1, rfl, hL, hL2, hg, hr, hb⟩
  have B1 := Lib.hid hb
  clear hL hL2 hg hr hb
  go_wp2_with fail
  refine (A.out _).mono ?_
  rintro e w5 ⟨rfl, hb5⟩
  have B5 : Hid (Below w.heap.size w w5) := Lib.hid (B1.out.trans (hb5.mono B1.out.size))
  clear hb5
  go_wp2_with fail
  go_ret
  exact ⟨rfl, B5.out⟩

set_option maxHeartbeats 1000000 in
theorem keys_3 (A0 : Option Addr) (n0 c0 : Nat) (l0 : List Int) (A1 : Option Addr) (n1 c1 : Nat) (l1 : List Int) (w : World)
    (h0 : Holds w w.heap.size A0 n0 c0 l0) (h1 : Holds w w.heap.size A1 n1 c1 l1) (hl0 : n0 ≤ 300) (hl1 : n1 ≤ 300) (hk0 : n0 = 16 ∨ n0 = 32) (hk1 : ¬ (n1 = 16 ∨ n1 = 32)) :
    Calls Try.prog 7 #[.slice A0 n0 c0, .slice A1 n1 c1] w fun e w' => e = .returned (.bool true) ∧ Below w.heap.size w w' := by
  have KG0 := Lib.hid hk0
  have NG1 := Lib.hid hk1
  have A := Lib.hid awake_any
  have H0 := Lib.hid h0
  have H1 := Lib.hid h1
  have g0 : decide ((300 : Int) < (n0 : Int)) = false := decide_eq_false (by omega)
  have g1 : decide ((300 : Int) < (n1 : Int)) = false := decide_eq_false (by omega)
  have M0 := Lib.hid hl0
  have M1 := Lib.hid hl1
  clear h0 h1 hl0 hl1
  clear hk0 hk1
  go_enter Try.func7, Try.ntmps7
  go_wp2_with fail
  refine (keys_ok A0 n0 c0 l0 w w.heap.size H0.out (Nat.le_refl _) KG0.out).mono ?_
  rintro e w1 ⟨gx, L0, rfl, hL, hL2, hg, hr, hb⟩
  have B1 := Lib.hid hb
  have RX := Lib.hid hr
  have LX := Lib.hid hL
  have LX2 := Lib.hid hL2
  have GXG := Lib.hid hg
  clear hL hL2 hg hr hb
  go_wp2_with fail
  refine (keys_bad A1 n1 c1 w1 (by have := M1.out; omega) (fun e => NG1.out (.inl e)) (fun e => NG1.out (.inr e))).mono ?_
  rintro e w' ⟨rfl, rfl⟩
  go_wp2_with fail
  refine (A.out _).mono ?_
  rintro e w5 ⟨rfl, hb5⟩
  have B5 : Hid (Below w.heap.size w w5) := Lib.hid (B1.out.trans (hb5.mono B1.out.size))
  clear hb5
  go_wp2_with fail
  go_ret
  exact ⟨rfl, B5.out⟩

set_option maxHeartbeats 2000000 in
set_option maxRecDepth 100000 in
theorem keys_4 (A0 : Option Addr) (n0 c0 : Nat) (l0 : List Int) (A1 : Option Addr) (n1 c1 : Nat) (l1 : List Int) (w : World)
    (h0 : Holds w w.heap.size A0 n0 c0 l0) (h1 : Holds w w.heap.size A1 n1 c1 l1) (hl0 : n0 ≤ 300) (hl1 : n1 ≤ 300) (hk0 : n0 = 16 ∨ n0 = 32) (hk1 : n1 = 16 ∨ n1 = 32) :
    Calls Try.prog 7 #[.slice A0 n0 c0, .slice A1 n1 c1] w fun e w' => e = .returned (.bool true) ∧ Below w.heap.size w w' := by
  have KG0 := Lib.hid hk0
  have KG1 := Lib.hid hk1
  have ln0 := (nats_len l0).trans h0.1
  have ln1 := (nats_len l1).trans h1.1
  have B0 := nats_byt h0.2.2.2.1
  have B1' := nats_byt h1.2.2.2.1
  have YX := Lib.hid (keys_byt B0)
  have YY := Lib.hid (keys_byt B1')
  have E1 := str_eq (a := ints (keys (nats l0))) (b := ints (keys (nats l1))) (fun z hz => ints_in YX.out z hz) (fun z hz => ints_in YY.out z hz)
  have E2 := str_eq (a := l0) (b := l1) h0.2.2.2.1 h1.2.2.2.1
  have EQ : (ints (keys (nats l0)) = ints (keys (nats l1))) ↔ l0 = l1 := by
    rw [ints_inj]
    constructor
    · intro h
      have := keys_inj (by omega) (by omega) h
      rw [← ints_nats (l := l0) (fun z hz => h0.2.2.2.1 z hz), this, ints_nats (l := l1) (fun z hz => h1.2.2.2.1 z hz)]
    · intro h
      rw [h]
  rw [decide_eq_decide.2 EQ] at E1
  generalize decide (l0 = l1) = qq at *
  have TK : Hid ((ints (keys (nats l0))).take n0 = l0) := Lib.hid (by
    have h := keys_take (nats l0)
    have e : (ints (keys (nats l0))).take n0 = ints ((keys (nats l0)).take n0) := by unfold ints; rw [List.map_take]
    rw [ln0] at h
    rw [e, h, ints_nats (l := l0) (fun z hz => h0.2.2.2.1 z hz)])
  obtain ⟨k0, hk0'⟩ : ∃ k, k = keys (nats l0) := ⟨_, rfl⟩
  obtain ⟨k1, hk1'⟩ : ∃ k, k = keys (nats l1) := ⟨_, rfl⟩
  have KE0 := Lib.hid hk0'.symm
  have KE1 := Lib.hid hk1'.symm
  rw [← hk0'] at E1 YX TK
  rw [← hk1'] at E1 YY
  obtain ⟨s1, hs1⟩ : ∃ s1, s1 = strOfNums (ints k0) := ⟨_, rfl⟩
  obtain ⟨s2, hs2⟩ : ∃ s2, s2 = strOfNums (ints k1) := ⟨_, rfl⟩
  obtain ⟨s3, hs3⟩ : ∃ s3, s3 = strOfNums l0 := ⟨_, rfl⟩
  obtain ⟨s4, hs4⟩ : ∃ s4, s4 = strOfNums l1 := ⟨_, rfl⟩
  rw [← hs1, ← hs2] at E1
  rw [← hs3, ← hs4] at E2
  have T1 := Lib.hid hs1
  have T2 := Lib.hid hs2
  have T3 := Lib.hid hs3
  have T4 := Lib.hid hs4
  have A := Lib.hid awake_any
  have H0 := Lib.hid h0
  have H1 := Lib.hid h1
  have g0 : decide ((300 : Int) < (n0 : Int)) = false := decide_eq_false (by omega)
  have g1 : decide ((300 : Int) < (n1 : Int)) = false := decide_eq_false (by omega)
  have M0 := Lib.hid hl0
  have M1 := Lib.hid hl1
  clear h0 h1 hl0 hl1
  clear hk0 hk1 EQ hk0' hk1' hs1 hs2 hs3 hs4 ln0 ln1 B0 B1'
  go_enter Try.func7, Try.ntmps7
  go_wp2_with fail
  refine (keys_ok A0 n0 c0 l0 w w.heap.size H0.out (Nat.le_refl _) KG0.out).mono ?_
  rintro e w1 ⟨gx, L0, rfl, hL, hL2, hg, hr, hb⟩
  have B1 := Lib.hid hb
  have RX := Lib.hid hr
  have LX := Lib.hid hL
  have LX2 := Lib.hid hL2
  have GXG := Lib.hid hg
  clear hL hL2 hg hr hb
  go_wp2_with fail
  refine (keys_ok A1 n1 c1 l1 w1 w.heap.size (H1.out.below B1.out) B1.out.size KG1.out).mono ?_
  rintro e w2 ⟨gy, L1, rfl, hL, hL2, hg, hr, hb⟩
  have B2 := Lib.hid (B1.out.trans (hb.mono B1.out.size))
  have RX2 := Lib.hid (RX.out.up hb)
  have RY := Lib.hid hr
  rw [KE0.out] at RX2 LX
  rw [KE1.out] at RY hL
  have LY := Lib.hid hL
  have LY2 := Lib.hid hL2
  have GG : Hid (gx ≠ gy) := Lib.hid (by have := RX.out.lt; omega)
  clear hL hL2 hg hr hb RX B1
  have f7 : decide ((L0 : Int) < (n0 : Int)) = false := decide_eq_false (by have := LX2.out; have := KG0.out; omega)
  have f7' : decide (L0 < n0) = false := decide_eq_false (by have := LX2.out; have := KG0.out; omega)
  have f8 : (n0 : Int) ≤ (L0 : Int) := by have := LX2.out; have := KG0.out; omega
  have f9 : n0 ≤ L0 := by omega
  have f10 : ¬ L0 = 0 := by have := LX2.out; omega
  have sl : ∀ k : Nat, (Instr.sliceAt 28 (.slice (some ⟨gx, 0, none⟩) L0 L0) none (some (.int .i64 (n0 : Int))) none).run Try.prog (w2.drewN k) = .ok (.slice (some ⟨gx, 0, none⟩) n0 L0) (w2.drewN k) := fun k => cut_h gx 0 L0 L0 n0 _ (by have := LX2.out; have := KG0.out; omega)
  have HX : Hid (∀ W, BRow W gx k0 → Holds W W.heap.size (some ⟨gx, 0, none⟩) L0 L0 (ints k0)) := Lib.hid fun W h => by
    have := BRow.holds h YX.out (by have := LX.out; have := LX2.out; omega)
    rwa [LX.out] at this
  have HY : Hid (∀ W, BRow W gy k1 → Holds W W.heap.size (some ⟨gy, 0, none⟩) L1 L1 (ints k1)) := Lib.hid fun W h => by
    have := BRow.holds h YY.out (by have := LY.out; have := LY2.out; omega)
    rwa [LY.out] at this
  have v1 : ∀ k : Nat, (convert 28 9 (.slice (some ⟨gx, 0, none⟩) n0 L0)).run Try.prog (w2.drewN k) = .ok (.string s3) (w2.drewN k) := fun k => by
    have := run_string_bytes ((HX.out (w2.drewN k) RX2.out).upto (k := n0) (by have := LX2.out; have := KG0.out; omega))
    rw [TK.out, ← T3.out] at this
    exact this
  have v2 : ∀ k : Nat, (convert 28 9 (.slice A0 n0 c0)).run Try.prog (w2.drewN k) = .ok (.string s3) (w2.drewN k) := fun k => by
    have := run_string_bytes (H0.out.below (below_drewN B2.out k))
    rw [← T3.out] at this
    exact this
  have v3 : ∀ k : Nat, (convert 28 9 (.slice (some ⟨gx, 0, none⟩) L0 L0)).run Try.prog (w2.drewN k) = .ok (.string s1) (w2.drewN k) := fun k => by
    have := run_string_bytes (HX.out (w2.drewN k) RX2.out)
    rw [← T1.out] at this
    exact this
  have v4 : ∀ k : Nat, (convert 28 9 (.slice (some ⟨gy, 0, none⟩) L1 L1)).run Try.prog (w2.drewN k) = .ok (.string s2) (w2.drewN k) := fun k => by
    have := run_string_bytes (HY.out (w2.drewN k) RY.out)
    rw [← T2.out] at this
    exact this
  have v5 : ∀ k : Nat, (convert 28 9 (.slice A1 n1 c1)).run Try.prog (w2.drewN k) = .ok (.string s4) (w2.drewN k) := fun k => by
    have := run_string_bytes (H1.out.below (below_drewN B2.out k))
    rw [← T4.out] at this
    exact this
  go_wp2_with fail
  go_quiet (fail)
  have GX3 : Hid (BRow (w2.drewN nq) gx k0) := Lib.hid RX2.out
  have GY3 : Hid (BRow (w2.drewN nq) gy k1) := Lib.hid RY.out
  have B3 := Lib.hid (below_drewN B2.out nq)
  have GXS : Hid (w.heap.size ≤ gx) := GXG
  generalize w2.drewN nq = w3 at *
  clear f7 f7' f8 f9 f10 sl v1 v2 v3 v4 v5 RX2 RY B2 GXG E1 E2 HX TK T1 T3 T4 YX
  go_wp2_with fail
  have R0 : Hid (∃ m : List Nat, m.length = L0 ∧ BRow w3 gx m) := Lib.hid ⟨k0, LX.out, GX3.out⟩
  clear GX3
  go_loopw [9] (fun kv wr => ∃ j : Nat, kv = .int .i64 (j : Int) ∧ j ≤ L0 ∧ Hid (∃ m : List Nat, m.length = L0 ∧ BRow wr gx m) ∧ Hid (BRow wr gy k1) ∧ Hid (Below w.heap.size w wr)) (fun kv _ => L0 - (intOf kv).toNat)
  case atStart => exact ⟨0, rfl, Nat.zero_le _, R0, GY3, B3⟩
  case round =>
    obtain ⟨j, rfl, hj, HR, HYR, HB⟩ := hrel
    clear R0 GY3 B3
    have lx := LX2.out
    by_cases hlt : j < L0
    · obtain ⟨m, hm, hrow⟩ := HR.out
      have c0' := hrow.cell j (by omega)
      have f0 := hrow.free j
      have gl : decide ((j : Int) < (L0 : Int)) = true := decide_eq_true (by omega)
      have gl' : decide (j < L0) = true := decide_eq_true hlt
      have R2 : Hid (∃ m : List Nat, m.length = L0 ∧ BRow (wr.setCell ⟨gx, j, none⟩ (.int .u8 7)) gx m) := Lib.hid ⟨m.set j 7, by rw [List.length_set, hm], hrow.put j 7⟩
      have Y2 := Lib.hid (HYR.out.far (p := ⟨gx, j, none⟩) (Ne.symm GG.out) (.int .u8 7))
      have B2 := Lib.hid (HB.out.setCell (p := ⟨gx, j, none⟩) GXS.out (.int .u8 7))
      generalize m.getD j 0 = old at *
      clear hm hrow HR HYR HB
      have MS : Hid (L0 - (j + 1) < L0 - j) := Lib.hid (by omega)
      go_wp2_with fail
      go_roundw
      case rel => exact ⟨j + 1, by go_num, by omega, R2, Y2, B2⟩
      case measure => have := MS.out; simp [intOf]; omega
    · obtain rfl : j = L0 := by omega
      have gl : decide ((j : Int) < (j : Int)) = false := decide_eq_false (by omega)
      have gl' : decide (j < j) = false := decide_eq_false (by omega)
      clear HR hj hlt lx
      generalize wr = w4 at *
      go_wp2_with fail
      refine (keys_ok A1 n1 c1 l1 w4 w.heap.size (H1.out.below HB.out) HB.out.size KG1.out).mono ?_
      rintro e w6 ⟨gz, L2, rfl, hL, hL2, hg, hr, hb⟩
      rw [KE1.out] at hr hL
      have LZ := Lib.hid hL
      have LZ2 := Lib.hid hL2
      have RZ := Lib.hid hr
      have RY6 := Lib.hid (HYR.out.up hb)
      have B6 := Lib.hid (HB.out.trans (hb.mono HB.out.size))
      clear hL hL2 hg hr hb HYR HB
      go_wp2_with fail
      refine (A.out _).mono ?_
      rintro e w7 ⟨rfl, hb7⟩
      have v1 : (convert 28 9 (.slice (some ⟨gz, 0, none⟩) L2 L2)).run Try.prog w7 = .ok (.string s2) w7 := by
        have := run_string_bytes (BRow.holds (RZ.out.up hb7) YY.out (by have := LZ.out; have := LZ2.out; omega))
        rw [LZ.out, ← T2.out] at this
        exact this
      have v2 : (convert 28 9 (.slice (some ⟨gy, 0, none⟩) L1 L1)).run Try.prog w7 = .ok (.string s2) w7 := by
        have := run_string_bytes (HY.out w7 (RY6.out.up hb7))
        rw [← T2.out] at this
        exact this
      have B7 := Lib.hid (B6.out.trans (hb7.mono B6.out.size))
      clear hb7 RZ RY6 B6
      go_wp2_with fail
      go_ret
      exact ⟨rfl, B7.out⟩

theorem keys_any (A0 : Option Addr) (n0 c0 : Nat) (l0 : List Int) (A1 : Option Addr) (n1 c1 : Nat) (l1 : List Int) (w : World)
    (h0 : Holds w w.heap.size A0 n0 c0 l0) (h1 : Holds w w.heap.size A1 n1 c1 l1) :
    Calls Try.prog 7 #[.slice A0 n0 c0, .slice A1 n1 c1] w fun e w' => e = .returned (.bool true) ∧ Below w.heap.size w w' := by
  by_cases hl : 300 < n0 ∨ 300 < n1
  · exact keys_long A0 n0 c0 l0 A1 n1 c1 l1 w h0 h1 hl
  · have m0 : n0 ≤ 300 := by omega
    have m1 : n1 ≤ 300 := by omega
    by_cases k0 : n0 = 16 ∨ n0 = 32
    · by_cases k1 : n1 = 16 ∨ n1 = 32
      · exact keys_4 A0 n0 c0 l0 A1 n1 c1 l1 w h0 h1 m0 m1 k0 k1
      · exact keys_3 A0 n0 c0 l0 A1 n1 c1 l1 w h0 h1 m0 m1 k0 k1
    · by_cases k1 : n1 = 16 ∨ n1 = 32
      · exact keys_2 A0 n0 c0 l0 A1 n1 c1 l1 w h0 h1 m0 m1 k0 k1
      · exact keys_1 A0 n0 c0 l0 A1 n1 c1 l1 w h0 h1 m0 m1 k0 k1
end Go.Proofs.Ytkgbifljmgindaa.LawKeys
