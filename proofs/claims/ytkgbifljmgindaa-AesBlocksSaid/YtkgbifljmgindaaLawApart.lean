/- The law AesApart: its walk, for any keys, blocks and bytes. -/
import Derived.Test.YtkgbifljmgindaaAesA
set_option linter.unusedVariables false
namespace Go.Proofs.Ytkgbifljmgindaa.LawApart
open Go.RowKit Go.Proofs.Ytkgbifljmgindaa.Sums Go.Proofs.Ytkgbifljmgindaa.Mem Go.Proofs.Ytkgbifljmgindaa.Blk Go.Proofs.Ytkgbifljmgindaa.Bits3 Go.Proofs.Ytkgbifljmgindaa.Ints Go.Proofs.Ytkgbifljmgindaa.AesF Go.Proofs.Ytkgbifljmgindaa.AesB Go.Proofs.Ytkgbifljmgindaa.AesR3 Go.Proofs.Ytkgbifljmgindaa.Aes1 Go.Proofs.Ytkgbifljmgindaa.Aes2 Go.Proofs.Ytkgbifljmgindaa.Aes3 Go.Proofs.Ytkgbifljmgindaa.Aes6 Go.Proofs.Ytkgbifljmgindaa.Aes7 Go.Proofs.Ytkgbifljmgindaa.Aes8 Go.Proofs.Ytkgbifljmgindaa.Aes9 Go.Proofs.Ytkgbifljmgindaa.AesA

theorem block_any (A : Option Addr) (n c : Nat) (ks : List Int) (Ai : Option Addr) (m ci : Nat) (ins : List Int) (w : World) (B : Nat) (h : Holds w B A n c ks) (hi : Holds w B Ai m ci ins) (hB : B ≤ w.heap.size) (hn : n ≤ 140737488355328) (hm : m ≤ 140737488355328) :
    Calls Try.prog 16 #[.slice A n c, .slice Ai m ci] w fun e w' => ∃ v er, e = .returned (.tuple #[v, .int .i64 er]) ∧ Below w.heap.size w w' := by
  by_cases hg : goodB n m = true
  · have : (n = 176 ∨ n = 240) ∧ m = 16 := by simpa [goodB] using hg
    obtain ⟨h1, rfl⟩ := this
    refine (block_no A n c ks Ai ci ins w B h hi hB h1).mono ?_
    rintro e w' ⟨g, he, _, _, hb⟩
    exact ⟨_, _, he, hb⟩
  · refine (block_bad A Ai n c m ci w hn hm (by simpa using hg)).mono ?_
    rintro e w' ⟨he, hw⟩
    subst hw
    exact ⟨_, _, he, Below.refl _ _⟩
theorem box_eq {x y : Nat} (hx : x < 256) (hy : y < 256) : (((Box x : Nat) : Int) == ((Box y : Nat) : Int)) = ((x : Int) == (y : Int)) := by
  by_cases e : x = y
  · subst e
    simp
  · have : ¬ Box x = Box y := fun h => e (Box_inj hx hy h)
    have h1 : (((Box x : Nat) : Int) == ((Box y : Nat) : Int)) = false := by rw [beq_eq_false_iff_ne]; omega
    have h2 : ((x : Int) == (y : Int)) = false := by rw [beq_eq_false_iff_ne]; omega
    rw [h1, h2]
theorem toList_eq (a b : ByteArray) : (a.toList == b.toList) = decide (a = b) := by
  by_cases h : a = b
  · subst h; simp
  · have : a.toList ≠ b.toList := fun e => h (by
      cases a; cases b
      rw [ByteArray.toList_eq, ByteArray.toList_eq] at e
      simp at e
      rw [e])
    simp [h, this]
theorem str_eq {a b : List Int} (ha : Bytes a) (hb : Bytes b) : ((strOfNums a).toList == (strOfNums b).toList) = decide (a = b) := by
  rw [toList_eq, decide_eq_decide]
  exact ⟨fun h => str_inj ha hb h, fun h => by rw [h]⟩
theorem ints_inj {a b : List Nat} : ints a = ints b ↔ a = b := by
  constructor
  · intro h
    rw [← nats_ints a, ← nats_ints b, h]
  · intro h
    rw [h]

set_option maxHeartbeats 1000000 in
theorem apart_long (A0 : Option Addr) (n0 c0 : Nat) (l0 : List Int) (A1 : Option Addr) (n1 c1 : Nat) (l1 : List Int) (A2 : Option Addr) (n2 c2 : Nat) (l2 : List Int) (x y : Nat) (w : World) (hx : x < 256) (hy : y < 256)
    (h0 : Holds w w.heap.size A0 n0 c0 l0) (h1 : Holds w w.heap.size A1 n1 c1 l1) (h2 : Holds w w.heap.size A2 n2 c2 l2) (hl : 300 < n0 ∨ 300 < n1 ∨ 300 < n2) :
    Calls Try.prog 6 #[.slice A0 n0 c0, .slice A1 n1 c1, .slice A2 n2 c2, .int .u8 (x : Int), .int .u8 (y : Int)] w fun e w' => e = .returned (.bool true) ∧ Below w.heap.size w w' := by
  clear h0 h1 h2 hx hy
  by_cases q0 : 300 < n0
  · have g0 : decide ((300 : Int) < (n0 : Int)) = true := decide_eq_true (by omega)
    clear hl
    go_enter Try.func6, Try.ntmps6
    go_wp2_with fail
    go_ret
    exact ⟨rfl, Below.refl _ _⟩
  · have g0 : decide ((300 : Int) < (n0 : Int)) = false := decide_eq_false (by omega)
    by_cases q1 : 300 < n1
    · have g1 : decide ((300 : Int) < (n1 : Int)) = true := decide_eq_true (by omega)
      clear hl
      go_enter Try.func6, Try.ntmps6
      go_wp2_with fail
      go_ret
      exact ⟨rfl, Below.refl _ _⟩
    · have g1 : decide ((300 : Int) < (n1 : Int)) = false := decide_eq_false (by omega)
      have g2 : decide ((300 : Int) < (n2 : Int)) = true := decide_eq_true (by omega)
      clear hl
      go_enter Try.func6, Try.ntmps6
      go_wp2_with fail
      go_ret
      exact ⟨rfl, Below.refl _ _⟩

set_option maxHeartbeats 1000000 in
theorem apart_1 (A0 : Option Addr) (n0 c0 : Nat) (l0 : List Int) (A1 : Option Addr) (n1 c1 : Nat) (l1 : List Int) (A2 : Option Addr) (n2 c2 : Nat) (l2 : List Int) (x y : Nat) (w : World) (hx : x < 256) (hy : y < 256)
    (h0 : Holds w w.heap.size A0 n0 c0 l0) (h1 : Holds w w.heap.size A1 n1 c1 l1) (h2 : Holds w w.heap.size A2 n2 c2 l2) (hl0 : n0 ≤ 300) (hl1 : n1 ≤ 300) (hl2 : n2 ≤ 300) (hq : n1 ≠ 16) :
    Calls Try.prog 6 #[.slice A0 n0 c0, .slice A1 n1 c1, .slice A2 n2 c2, .int .u8 (x : Int), .int .u8 (y : Int)] w fun e w' => e = .returned (.bool true) ∧ Below w.heap.size w w' := by
  have NG1 : goodB n0 n1 = false := by simp [goodB, hq]
  have gn : ((n1 : Int) != 16) = true := by simp; omega
  have A := Lib.hid awake_any
  have HX := Lib.hid (fun W => box_no x hx W)
  have HY := Lib.hid (fun W => box_no y hy W)
  have gb := box_eq hx hy
  have H0 := Lib.hid h0
  have H1 := Lib.hid h1
  have H2 := Lib.hid h2
  have g0 : decide ((300 : Int) < (n0 : Int)) = false := decide_eq_false (by omega)
  have g1 : decide ((300 : Int) < (n1 : Int)) = false := decide_eq_false (by omega)
  have g2 : decide ((300 : Int) < (n2 : Int)) = false := decide_eq_false (by omega)
  have L0 := Lib.hid hl0
  have L1 := Lib.hid hl1
  have L2 := Lib.hid hl2
  generalize Box x = bx at *
  generalize Box y = by_ at *
  clear hx hy h0 h1 h2 hl0 hl1 hl2
  clear hq
  go_enter Try.func6, Try.ntmps6
  go_wp2_with fail
  refine (HX.out _).mono ?_
  rintro e w1 ⟨rfl, hb1⟩
  go_wp2_with fail
  refine (HY.out _).mono ?_
  rintro e w2 ⟨rfl, hb2⟩
  have B2 := Lib.hid (hb1.trans (hb2.mono hb1.size))
  clear hb1 hb2 HX HY
  go_wp2_with fail
  refine (block_bad A0 A1 n0 c0 n1 c1 w2 (by have := L0.out; omega) (by have := L1.out; omega) NG1).mono ?_
  rintro e w' ⟨rfl, rfl⟩
  go_wp2_with fail
  refine (block_any A0 n0 c0 l0 A2 n2 c2 l2 w2 w.heap.size (H0.out.below B2.out) (H2.out.below B2.out) B2.out.size (by have := L0.out; omega) (by have := L2.out; omega)).mono ?_
  rintro e w4 ⟨v, er, rfl, hb4⟩
  have B4 := Lib.hid (B2.out.trans (hb4.mono B2.out.size))
  clear hb4
  go_wp2_with fail
  refine (A.out _).mono ?_
  rintro e w5 ⟨rfl, hb5⟩
  have B5 := Lib.hid (B4.out.trans (hb5.mono B4.out.size))
  clear hb5
  go_wp2_with fail
  go_ret
  exact ⟨rfl, B5.out⟩

set_option maxHeartbeats 1000000 in
theorem apart_2 (A0 : Option Addr) (n0 c0 : Nat) (l0 : List Int) (A1 : Option Addr) (n1 c1 : Nat) (l1 : List Int) (A2 : Option Addr) (n2 c2 : Nat) (l2 : List Int) (x y : Nat) (w : World) (hx : x < 256) (hy : y < 256)
    (h0 : Holds w w.heap.size A0 n0 c0 l0) (h1 : Holds w w.heap.size A1 n1 c1 l1) (h2 : Holds w w.heap.size A2 n2 c2 l2) (hl0 : n0 ≤ 300) (hl1 : n1 ≤ 300) (hl2 : n2 ≤ 300) (hq : n1 = 16) (hk : n0 ≠ 176 ∧ n0 ≠ 240) (hr : n2 ≠ 16) :
    Calls Try.prog 6 #[.slice A0 n0 c0, .slice A1 n1 c1, .slice A2 n2 c2, .int .u8 (x : Int), .int .u8 (y : Int)] w fun e w' => e = .returned (.bool true) ∧ Below w.heap.size w w' := by
  subst hq
  have NG1 : goodB n0 16 = false := by simp [goodB, hk.1, hk.2]
  have NG2 : goodB n0 n2 = false := by simp [goodB, hk.1, hk.2]
  have gn : ((n2 : Int) != 16) = true := by simp; omega
  have A := Lib.hid awake_any
  have HX := Lib.hid (fun W => box_no x hx W)
  have HY := Lib.hid (fun W => box_no y hy W)
  have gb := box_eq hx hy
  have H0 := Lib.hid h0
  have H1 := Lib.hid h1
  have H2 := Lib.hid h2
  have g0 : decide ((300 : Int) < (n0 : Int)) = false := decide_eq_false (by omega)
  have g1 : decide ((300 : Int) < (16 : Int)) = false := decide_eq_false (by omega)
  have g2 : decide ((300 : Int) < (n2 : Int)) = false := decide_eq_false (by omega)
  have L0 := Lib.hid hl0
  have L1 := Lib.hid hl1
  have L2 := Lib.hid hl2
  generalize Box x = bx at *
  generalize Box y = by_ at *
  clear hx hy h0 h1 h2 hl0 hl1 hl2
  clear hk hr
  go_enter Try.func6, Try.ntmps6
  go_wp2_with fail
  refine (HX.out _).mono ?_
  rintro e w1 ⟨rfl, hb1⟩
  go_wp2_with fail
  refine (HY.out _).mono ?_
  rintro e w2 ⟨rfl, hb2⟩
  have B2 := Lib.hid (hb1.trans (hb2.mono hb1.size))
  clear hb1 hb2 HX HY
  go_wp2_with fail
  refine (block_bad A0 A1 n0 c0 16 c1 w2 (by have := L0.out; omega) (by have := L1.out; omega) NG1).mono ?_
  rintro e w' ⟨rfl, rfl⟩
  go_wp2_with fail
  refine (block_bad A0 A2 n0 c0 n2 c2 w2 (by have := L0.out; omega) (by have := L2.out; omega) NG2).mono ?_
  rintro e w' ⟨rfl, rfl⟩
  go_wp2_with fail
  refine (A.out _).mono ?_
  rintro e w5 ⟨rfl, hb5⟩
  have B5 := Lib.hid (B2.out.trans (hb5.mono B2.out.size))
  clear hb5
  go_wp2_with fail
  go_ret
  exact ⟨rfl, B5.out⟩

set_option maxHeartbeats 1000000 in
theorem apart_3 (A0 : Option Addr) (n0 c0 : Nat) (l0 : List Int) (A1 : Option Addr) (n1 c1 : Nat) (l1 : List Int) (A2 : Option Addr) (n2 c2 : Nat) (l2 : List Int) (x y : Nat) (w : World) (hx : x < 256) (hy : y < 256)
    (h0 : Holds w w.heap.size A0 n0 c0 l0) (h1 : Holds w w.heap.size A1 n1 c1 l1) (h2 : Holds w w.heap.size A2 n2 c2 l2) (hl0 : n0 ≤ 300) (hl1 : n1 ≤ 300) (hl2 : n2 ≤ 300) (hq : n1 = 16) (hk : n0 ≠ 176 ∧ n0 ≠ 240) (hr : n2 = 16) :
    Calls Try.prog 6 #[.slice A0 n0 c0, .slice A1 n1 c1, .slice A2 n2 c2, .int .u8 (x : Int), .int .u8 (y : Int)] w fun e w' => e = .returned (.bool true) ∧ Below w.heap.size w w' := by
  subst hq
  subst hr
  have NG1 : goodB n0 16 = false := by simp [goodB, hk.1, hk.2]
  have NG2 : goodB n0 16 = false := NG1
  have gn : ((n0 : Int) != 176) = true := by simp; omega
  have gm : ((n0 : Int) != 240) = true := by simp; omega
  have A := Lib.hid awake_any
  have HX := Lib.hid (fun W => box_no x hx W)
  have HY := Lib.hid (fun W => box_no y hy W)
  have gb := box_eq hx hy
  have H0 := Lib.hid h0
  have H1 := Lib.hid h1
  have H2 := Lib.hid h2
  have g0 : decide ((300 : Int) < (n0 : Int)) = false := decide_eq_false (by omega)
  have g1 : decide ((300 : Int) < (16 : Int)) = false := decide_eq_false (by omega)
  have g2 : decide ((300 : Int) < (16 : Int)) = false := decide_eq_false (by omega)
  have L0 := Lib.hid hl0
  have L1 := Lib.hid hl1
  have L2 := Lib.hid hl2
  generalize Box x = bx at *
  generalize Box y = by_ at *
  clear hx hy h0 h1 h2 hl0 hl1 hl2
  clear hk
  go_enter Try.func6, Try.ntmps6
  go_wp2_with fail
  refine (HX.out _).mono ?_
  rintro e w1 ⟨rfl, hb1⟩
  go_wp2_with fail
  refine (HY.out _).mono ?_
  rintro e w2 ⟨rfl, hb2⟩
  have B2 := Lib.hid (hb1.trans (hb2.mono hb1.size))
  clear hb1 hb2 HX HY
  go_wp2_with fail
  refine (block_bad A0 A1 n0 c0 16 c1 w2 (by have := L0.out; omega) (by have := L1.out; omega) NG1).mono ?_
  rintro e w' ⟨rfl, rfl⟩
  go_wp2_with fail
  refine (block_bad A0 A2 n0 c0 16 c2 w2 (by have := L0.out; omega) (by have := L2.out; omega) NG2).mono ?_
  rintro e w' ⟨rfl, rfl⟩
  go_wp2_with fail
  refine (A.out _).mono ?_
  rintro e w5 ⟨rfl, hb5⟩
  have B5 := Lib.hid (B2.out.trans (hb5.mono B2.out.size))
  clear hb5
  go_wp2_with fail
  go_ret
  exact ⟨rfl, B5.out⟩

set_option maxHeartbeats 1000000 in
theorem apart_4 (A0 : Option Addr) (n0 c0 : Nat) (l0 : List Int) (A1 : Option Addr) (n1 c1 : Nat) (l1 : List Int) (A2 : Option Addr) (n2 c2 : Nat) (l2 : List Int) (x y : Nat) (w : World) (hx : x < 256) (hy : y < 256)
    (h0 : Holds w w.heap.size A0 n0 c0 l0) (h1 : Holds w w.heap.size A1 n1 c1 l1) (h2 : Holds w w.heap.size A2 n2 c2 l2) (hl0 : n0 ≤ 300) (hl1 : n1 ≤ 300) (hl2 : n2 ≤ 300) (hq : n1 = 16) (hk : n0 = 176 ∨ n0 = 240) (hr : n2 ≠ 16) :
    Calls Try.prog 6 #[.slice A0 n0 c0, .slice A1 n1 c1, .slice A2 n2 c2, .int .u8 (x : Int), .int .u8 (y : Int)] w fun e w' => e = .returned (.bool true) ∧ Below w.heap.size w w' := by
  subst hq
  have NG2 : goodB n0 n2 = false := by simp [goodB, hr]
  have gn : ((n2 : Int) != 16) = true := by simp; omega
  have KG := Lib.hid hk
  have A := Lib.hid awake_any
  have HX := Lib.hid (fun W => box_no x hx W)
  have HY := Lib.hid (fun W => box_no y hy W)
  have gb := box_eq hx hy
  have H0 := Lib.hid h0
  have H1 := Lib.hid h1
  have H2 := Lib.hid h2
  have g0 : decide ((300 : Int) < (n0 : Int)) = false := decide_eq_false (by omega)
  have g1 : decide ((300 : Int) < (16 : Int)) = false := decide_eq_false (by omega)
  have g2 : decide ((300 : Int) < (n2 : Int)) = false := decide_eq_false (by omega)
  have L0 := Lib.hid hl0
  have L1 := Lib.hid hl1
  have L2 := Lib.hid hl2
  generalize Box x = bx at *
  generalize Box y = by_ at *
  clear hx hy h0 h1 h2 hl0 hl1 hl2
  clear hk hr
  go_enter Try.func6, Try.ntmps6
  go_wp2_with fail
  refine (HX.out _).mono ?_
  rintro e w1 ⟨rfl, hb1⟩
  go_wp2_with fail
  refine (HY.out _).mono ?_
  rintro e w2 ⟨rfl, hb2⟩
  have B2 := Lib.hid (hb1.trans (hb2.mono hb1.size))
  clear hb1 hb2 HX HY
  go_wp2_with fail
  refine (block_no A0 n0 c0 l0 A1 c1 l1 w2 w.heap.size (H0.out.below B2.out) (H1.out.below B2.out) B2.out.size KG.out).mono ?_
  rintro e w3 ⟨gc, rfl, hgc, hrc, hb3⟩
  have B3 := Lib.hid (B2.out.trans (hb3.mono B2.out.size))
  have RC := Lib.hid hrc
  clear hgc hrc hb3 B2
  go_wp2_with fail
  refine (block_bad A0 A2 n0 c0 n2 c2 w3 (by have := L0.out; omega) (by have := L2.out; omega) NG2).mono ?_
  rintro e w' ⟨rfl, rfl⟩
  go_wp2_with fail
  refine (A.out _).mono ?_
  rintro e w5 ⟨rfl, hb5⟩
  have B5 := Lib.hid (B3.out.trans (hb5.mono B3.out.size))
  clear hb5
  go_wp2_with fail
  go_ret
  exact ⟨rfl, B5.out⟩

set_option maxHeartbeats 1000000 in
theorem apart_5 (A0 : Option Addr) (n0 c0 : Nat) (l0 : List Int) (A1 : Option Addr) (n1 c1 : Nat) (l1 : List Int) (A2 : Option Addr) (n2 c2 : Nat) (l2 : List Int) (x y : Nat) (w : World) (hx : x < 256) (hy : y < 256)
    (h0 : Holds w w.heap.size A0 n0 c0 l0) (h1 : Holds w w.heap.size A1 n1 c1 l1) (h2 : Holds w w.heap.size A2 n2 c2 l2) (hl0 : n0 ≤ 300) (hl1 : n1 ≤ 300) (hl2 : n2 ≤ 300) (hq : n1 = 16) (hk : n0 = 176 ∨ n0 = 240) (hr : n2 = 16) :
    Calls Try.prog 6 #[.slice A0 n0 c0, .slice A1 n1 c1, .slice A2 n2 c2, .int .u8 (x : Int), .int .u8 (y : Int)] w fun e w' => e = .returned (.bool true) ∧ Below w.heap.size w w' := by
  subst hq
  subst hr
  have KG := Lib.hid hk
  have KB := Lib.hid (nats_byt h0.2.2.2.1)
  have IB1 := Lib.hid (nats_byt h1.2.2.2.1)
  have IB2 := Lib.hid (nats_byt h2.2.2.2.1)
  have BY1 : Bytes (ints (block (nats l0) (nats l1))) := fun z hz => ints_in (block_byt KB.out IB1.out) z hz
  have BY2 : Bytes (ints (block (nats l0) (nats l2))) := fun z hz => ints_in (block_byt KB.out IB2.out) z hz
  have E1 := str_eq BY1 BY2
  have E2 := str_eq (a := l1) (b := l2) h1.2.2.2.1 h2.2.2.2.1
  have EQ : (ints (block (nats l0) (nats l1)) = ints (block (nats l0) (nats l2))) ↔ l1 = l2 := by
    rw [ints_inj]
    constructor
    · intro h
      have := block_inj ((nats_len l1).trans h1.1) ((nats_len l2).trans h2.1) IB1.out IB2.out KB.out h
      rw [← ints_nats (l := l1) (fun z hz => h1.2.2.2.1 z hz), this, ints_nats (l := l2) (fun z hz => h2.2.2.2.1 z hz)]
    · intro h
      rw [h]
  rw [decide_eq_decide.2 EQ] at E1
  generalize decide (l1 = l2) = qq at *
  have BL1 := Lib.hid (block_len (nats l0) (nats l1))
  have BL2 := Lib.hid (block_len (nats l0) (nats l2))
  have BB1 := Lib.hid (block_byt KB.out IB1.out)
  have BB2 := Lib.hid (block_byt KB.out IB2.out)
  obtain ⟨k1, hk1⟩ : ∃ k1, k1 = block (nats l0) (nats l1) := ⟨_, rfl⟩
  obtain ⟨k2, hk2⟩ : ∃ k2, k2 = block (nats l0) (nats l2) := ⟨_, rfl⟩
  have KE1 := Lib.hid hk1
  have KE2 := Lib.hid hk2
  rw [← hk1] at E1 BL1 BB1
  rw [← hk2] at E1 BL2 BB2
  obtain ⟨s1, hs1⟩ : ∃ s1, s1 = strOfNums (ints k1) := ⟨_, rfl⟩
  obtain ⟨s2, hs2⟩ : ∃ s2, s2 = strOfNums (ints k2) := ⟨_, rfl⟩
  obtain ⟨s3, hs3⟩ : ∃ s3, s3 = strOfNums l1 := ⟨_, rfl⟩
  obtain ⟨s4, hs4⟩ : ∃ s4, s4 = strOfNums l2 := ⟨_, rfl⟩
  rw [← hs1, ← hs2] at E1
  rw [← hs3, ← hs4] at E2
  have T1 := Lib.hid hs1
  have T2 := Lib.hid hs2
  have T3 := Lib.hid hs3
  have T4 := Lib.hid hs4
  have A := Lib.hid awake_any
  have HX := Lib.hid (fun W => box_no x hx W)
  have HY := Lib.hid (fun W => box_no y hy W)
  have gb := box_eq hx hy
  have H0 := Lib.hid h0
  have H1 := Lib.hid h1
  have H2 := Lib.hid h2
  have g0 : decide ((300 : Int) < (n0 : Int)) = false := decide_eq_false (by omega)
  have g1 : decide ((300 : Int) < (16 : Int)) = false := decide_eq_false (by omega)
  have g2 : decide ((300 : Int) < (16 : Int)) = false := decide_eq_false (by omega)
  have L0 := Lib.hid hl0
  have L1 := Lib.hid hl1
  have L2 := Lib.hid hl2
  generalize Box x = bx at *
  generalize Box y = by_ at *
  clear hx hy h0 h1 h2 hl0 hl1 hl2
  clear hk EQ BY1 BY2 hk1 hk2 hs1 hs2 hs3 hs4 IB1 IB2 KB
  go_enter Try.func6, Try.ntmps6
  go_wp2_with fail
  refine (HX.out _).mono ?_
  rintro e w1 ⟨rfl, hb1⟩
  go_wp2_with fail
  refine (HY.out _).mono ?_
  rintro e w2 ⟨rfl, hb2⟩
  have B2 := Lib.hid (hb1.trans (hb2.mono hb1.size))
  clear hb1 hb2 HX HY
  go_wp2_with fail
  refine (block_no A0 n0 c0 l0 A1 c1 l1 w2 w.heap.size (H0.out.below B2.out) (H1.out.below B2.out) B2.out.size KG.out).mono ?_
  rintro e w3 ⟨gc, rfl, hgc, hrc, hb3⟩
  have B3 := Lib.hid (B2.out.trans (hb3.mono B2.out.size))
  have RC := Lib.hid hrc
  clear hgc hrc hb3 B2
  go_wp2_with fail
  refine (block_no A0 n0 c0 l0 A2 c2 l2 w3 w.heap.size (H0.out.below B3.out) (H2.out.below B3.out) B3.out.size KG.out).mono ?_
  rintro e w4 ⟨gd, rfl, hgd, hrd, hb4⟩
  have B4 := Lib.hid (B3.out.trans (hb4.mono B3.out.size))
  have RC4 := Lib.hid (RC.out.up hb4)
  have RD := Lib.hid hrd
  clear hgd hrd hb4 B3 RC
  go_wp2_with fail
  refine (A.out _).mono ?_
  rintro e w5 ⟨rfl, hb5⟩
  have B5 := Lib.hid (B4.out.trans (hb5.mono B4.out.size))
  have v1 : (convert 28 9 (.slice (some ⟨gc, 0, none⟩) 16 16)).run Try.prog w5 = .ok (.string s1) w5 := by
    have h := RC4.out.up hb5
    rw [← KE1.out] at h
    have := run_string_bytes (ARow.holds h BB1.out (by rw [BL1.out]; decide))
    rw [BL1.out, ← T1.out] at this
    exact this
  have v2 : (convert 28 9 (.slice (some ⟨gd, 0, none⟩) 16 16)).run Try.prog w5 = .ok (.string s2) w5 := by
    have h := RD.out.up hb5
    rw [← KE2.out] at h
    have := run_string_bytes (ARow.holds h BB2.out (by rw [BL2.out]; decide))
    rw [BL2.out, ← T2.out] at this
    exact this
  have v3 : (convert 28 9 (.slice A1 16 c1)).run Try.prog w5 = .ok (.string s3) w5 := by
    have := run_string_bytes (H1.out.below B5.out)
    rw [← T3.out] at this
    exact this
  have v4 : (convert 28 9 (.slice A2 16 c2)).run Try.prog w5 = .ok (.string s4) w5 := by
    have := run_string_bytes (H2.out.below B5.out)
    rw [← T4.out] at this
    exact this
  clear hb5 RC4 RD B4
  go_wp2_with fail
  go_ret
  exact ⟨rfl, B5.out⟩

theorem apart_any (A0 : Option Addr) (n0 c0 : Nat) (l0 : List Int) (A1 : Option Addr) (n1 c1 : Nat) (l1 : List Int) (A2 : Option Addr) (n2 c2 : Nat) (l2 : List Int) (x y : Int) (w : World) (hx : 0 ≤ x ∧ x ≤ 255) (hy : 0 ≤ y ∧ y ≤ 255)
    (h0 : Holds w w.heap.size A0 n0 c0 l0) (h1 : Holds w w.heap.size A1 n1 c1 l1) (h2 : Holds w w.heap.size A2 n2 c2 l2) :
    Calls Try.prog 6 #[.slice A0 n0 c0, .slice A1 n1 c1, .slice A2 n2 c2, .int .u8 x, .int .u8 y] w fun e w' => e = .returned (.bool true) ∧ Below w.heap.size w w' := by
  obtain ⟨a, rfl⟩ : ∃ a : Nat, x = (a : Int) := ⟨x.toNat, by omega⟩
  obtain ⟨b, rfl⟩ : ∃ b : Nat, y = (b : Int) := ⟨y.toNat, by omega⟩
  have ha : a < 256 := by omega
  have hb : b < 256 := by omega
  by_cases hl : 300 < n0 ∨ 300 < n1 ∨ 300 < n2
  · exact apart_long A0 n0 c0 l0 A1 n1 c1 l1 A2 n2 c2 l2 a b w ha hb h0 h1 h2 hl
  · have m0 : n0 ≤ 300 := by omega
    have m1 : n1 ≤ 300 := by omega
    have m2 : n2 ≤ 300 := by omega
    by_cases q1 : n1 = 16
    · by_cases qk : n0 = 176 ∨ n0 = 240
      · by_cases q2 : n2 = 16
        · exact apart_5 A0 n0 c0 l0 A1 n1 c1 l1 A2 n2 c2 l2 a b w ha hb h0 h1 h2 m0 m1 m2 q1 qk q2
        · exact apart_4 A0 n0 c0 l0 A1 n1 c1 l1 A2 n2 c2 l2 a b w ha hb h0 h1 h2 m0 m1 m2 q1 qk q2
      · by_cases q2 : n2 = 16
        · exact apart_3 A0 n0 c0 l0 A1 n1 c1 l1 A2 n2 c2 l2 a b w ha hb h0 h1 h2 m0 m1 m2 q1 (by omega) q2
        · exact apart_2 A0 n0 c0 l0 A1 n1 c1 l1 A2 n2 c2 l2 a b w ha hb h0 h1 h2 m0 m1 m2 q1 (by omega) q2
    · exact apart_1 A0 n0 c0 l0 A1 n1 c1 l1 A2 n2 c2 l2 a b w ha hb h0 h1 h2 m0 m1 m2 q1
end Go.Proofs.Ytkgbifljmgindaa.LawApart
