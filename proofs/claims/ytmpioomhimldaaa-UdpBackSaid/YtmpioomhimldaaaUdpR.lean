/- Contracts of the document's Pair, Sum, port, Check, Same. -/
import Derived.Test.YtmpioomhimldaaaUdp5
import Derived.Test.YtmpioomhimldaaaRefPseudo
set_option linter.unusedVariables false
namespace Go.Proofs.Ytmpioomhimldaaa.UdpR
open Go.RowKit Go.Sort Go.Proofs.Ytmpioomhimldaaa.Sums Go.Proofs.Ytmpioomhimldaaa.Words Go.Proofs.Ytmpioomhimldaaa.Mem Go.Proofs.Ytmpioomhimldaaa.Dat Go.Proofs.Ytmpioomhimldaaa.Blk Go.Proofs.Ytmpioomhimldaaa.Bits Go.Proofs.Ytmpioomhimldaaa.InetSum Go.Proofs.Ytmpioomhimldaaa.Steps Go.Proofs.Ytmpioomhimldaaa.Free Go.Proofs.Ytmpioomhimldaaa.Cut Go.Proofs.Ytmpioomhimldaaa.Udp
open Go.Proofs.Ytmpioomhimldaaa.RefSum Go.Proofs.Ytmpioomhimldaaa.RefPseudo

theorem pair_ref (s d : ByteArray) (w : World) : Calls Try.prog 20 #[.string s, .string d] w fun e w' => e = .returned (.bool (paired s d)) ∧ w = w' := by
  have E : Hid (paired s d = (decide (s.size = d.size) && (decide (s.size = 4) || decide (s.size = 16)))) := Lib.hid rfl
  by_cases h : s.size = d.size
  · have g1 : ((s.size : Int) == (d.size : Int)) = true := by simp; omega
    by_cases h4 : s.size = 4
    · have g2 : ((s.size : Int) == 4) = true := by simp; omega
      have F : Hid (paired s d = true) := Lib.hid (by rw [E.out]; simp only [h4, ← h]; decide)
      clear h h4
      go_enter Try.func20, Try.ntmps20
      go_wp2_with fail
      go_ret
      exact ⟨by rw [F.out]; rfl, rfl⟩
    · have g2 : ((s.size : Int) == 4) = false := by simp; omega
      have F : Hid (paired s d = ((s.size : Int) == 16)) := Lib.hid (by
        rw [E.out]
        by_cases h16 : s.size = 16
        · simp only [h16, ← h]; decide
        · have : ((s.size : Int) == 16) = false := by simp; omega
          rw [this]; simp [h4, h16])
      clear h h4
      go_enter Try.func20, Try.ntmps20
      go_wp2_with fail
      go_ret
      exact ⟨by rw [F.out]; rfl, rfl⟩
  · have g1 : ((s.size : Int) == (d.size : Int)) = false := by simp; omega
    have F : Hid (paired s d = false) := Lib.hid (by rw [E.out]; simp [h])
    clear h
    go_enter Try.func20, Try.ntmps20
    go_wp2_with fail
    go_ret
    exact ⟨by rw [F.out]; rfl, rfl⟩
theorem port_ref (z : Int) (w : World) : Calls Try.prog 19 #[.int .i64 z] w fun e w' => e = .returned (.bool (isW z)) ∧ w = w' := by
  have E : Hid (isW z = (decide (0 ≤ z) && decide (z ≤ 65535))) := Lib.hid rfl
  by_cases h : 0 ≤ z
  · go_enter Try.func19, Try.ntmps19
    go_wp2_with fail
    go_ret
    exact ⟨by rw [E.out]; simp [h], rfl⟩
  · go_enter Try.func19, Try.ntmps19
    go_wp2_with fail
    go_ret
    exact ⟨by rw [E.out, show decide (0 ≤ z) = false from decide_eq_false (by omega)]; rfl, rfl⟩

theorem pseudo_ref (s d : ByteArray) (n : Int) (w : World) (hp : paired s d = true) (n0 : 0 ≤ n) (n1 : n ≤ 65535) :
    Calls Try.prog 28 #[.string s, .string d, .int .i64 17, .int .i64 n] w fun e w' => e = .returned (.tuple #[.int .i64 (around s d n), .int .i64 0]) ∧ Below w.heap.size w w' := by
  obtain ⟨e, h⟩ := paired_true hp
  unfold around Dat.ahead
  rcases h with h | h
  · rw [if_pos h]
    exact ref4 s d 17 n w h (by omega) (by omega) (by omega) n0 n1
  · rw [if_neg (by omega)]
    exact ref6 s d 17 n w h (by omega) (by omega) (by omega) n0 (by omega)

theorem sum_any5 (s d : ByteArray) (A : Option Addr) (n c : Nat) (l : List Int) (w : World) (B : Nat) (h : Holds w B A n c l) (hB : B ≤ w.heap.size) (hn : n ≤ 65535) (hp : paired s d = true) :
    Calls Try.prog 22 #[.slice A n c, .string s, .string d, .int .i64 17] w fun e w' => e = .returned (.int .i64 (whole s d l)) ∧ Below w.heap.size w w' := by
  have HL := Lib.hid h.1
  have P := Lib.hid (pseudo_ref s d n w hp (by omega) (by omega))
  have H := Lib.hid h
  have E : Hid (add (around s d n) (sums 0 l) = whole s d l) := Lib.hid (by unfold whole; rw [HL.out])
  clear h
  go_enter Try.func22, Try.ntmps22
  go_wp2_with fail
  refine P.out.mono ?_
  rintro e w1 ⟨rfl, hb⟩
  have B1 := Lib.hid hb
  have S := Lib.hid (sum_ref A n c l w1 B (H.out.below (hb.mono hB)) (by omega))
  clear hb
  go_wp2_with fail
  refine S.out.mono ?_
  rintro e w' ⟨rfl, rfl⟩
  go_wp2_with fail
  refine (add_ref _ _ _).mono ?_
  rintro e w' ⟨rfl, rfl⟩
  rw [E.out]
  go_wp2_with fail
  go_ret
  exact ⟨rfl, B1.out⟩

set_option maxHeartbeats 4000000 in
theorem check_ref (a b : Int) (A : Option Addr) (n c : Nat) (s d : ByteArray) (w : World) (hn : n ≤ 1048576) :
    Calls Try.prog 10 #[.agg #[.int .i64 a, .int .i64 b, .slice A n c], .string s, .string d] w fun e w' => e = .returned (.int .i64 (err a b s d n)) ∧ Below w.heap.size w w' := by
  have B0 := Lib.hid ((Below.refl w.heap.size w).alloc (Nat.le_refl _) (.cells #[.int .i64 a, .int .i64 b, .slice A n c] 24))
  have K0 := Blk.new w 24 #[.int .i64 a, .int .i64 b, .slice A n c]
  have k0 := K0.cell 0
  have k1 := K0.cell 1
  have k2 := K0.cell 2
  clear K0
  have WA := Lib.hid (fun W => port_ref a W)
  have WB := Lib.hid (fun W => port_ref b W)
  have WP := Lib.hid (fun W => pair_ref s d W)
  have E : Hid (err a b s d n = if (isW a && (isW b && paired s d)) = true then (if 65535 < 8 + n then 2 else 0) else 1) := Lib.hid rfl
  generalize isW a = x at *
  generalize isW b = y at *
  generalize paired s d = z at *
  cases x with
  | false =>
    have F : Hid (err a b s d n = 1) := Lib.hid (by rw [E.out]; rfl)
    go_enter Try.func10, Try.ntmps10
    go_wp2_with fail
    refine (WA.out _).mono ?_
    rintro e w' ⟨rfl, rfl⟩
    go_wp2_with fail
    go_ret
    exact ⟨by rw [F.out]; rfl, B0.out⟩
  | true =>
    cases y with
    | false =>
      have F : Hid (err a b s d n = 1) := Lib.hid (by rw [E.out]; rfl)
      go_enter Try.func10, Try.ntmps10
      go_wp2_with fail
      refine (WA.out _).mono ?_
      rintro e w' ⟨rfl, rfl⟩
      go_wp2_with fail
      refine (WB.out _).mono ?_
      rintro e w' ⟨rfl, rfl⟩
      go_wp2_with fail
      go_ret
      exact ⟨by rw [F.out]; rfl, B0.out⟩
    | true =>
      cases z with
      | false =>
        have F : Hid (err a b s d n = 1) := Lib.hid (by rw [E.out]; rfl)
        go_enter Try.func10, Try.ntmps10
        go_wp2_with fail
        refine (WA.out _).mono ?_
        rintro e w' ⟨rfl, rfl⟩
        go_wp2_with fail
        refine (WB.out _).mono ?_
        rintro e w' ⟨rfl, rfl⟩
        go_wp2_with fail
        refine (WP.out _).mono ?_
        rintro e w' ⟨rfl, rfl⟩
        go_wp2_with fail
        go_ret
        exact ⟨by rw [F.out]; rfl, B0.out⟩
      | true =>
        by_cases q : 65535 < 8 + n
        · have F : Hid (err a b s d n = 2) := Lib.hid (by rw [E.out, if_pos (show (true && (true && true)) = true from rfl), if_pos q])
          have q1 : (65535 : Int) < 8 + (n : Int) := by omega
          go_enter Try.func10, Try.ntmps10
          go_wp2_with fail
          refine (WA.out _).mono ?_
          rintro e w' ⟨rfl, rfl⟩
          go_wp2_with fail
          refine (WB.out _).mono ?_
          rintro e w' ⟨rfl, rfl⟩
          go_wp2_with fail
          refine (WP.out _).mono ?_
          rintro e w' ⟨rfl, rfl⟩
          go_wp2_with fail
          go_ret
          exact ⟨by rw [F.out]; rfl, B0.out⟩
        · have F : Hid (err a b s d n = 0) := Lib.hid (by rw [E.out, if_pos (show (true && (true && true)) = true from rfl), if_neg q])
          have q1 : ¬ (65535 : Int) < 8 + (n : Int) := by omega
          go_enter Try.func10, Try.ntmps10
          go_wp2_with fail
          refine (WA.out _).mono ?_
          rintro e w' ⟨rfl, rfl⟩
          go_wp2_with fail
          refine (WB.out _).mono ?_
          rintro e w' ⟨rfl, rfl⟩
          go_wp2_with fail
          refine (WP.out _).mono ?_
          rintro e w' ⟨rfl, rfl⟩
          go_wp2_with fail
          go_ret
          exact ⟨by rw [F.out]; rfl, B0.out⟩

/-- Same of equal datagrams. -/
theorem same_yes (a b : Int) (A : Option Addr) (n c : Nat) (A2 : Option Addr) (n2 c2 : Nat) (l : List Int) (B : Nat) (w : World) (h : Holds w B A n c l) (h2 : Holds w B A2 n2 c2 l) (hB : B ≤ w.heap.size) :
    Calls Try.prog 11 #[.agg #[.int .i64 a, .int .i64 b, .slice A n c], .agg #[.int .i64 a, .int .i64 b, .slice A2 n2 c2]] w fun e w' => e = .returned (.bool true) ∧ Below w.heap.size w w' := by
  have B0 := Lib.hid (((Below.refl w.heap.size w).alloc (Nat.le_refl _) (.cells #[.int .i64 a, .int .i64 b, .slice A n c] 24)).alloc (by simp) (.cells #[.int .i64 a, .int .i64 b, .slice A2 n2 c2] 24))
  have K1 := (Blk.new w 24 #[.int .i64 a, .int .i64 b, .slice A n c]).alloc (.cells #[.int .i64 a, .int .i64 b, .slice A2 n2 c2] 24)
  have K2 := Blk.new (w.alloc (.cells #[.int .i64 a, .int .i64 b, .slice A n c] 24)) 24 #[.int .i64 a, .int .i64 b, .slice A2 n2 c2]
  rw [show (w.alloc (.cells #[.int .i64 a, .int .i64 b, .slice A n c] 24)).heap.size = w.heap.size + 1 by simp] at K2
  have k0 := K1.cell 0
  have k1 := K1.cell 1
  have k2 := K1.cell 2
  have j0 := K2.cell 0
  have j1 := K2.cell 1
  have j2 := K2.cell 2
  have v1 := run_string_bytes (h.below (B0.out.mono hB))
  have v2 := run_string_bytes (h2.below (B0.out.mono hB))
  clear K1 K2 h h2
  generalize strOfNums l = t at *
  go_enter Try.func11, Try.ntmps11
  go_wp2_with fail
  go_ret
  exact ⟨rfl, B0.out⟩
end Go.Proofs.Ytmpioomhimldaaa.UdpR
