/- Contracts: Length, Offer; the document's in, Check, two, four, Same, Length, Offer. -/
import Derived.Test.YtadjkidjkgnkoaaSeg5
import Derived.Test.YtadjkidjkgnkoaaBits2
import Derived.LoopTactic
set_option linter.unusedVariables false
namespace Go.Proofs.Ytadjkidjkgnkoaa.Seg6
open Go.RowKit Go.Sort Go.Proofs.Ytadjkidjkgnkoaa.Sums Go.Proofs.Ytadjkidjkgnkoaa.Words Go.Proofs.Ytadjkidjkgnkoaa.Mem Go.Proofs.Ytadjkidjkgnkoaa.Ahead Go.Proofs.Ytadjkidjkgnkoaa.SegD Go.Proofs.Ytadjkidjkgnkoaa.Blk Go.Proofs.Ytadjkidjkgnkoaa.Bits Go.Proofs.Ytadjkidjkgnkoaa.InetSum Go.Proofs.Ytadjkidjkgnkoaa.Steps Go.Proofs.Ytadjkidjkgnkoaa.Free Go.Proofs.Ytadjkidjkgnkoaa.Cut
open Go.Proofs.Ytadjkidjkgnkoaa.Seg1 Go.Proofs.Ytadjkidjkgnkoaa.Com Go.Proofs.Ytadjkidjkgnkoaa.Bits2 Go.Proofs.Ytadjkidjkgnkoaa.RefPseudo
open Go.Proofs.Ytadjkidjkgnkoaa.Regs (cell_getD)

theorem in_any (n m : Int) (w : World) : Calls Try.prog 27 #[.int .i64 n, .int .i64 m] w fun e w' => e = .returned (.bool (wi n m)) ∧ w = w' := by
  by_cases h : 0 ≤ n <;> by_cases k : n ≤ m
  all_goals
    have e : Hid (wi n m = (decide (0 ≤ n) && decide (n ≤ m))) := Lib.hid rfl
    go_enter Try.func27, Try.ntmps27
    go_wp2
    go_ret
    rw [e.out]
    simp [h, k]

set_option maxHeartbeats 2000000 in
theorem check_ref (p : Sg) (A : Option Addr) (n c : Nat) (w : World) (hz : p.opt.size ≤ 1048576) (hn : n ≤ 1048576) :
    Calls Try.prog 11 #[.agg #[.int .i64 p.src, .int .i64 p.dst, .int .i64 p.seq, .int .i64 p.ack, .int .i64 p.flags, .int .i64 p.window, .int .i64 p.urgent, .string p.opt, .slice A n c]] w fun e w' => e = .returned (.int .i64 (p.chk n)) ∧ Below w.heap.size w w' := by
  have B0 := Lib.hid ((Below.refl w.heap.size w).alloc (Nat.le_refl _) (.cells #[.int .i64 p.src, .int .i64 p.dst, .int .i64 p.seq, .int .i64 p.ack, .int .i64 p.flags, .int .i64 p.window, .int .i64 p.urgent, .string p.opt, .slice A n c] 24))
  have K0 := Blk.new w 24 #[.int .i64 p.src, .int .i64 p.dst, .int .i64 p.seq, .int .i64 p.ack, .int .i64 p.flags, .int .i64 p.window, .int .i64 p.urgent, .string p.opt, .slice A n c]
  have k0 := K0.cell 0
  have k1 := K0.cell 1
  have k2 := K0.cell 2
  have k3 := K0.cell 3
  have k4 := K0.cell 4
  have k5 := K0.cell 5
  have k6 := K0.cell 6
  have k7 := K0.cell 7
  have k8 := K0.cell 8
  clear K0
  have E : Hid (p.chk n = if p.ok = true then (if 65535 < 20 + p.opt.size + n then 2 else 0) else 1) := Lib.hid rfl
  have O : Hid (p.ok = (wi p.src 65535 && (wi p.dst 65535 && (wi p.window 65535 && (wi p.urgent 65535 && (wi p.seq 4294967295 && (wi p.ack 4294967295 && (wi p.flags 255 && (decide (p.opt.size % 4 = 0) && decide (p.opt.size ≤ 40)))))))))) := Lib.hid rfl
  have W0 := Lib.hid (fun W => in_any p.src 65535 W)
  have W1 := Lib.hid (fun W => in_any p.dst 65535 W)
  have W2 := Lib.hid (fun W => in_any p.window 65535 W)
  have W3 := Lib.hid (fun W => in_any p.urgent 65535 W)
  have W4 := Lib.hid (fun W => in_any p.seq 4294967295 W)
  have W5 := Lib.hid (fun W => in_any p.ack 4294967295 W)
  have W6 := Lib.hid (fun W => in_any p.flags 255 W)
  generalize wi p.src 65535 = b0 at *
  generalize wi p.dst 65535 = b1 at *
  generalize wi p.window 65535 = b2 at *
  generalize wi p.urgent 65535 = b3 at *
  generalize wi p.seq 4294967295 = b4 at *
  generalize wi p.ack 4294967295 = b5 at *
  generalize wi p.flags 255 = b6 at *
  cases b0 with
  | false =>
    have F : Hid (p.chk n = 1) := Lib.hid (by rw [E.out, O.out]; rfl)
    clear E O
    go_enter Try.func11, Try.ntmps11
    go_wp2_with fail
    refine (W0.out _).mono ?_
    rintro e w' ⟨rfl, rfl⟩
    go_wp2_with fail
    go_ret
    exact ⟨by rw [F.out]; rfl, B0.out⟩
  | true =>
    cases b1 with
    | false =>
      have F : Hid (p.chk n = 1) := Lib.hid (by rw [E.out, O.out]; rfl)
      clear E O
      go_enter Try.func11, Try.ntmps11
      go_wp2_with fail
      refine (W0.out _).mono ?_
      rintro e w' ⟨rfl, rfl⟩
      go_wp2_with fail
      refine (W1.out _).mono ?_
      rintro e w' ⟨rfl, rfl⟩
      go_wp2_with fail
      go_ret
      exact ⟨by rw [F.out]; rfl, B0.out⟩
    | true =>
      cases b2 with
      | false =>
        have F : Hid (p.chk n = 1) := Lib.hid (by rw [E.out, O.out]; rfl)
        clear E O
        go_enter Try.func11, Try.ntmps11
        go_wp2_with fail
        refine (W0.out _).mono ?_
        rintro e w' ⟨rfl, rfl⟩
        go_wp2_with fail
        refine (W1.out _).mono ?_
        rintro e w' ⟨rfl, rfl⟩
        go_wp2_with fail
        refine (W2.out _).mono ?_
        rintro e w' ⟨rfl, rfl⟩
        go_wp2_with fail
        go_ret
        exact ⟨by rw [F.out]; rfl, B0.out⟩
      | true =>
        cases b3 with
        | false =>
          have F : Hid (p.chk n = 1) := Lib.hid (by rw [E.out, O.out]; rfl)
          clear E O
          go_enter Try.func11, Try.ntmps11
          go_wp2_with fail
          refine (W0.out _).mono ?_
          rintro e w' ⟨rfl, rfl⟩
          go_wp2_with fail
          refine (W1.out _).mono ?_
          rintro e w' ⟨rfl, rfl⟩
          go_wp2_with fail
          refine (W2.out _).mono ?_
          rintro e w' ⟨rfl, rfl⟩
          go_wp2_with fail
          refine (W3.out _).mono ?_
          rintro e w' ⟨rfl, rfl⟩
          go_wp2_with fail
          go_ret
          exact ⟨by rw [F.out]; rfl, B0.out⟩
        | true =>
          cases b4 with
          | false =>
            have F : Hid (p.chk n = 1) := Lib.hid (by rw [E.out, O.out]; rfl)
            clear E O
            go_enter Try.func11, Try.ntmps11
            go_wp2_with fail
            refine (W0.out _).mono ?_
            rintro e w' ⟨rfl, rfl⟩
            go_wp2_with fail
            refine (W1.out _).mono ?_
            rintro e w' ⟨rfl, rfl⟩
            go_wp2_with fail
            refine (W2.out _).mono ?_
            rintro e w' ⟨rfl, rfl⟩
            go_wp2_with fail
            refine (W3.out _).mono ?_
            rintro e w' ⟨rfl, rfl⟩
            go_wp2_with fail
            refine (W4.out _).mono ?_
            rintro e w' ⟨rfl, rfl⟩
            go_wp2_with fail
            go_ret
            exact ⟨by rw [F.out]; rfl, B0.out⟩
          | true =>
            cases b5 with
            | false =>
              have F : Hid (p.chk n = 1) := Lib.hid (by rw [E.out, O.out]; rfl)
              clear E O
              go_enter Try.func11, Try.ntmps11
              go_wp2_with fail
              refine (W0.out _).mono ?_
              rintro e w' ⟨rfl, rfl⟩
              go_wp2_with fail
              refine (W1.out _).mono ?_
              rintro e w' ⟨rfl, rfl⟩
              go_wp2_with fail
              refine (W2.out _).mono ?_
              rintro e w' ⟨rfl, rfl⟩
              go_wp2_with fail
              refine (W3.out _).mono ?_
              rintro e w' ⟨rfl, rfl⟩
              go_wp2_with fail
              refine (W4.out _).mono ?_
              rintro e w' ⟨rfl, rfl⟩
              go_wp2_with fail
              refine (W5.out _).mono ?_
              rintro e w' ⟨rfl, rfl⟩
              go_wp2_with fail
              go_ret
              exact ⟨by rw [F.out]; rfl, B0.out⟩
            | true =>
              cases b6 with
              | false =>
                have F : Hid (p.chk n = 1) := Lib.hid (by rw [E.out, O.out]; rfl)
                clear E O
                go_enter Try.func11, Try.ntmps11
                go_wp2_with fail
                refine (W0.out _).mono ?_
                rintro e w' ⟨rfl, rfl⟩
                go_wp2_with fail
                refine (W1.out _).mono ?_
                rintro e w' ⟨rfl, rfl⟩
                go_wp2_with fail
                refine (W2.out _).mono ?_
                rintro e w' ⟨rfl, rfl⟩
                go_wp2_with fail
                refine (W3.out _).mono ?_
                rintro e w' ⟨rfl, rfl⟩
                go_wp2_with fail
                refine (W4.out _).mono ?_
                rintro e w' ⟨rfl, rfl⟩
                go_wp2_with fail
                refine (W5.out _).mono ?_
                rintro e w' ⟨rfl, rfl⟩
                go_wp2_with fail
                refine (W6.out _).mono ?_
                rintro e w' ⟨rfl, rfl⟩
                go_wp2_with fail
                go_ret
                exact ⟨by rw [F.out]; rfl, B0.out⟩
              | true =>
                have t4 : (p.opt.size : Int).tmod 4 = (p.opt.size : Int) % 4 := Int.tmod_eq_emod_of_nonneg (by omega)
                by_cases q0 : p.opt.size % 4 = 0
                rotate_left
                · have F : Hid (p.chk n = 1) := Lib.hid (by rw [E.out, O.out, decide_eq_false q0]; rfl)
                  have q1 : ((p.opt.size : Int) % 4 != 0) = true := by rw [bne_iff_ne]; omega
                  clear E O q0
                  go_enter Try.func11, Try.ntmps11
                  go_wp2_with fail
                  refine (W0.out _).mono ?_
                  rintro e w' ⟨rfl, rfl⟩
                  go_wp2_with fail
                  refine (W1.out _).mono ?_
                  rintro e w' ⟨rfl, rfl⟩
                  go_wp2_with fail
                  refine (W2.out _).mono ?_
                  rintro e w' ⟨rfl, rfl⟩
                  go_wp2_with fail
                  refine (W3.out _).mono ?_
                  rintro e w' ⟨rfl, rfl⟩
                  go_wp2_with fail
                  refine (W4.out _).mono ?_
                  rintro e w' ⟨rfl, rfl⟩
                  go_wp2_with fail
                  refine (W5.out _).mono ?_
                  rintro e w' ⟨rfl, rfl⟩
                  go_wp2_with fail
                  refine (W6.out _).mono ?_
                  rintro e w' ⟨rfl, rfl⟩
                  go_wp2_with fail
                  go_ret
                  exact ⟨by rw [F.out]; rfl, B0.out⟩
                have q0' : ((p.opt.size : Int) % 4 != 0) = false := by rw [bne_eq_false_iff_eq]; omega
                by_cases q1 : p.opt.size ≤ 40
                rotate_left
                · have F : Hid (p.chk n = 1) := Lib.hid (by rw [E.out, O.out, decide_eq_true q0, decide_eq_false q1]; rfl)
                  have q1' : decide ((40 : Int) < (p.opt.size : Int)) = true := decide_eq_true (by omega)
                  have q1'' : decide (40 < p.opt.size) = true := decide_eq_true (by omega)
                  clear E O q0 q1
                  go_enter Try.func11, Try.ntmps11
                  go_wp2_with fail
                  refine (W0.out _).mono ?_
                  rintro e w' ⟨rfl, rfl⟩
                  go_wp2_with fail
                  refine (W1.out _).mono ?_
                  rintro e w' ⟨rfl, rfl⟩
                  go_wp2_with fail
                  refine (W2.out _).mono ?_
                  rintro e w' ⟨rfl, rfl⟩
                  go_wp2_with fail
                  refine (W3.out _).mono ?_
                  rintro e w' ⟨rfl, rfl⟩
                  go_wp2_with fail
                  refine (W4.out _).mono ?_
                  rintro e w' ⟨rfl, rfl⟩
                  go_wp2_with fail
                  refine (W5.out _).mono ?_
                  rintro e w' ⟨rfl, rfl⟩
                  go_wp2_with fail
                  refine (W6.out _).mono ?_
                  rintro e w' ⟨rfl, rfl⟩
                  go_wp2_with fail
                  go_ret
                  exact ⟨by rw [F.out]; rfl, B0.out⟩
                have q1' : decide ((40 : Int) < (p.opt.size : Int)) = false := decide_eq_false (by omega)
                have q1'' : decide (40 < p.opt.size) = false := decide_eq_false (by omega)
                by_cases q2 : 65535 < 20 + p.opt.size + n
                · have F : Hid (p.chk n = 2) := Lib.hid (by rw [E.out, O.out, decide_eq_true q0, decide_eq_true q1, if_pos (show (true && (true && (true && (true && (true && (true && (true && (true && true)))))))) = true from rfl), if_pos q2])
                  have q2' : (65535 : Int) < 20 + (p.opt.size : Int) + (n : Int) := by omega
                  clear E O q0 q1 q2
                  go_enter Try.func11, Try.ntmps11
                  go_wp2_with fail
                  refine (W0.out _).mono ?_
                  rintro e w' ⟨rfl, rfl⟩
                  go_wp2_with fail
                  refine (W1.out _).mono ?_
                  rintro e w' ⟨rfl, rfl⟩
                  go_wp2_with fail
                  refine (W2.out _).mono ?_
                  rintro e w' ⟨rfl, rfl⟩
                  go_wp2_with fail
                  refine (W3.out _).mono ?_
                  rintro e w' ⟨rfl, rfl⟩
                  go_wp2_with fail
                  refine (W4.out _).mono ?_
                  rintro e w' ⟨rfl, rfl⟩
                  go_wp2_with fail
                  refine (W5.out _).mono ?_
                  rintro e w' ⟨rfl, rfl⟩
                  go_wp2_with fail
                  refine (W6.out _).mono ?_
                  rintro e w' ⟨rfl, rfl⟩
                  go_wp2_with fail
                  go_ret
                  exact ⟨by rw [F.out]; rfl, B0.out⟩
                · have F : Hid (p.chk n = 0) := Lib.hid (by rw [E.out, O.out, decide_eq_true q0, decide_eq_true q1, if_pos (show (true && (true && (true && (true && (true && (true && (true && (true && true)))))))) = true from rfl), if_neg q2])
                  have q2' : ¬ (65535 : Int) < 20 + (p.opt.size : Int) + (n : Int) := by omega
                  clear E O q0 q1 q2
                  go_enter Try.func11, Try.ntmps11
                  go_wp2_with fail
                  refine (W0.out _).mono ?_
                  rintro e w' ⟨rfl, rfl⟩
                  go_wp2_with fail
                  refine (W1.out _).mono ?_
                  rintro e w' ⟨rfl, rfl⟩
                  go_wp2_with fail
                  refine (W2.out _).mono ?_
                  rintro e w' ⟨rfl, rfl⟩
                  go_wp2_with fail
                  refine (W3.out _).mono ?_
                  rintro e w' ⟨rfl, rfl⟩
                  go_wp2_with fail
                  refine (W4.out _).mono ?_
                  rintro e w' ⟨rfl, rfl⟩
                  go_wp2_with fail
                  refine (W5.out _).mono ?_
                  rintro e w' ⟨rfl, rfl⟩
                  go_wp2_with fail
                  refine (W6.out _).mono ?_
                  rintro e w' ⟨rfl, rfl⟩
                  go_wp2_with fail
                  go_ret
                  exact ⟨by rw [F.out]; rfl, B0.out⟩

/-- Same of equal segments. -/
theorem same_yes (p : Sg) (A : Option Addr) (n c : Nat) (A2 : Option Addr) (n2 c2 : Nat) (l : List Int) (B : Nat) (w : World) (h : Holds w B A n c l) (h2 : Holds w B A2 n2 c2 l) (hB : B ≤ w.heap.size) :
    Calls Try.prog 13 #[.agg #[.int .i64 p.src, .int .i64 p.dst, .int .i64 p.seq, .int .i64 p.ack, .int .i64 p.flags, .int .i64 p.window, .int .i64 p.urgent, .string p.opt, .slice A n c], .agg #[.int .i64 p.src, .int .i64 p.dst, .int .i64 p.seq, .int .i64 p.ack, .int .i64 p.flags, .int .i64 p.window, .int .i64 p.urgent, .string p.opt, .slice A2 n2 c2]] w fun e w' => e = .returned (.bool true) ∧ Below w.heap.size w w' := by
  have B0 := Lib.hid (((Below.refl w.heap.size w).alloc (Nat.le_refl _) (.cells #[.int .i64 p.src, .int .i64 p.dst, .int .i64 p.seq, .int .i64 p.ack, .int .i64 p.flags, .int .i64 p.window, .int .i64 p.urgent, .string p.opt, .slice A n c] 24)).alloc (by simp) (.cells #[.int .i64 p.src, .int .i64 p.dst, .int .i64 p.seq, .int .i64 p.ack, .int .i64 p.flags, .int .i64 p.window, .int .i64 p.urgent, .string p.opt, .slice A2 n2 c2] 24))
  have K1 := (Blk.new w 24 #[.int .i64 p.src, .int .i64 p.dst, .int .i64 p.seq, .int .i64 p.ack, .int .i64 p.flags, .int .i64 p.window, .int .i64 p.urgent, .string p.opt, .slice A n c]).alloc (.cells #[.int .i64 p.src, .int .i64 p.dst, .int .i64 p.seq, .int .i64 p.ack, .int .i64 p.flags, .int .i64 p.window, .int .i64 p.urgent, .string p.opt, .slice A2 n2 c2] 24)
  have K2 := Blk.new (w.alloc (.cells #[.int .i64 p.src, .int .i64 p.dst, .int .i64 p.seq, .int .i64 p.ack, .int .i64 p.flags, .int .i64 p.window, .int .i64 p.urgent, .string p.opt, .slice A n c] 24)) 24 #[.int .i64 p.src, .int .i64 p.dst, .int .i64 p.seq, .int .i64 p.ack, .int .i64 p.flags, .int .i64 p.window, .int .i64 p.urgent, .string p.opt, .slice A2 n2 c2]
  rw [show (w.alloc (.cells #[.int .i64 p.src, .int .i64 p.dst, .int .i64 p.seq, .int .i64 p.ack, .int .i64 p.flags, .int .i64 p.window, .int .i64 p.urgent, .string p.opt, .slice A n c] 24)).heap.size = w.heap.size + 1 by simp] at K2
  have k0 := K1.cell 0
  have j0 := K2.cell 0
  have k1 := K1.cell 1
  have j1 := K2.cell 1
  have k2 := K1.cell 2
  have j2 := K2.cell 2
  have k3 := K1.cell 3
  have j3 := K2.cell 3
  have k4 := K1.cell 4
  have j4 := K2.cell 4
  have k5 := K1.cell 5
  have j5 := K2.cell 5
  have k6 := K1.cell 6
  have j6 := K2.cell 6
  have k7 := K1.cell 7
  have j7 := K2.cell 7
  have k8 := K1.cell 8
  have j8 := K2.cell 8
  have v1 := run_string_bytes (h.below (B0.out.mono hB))
  have v2 := run_string_bytes (h2.below (B0.out.mono hB))
  clear K1 K2 h h2
  generalize strOfNums l = t at *
  go_enter Try.func13, Try.ntmps13
  go_wp2_with fail
  go_ret
  exact ⟨rfl, B0.out⟩

theorem two_ref (A : Option Addr) (n c : Nat) (l : List Int) (w : World) (B : Nat) (h : Holds w B A n c l) (i : Nat) (hi : i + 1 < n) :
    Calls Try.prog 38 #[.slice A n c, .int .i64 (i : Int)] w fun e w' => e = .returned (.int .i64 (w16 l i)) ∧ Below w.heap.size w w' := by
  obtain ⟨b, p, rfl, _⟩ := h.2.2.2.2 (by omega)
  have B0 := Lib.hid (Below.refl w.heap.size w)
  have c0 := cell_getD h i (by omega)
  have c1 : w.cell? ⟨b, p + (i + 1), none⟩ = some (.int .u8 (l.getD (i + 1) 0)) := cell_getD h (i + 1) hi
  have y := getD_in h.2.2.2.1 i
  have z := getD_in h.2.2.2.1 (i + 1)
  have E : Hid (256 * l.getD i 0 + l.getD (i + 1) 0 = w16 l i) := Lib.hid rfl
  have hm := h.2.2.1
  have hn := h.2.1
  unfold maxLen at hm
  clear h
  generalize l.getD i 0 = y0 at *
  generalize l.getD (i + 1) 0 = z0 at *
  obtain ⟨i1, hi1⟩ : ∃ i1, i1 = i + 1 := ⟨_, rfl⟩
  rw [← hi1] at c1 hi
  have e0 : IntKind.i64.wrap ((i : Int) + 1) = (i1 : Int) := by rw [IntWalk.i64_in _ (by omega)]; omega
  have e1 : IntKind.i64.wrap (256 * y0) = 256 * y0 := IntWalk.i64_in _ (by omega)
  have e2 : IntKind.i64.wrap (256 * y0 + z0) = 256 * y0 + z0 := IntWalk.i64_in _ (by omega)
  have e3 : IntKind.i64.wrap y0 = y0 := IntWalk.i64_in _ (by omega)
  have e4 : IntKind.i64.wrap z0 = z0 := IntWalk.i64_in _ (by omega)
  have j0 : i < n := by omega
  obtain ⟨y1, y2⟩ := y
  obtain ⟨z1, z2⟩ := z
  clear hi1
  go_enter Try.func38, Try.ntmps38
  go_wp2_with fail
  go_quiet (fail)
  clear e0 e1 e2 e3 e4
  go_wp2_with fail
  go_ret
  exact ⟨by rw [E.out]; rfl, below_drewN B0.out nq⟩

theorem four_ref (A : Option Addr) (n c : Nat) (l : List Int) (w : World) (B : Nat) (h : Holds w B A n c l) (hB : B ≤ w.heap.size) (i : Nat) (hi : i + 3 < n) :
    Calls Try.prog 39 #[.slice A n c, .int .i64 (i : Int)] w fun e w' => e = .returned (.int .i64 (w32 l i)) ∧ Below w.heap.size w w' := by
  have P := Lib.hid (two_ref A n c l w B h i (by omega))
  have H := Lib.hid h
  have y := w16_in h.2.2.2.1 i
  have z := w16_in h.2.2.2.1 (i + 2)
  have E : Hid (65536 * w16 l i + w16 l (i + 2) = w32 l i) := Lib.hid rfl
  have hm := h.2.2.1
  have hn := h.2.1
  unfold maxLen at hm
  clear h
  obtain ⟨i1, hi1⟩ : ∃ i1, i1 = i + 2 := ⟨_, rfl⟩
  have N : Hid (i1 + 1 < n) := Lib.hid (by omega)
  have e0 : IntKind.i64.wrap ((i : Int) + 2) = (i1 : Int) := by rw [IntWalk.i64_in _ (by omega)]; omega
  rw [← hi1] at E z
  obtain ⟨y0, hy0⟩ : ∃ y0, y0 = w16 l i := ⟨_, rfl⟩
  rw [← hy0] at P E y
  obtain ⟨z0, hz0⟩ : ∃ z0, z0 = w16 l i1 := ⟨_, rfl⟩
  have HZ := Lib.hid hz0
  rw [← hz0] at E z
  clear hz0 hy0
  obtain ⟨y1, y2⟩ := y
  obtain ⟨z1, z2⟩ := z
  have e1 : IntKind.i64.wrap (65536 * y0) = 65536 * y0 := IntWalk.i64_in _ (by omega)
  have e2 : IntKind.i64.wrap (65536 * y0 + z0) = 65536 * y0 + z0 := IntWalk.i64_in _ (by omega)
  go_enter Try.func39, Try.ntmps39
  go_wp2_with fail
  refine P.out.mono ?_
  rintro e w1 ⟨rfl, hb⟩
  have B1 := Lib.hid hb
  have S := Lib.hid (two_ref A n c l w1 B (H.out.below (hb.mono hB)) i1 N.out)
  rw [← HZ.out] at S
  clear hb hi1
  go_wp2_with fail
  refine S.out.mono ?_
  rintro e w2 ⟨rfl, hb⟩
  have B2 := Lib.hid (B1.out.trans (hb.mono B1.out.size))
  go_wp2_with fail
  go_ret
  exact ⟨by rw [E.out]; rfl, B2.out⟩

set_option maxHeartbeats 1000000 in
theorem length_ref (p : Sg) (A : Option Addr) (n c : Nat) (w : World) (hn : n ≤ 140737488355328) :
    Calls Try.prog 15 #[.agg #[.int .i64 p.src, .int .i64 p.dst, .int .i64 p.seq, .int .i64 p.ack, .int .i64 p.flags, .int .i64 p.window, .int .i64 p.urgent, .string p.opt, .slice A n c]] w fun e w' => e = .returned (.int .i64 (len n p.flags)) ∧ Below w.heap.size w w' := by
  have B0 := Lib.hid ((Below.refl w.heap.size w).alloc (Nat.le_refl _) (.cells #[.int .i64 p.src, .int .i64 p.dst, .int .i64 p.seq, .int .i64 p.ack, .int .i64 p.flags, .int .i64 p.window, .int .i64 p.urgent, .string p.opt, .slice A n c] 24))
  have K0 := Blk.new w 24 #[.int .i64 p.src, .int .i64 p.dst, .int .i64 p.seq, .int .i64 p.ack, .int .i64 p.flags, .int .i64 p.window, .int .i64 p.urgent, .string p.opt, .slice A n c]
  have k4 := K0.cell 4
  have k8 := K0.cell 8
  clear K0
  have E := Lib.hid (len_four n p.flags)
  generalize p.flags = f at *
  obtain ⟨f4, hf4⟩ : ∃ f4, f4 = f % 4 := ⟨_, rfl⟩
  have b4 : 0 ≤ f4 ∧ f4 < 4 := by omega
  have t4 : f.tmod 4 = f % 4 ∨ f.tmod 4 = f % 4 - 4 := by
    rcases Int.lt_or_le f 0 with h | h
    · have e : f.tmod 4 = -((-f).tmod 4) := by rw [Int.neg_tmod, Int.neg_neg]
      rw [e, Int.tmod_eq_emod_of_nonneg (by omega)]
      omega
    · left; exact Int.tmod_eq_emod_of_nonneg h
  obtain ⟨g, hg⟩ : ∃ g, g = f.tmod 4 := ⟨_, rfl⟩
  have g4 : (g + 4).tmod 4 = f4 := by
    rw [Int.tmod_eq_emod_of_nonneg (by omega)]; omega
  have gb : -4 ≤ g ∧ g < 4 := by omega
  have e1 : IntKind.i64.wrap (g + 4) = g + 4 := IntWalk.i64_in _ (by omega)
  have m2 : f4.tmod 2 = f4 % 2 := Int.tmod_eq_emod_of_nonneg (by omega)
  have c1 : IntKind.i64.wrap ((n : Int) + 1) = (n : Int) + 1 := IntWalk.i64_in _ (by omega)
  have c2 : IntKind.i64.wrap ((n : Int) + 1 + 1) = (n : Int) + 1 + 1 := IntWalk.i64_in _ (by omega)
  rw [← hf4] at E
  have hg' : f.tmod 4 = g := hg.symm
  clear hf4 t4 hg
  by_cases q1 : 2 ≤ f4 <;> by_cases q2 : f4 % 2 = 1
  all_goals
    first
    | have q1' : decide (2 ≤ f4) = true := decide_eq_true q1
    | have q1' : decide (2 ≤ f4) = false := decide_eq_false q1
    first
    | have q2' : (f4 % 2 == 1) = true := beq_iff_eq.2 q2
    | have q2' : (f4 % 2 == 1) = false := beq_eq_false_iff_ne.2 q2
    have F : Hid (len n f = n + (if 2 ≤ f4 then 1 else 0) + (if f4 % 2 = 1 then 1 else 0)) := E
    clear E
    simp only [q1, q2, if_true, if_false] at F
    clear q1 q2
    go_enter Try.func15, Try.ntmps15
    go_wp2_with fail
    go_ret
    exact ⟨by rw [F.out]; simp, B0.out⟩

end Go.Proofs.Ytadjkidjkgnkoaa.Seg6
