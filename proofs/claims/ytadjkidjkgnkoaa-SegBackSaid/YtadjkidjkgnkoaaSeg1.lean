/- Contracts of the code: within, valid, Check. -/
import Derived.Test.YtadjkidjkgnkoaaSegD
import Derived.Lib.QuietBelow
import Derived.BigQuiet
import Derived.Test.YtadjkidjkgnkoaaBlk
import Derived.Test.YtadjkidjkgnkoaaBits
import Derived.Test.YtadjkidjkgnkoaaWords
import Derived.Test.YtadjkidjkgnkoaaInetSum
import Derived.Test.YtadjkidjkgnkoaaCut
import Derived.Test.YtadjkidjkgnkoaaLoads
set_option linter.unusedVariables false
namespace Go.Proofs.Ytadjkidjkgnkoaa.Seg1
open Go.RowKit Go.Sort Go.Proofs.Ytadjkidjkgnkoaa.Sums Go.Proofs.Ytadjkidjkgnkoaa.Words Go.Proofs.Ytadjkidjkgnkoaa.Mem Go.Proofs.Ytadjkidjkgnkoaa.Ahead Go.Proofs.Ytadjkidjkgnkoaa.SegD Go.Proofs.Ytadjkidjkgnkoaa.Blk Go.Proofs.Ytadjkidjkgnkoaa.Bits Go.Proofs.Ytadjkidjkgnkoaa.InetSum Go.Proofs.Ytadjkidjkgnkoaa.Steps Go.Proofs.Ytadjkidjkgnkoaa.Free Go.Proofs.Ytadjkidjkgnkoaa.Cut

theorem within_any (n m : Int) (w : World) : Calls Try.prog 44 #[.int .i64 n, .int .i64 m] w fun e w' => e = .returned (.bool (wi n m)) ∧ w = w' := by
  by_cases h : 0 ≤ n <;> by_cases k : n ≤ m
  all_goals
    have e : Hid (wi n m = (decide (0 ≤ n) && decide (n ≤ m))) := Lib.hid rfl
    go_enter Try.func44, Try.ntmps44
    go_wp2
    go_ret
    rw [e.out]
    simp [h, k]
theorem within_is {n m : Int} {b : Bool} (h : wi n m = b) (w : World) : Calls Try.prog 44 #[.int .i64 n, .int .i64 m] w fun e w' => e = .returned (.bool b) ∧ w = w' := by
  rw [← h]; exact within_any n m w
theorem ok_code (p : Sg) : p.ok = (wi p.src 65535 && (wi p.dst 65535 && (wi p.seq 4294967295 && (wi p.ack 4294967295 && (wi p.flags 255 && (wi p.window 65535 && (wi p.urgent 65535 && (decide ((p.opt.size : Int) ≤ 40) && decide ((p.opt.size : Int) % 4 = 0))))))))) := by
  have a : decide (p.opt.size % 4 = 0) = decide ((p.opt.size : Int) % 4 = 0) := by
    by_cases h : p.opt.size % 4 = 0
    · rw [decide_eq_true h, decide_eq_true (by omega)]
    · rw [decide_eq_false h, decide_eq_false (by omega)]
  have b : decide (p.opt.size ≤ 40) = decide ((p.opt.size : Int) ≤ 40) := by
    by_cases h : p.opt.size ≤ 40
    · rw [decide_eq_true h, decide_eq_true (by omega)]
    · rw [decide_eq_false h, decide_eq_false (by omega)]
  unfold Sg.ok
  rw [a, b]
  cases wi p.src 65535 <;> cases wi p.dst 65535 <;> cases wi p.seq 4294967295 <;> cases wi p.ack 4294967295 <;> cases wi p.flags 255 <;> cases wi p.window 65535 <;> cases wi p.urgent 65535 <;> cases decide ((p.opt.size : Int) ≤ 40) <;> cases decide ((p.opt.size : Int) % 4 = 0) <;> rfl

set_option maxHeartbeats 2000000 in
theorem valid_any (p : Sg) (A : Option Addr) (n c : Nat) (w : World) (hz : p.opt.size ≤ 1048576) :
    Calls Try.prog 28 #[.agg #[.int .i64 p.src, .int .i64 p.dst, .int .i64 p.seq, .int .i64 p.ack, .int .i64 p.flags, .int .i64 p.window, .int .i64 p.urgent, .string p.opt, .slice A n c]] w fun e w' => e = .returned (.bool p.ok) ∧ Below w.heap.size w w' := by
  have B0 := Lib.hid ((Below.refl w.heap.size w).alloc (Nat.le_refl _) (.cells #[.int .i64 p.src, .int .i64 p.dst, .int .i64 p.seq, .int .i64 p.ack, .int .i64 p.flags, .int .i64 p.window, .int .i64 p.urgent, .string p.opt, .slice A n c] 24))
  have K0 := Blk.new w 24 #[.int .i64 p.src, .int .i64 p.dst, .int .i64 p.seq, .int .i64 p.ack, .int .i64 p.flags, .int .i64 p.window, .int .i64 p.urgent, .string p.opt, .slice A n c]
  have k0 := K0.cell 0
  have k1 := K0.cell 1
  have k2 := K0.cell 2
  have k3 := K0.cell 3
  have k4 := K0.cell 4
  have k5 := K0.cell 5
  have k6 := K0.cell 6
  have k7 := K0.cell 7
  clear K0
  have E := Lib.hid (ok_code p)
  have W0 := Lib.hid (fun W => within_any p.src 65535 W)
  have W1 := Lib.hid (fun W => within_any p.dst 65535 W)
  have W2 := Lib.hid (fun W => within_any p.seq 4294967295 W)
  have W3 := Lib.hid (fun W => within_any p.ack 4294967295 W)
  have W4 := Lib.hid (fun W => within_any p.flags 255 W)
  have W5 := Lib.hid (fun W => within_any p.window 65535 W)
  have W6 := Lib.hid (fun W => within_any p.urgent 65535 W)
  generalize wi p.src 65535 = b0 at *
  generalize wi p.dst 65535 = b1 at *
  generalize wi p.seq 4294967295 = b2 at *
  generalize wi p.ack 4294967295 = b3 at *
  generalize wi p.flags 255 = b4 at *
  generalize wi p.window 65535 = b5 at *
  generalize wi p.urgent 65535 = b6 at *
  cases b0 with
  | false =>
    have F : Hid (p.ok = false) := Lib.hid (by rw [E.out]; rfl)
    clear E
    go_enter Try.func28, Try.ntmps28
    go_wp2_with fail
    refine (W0.out _).mono ?_
    rintro e w' ⟨rfl, rfl⟩
    go_wp2_with fail
    go_ret
    exact ⟨by rw [F.out]; rfl, B0.out⟩
  | true =>
    cases b1 with
    | false =>
      have F : Hid (p.ok = false) := Lib.hid (by rw [E.out]; rfl)
      clear E
      go_enter Try.func28, Try.ntmps28
      go_wp2_with fail
      refine (W0.out _).mono ?_
      rintro e w' ⟨rfl, rfl⟩
      go_wp2_with fail
      refine (W1.out _).mono ?_
      rintro e w' ⟨rfl, rfl⟩
      go_wp2_with fail
      go_ret
      exact ⟨by rw [F.out]; rfl, B0.out⟩
    | true =>
      cases b2 with
      | false =>
        have F : Hid (p.ok = false) := Lib.hid (by rw [E.out]; rfl)
        clear E
        go_enter Try.func28, Try.ntmps28
        go_wp2_with fail
        refine (W0.out _).mono ?_
        rintro e w' ⟨rfl, rfl⟩
        go_wp2_with fail
        refine (W1.out _).mono ?_
        rintro e w' ⟨rfl, rfl⟩
        go_wp2_with fail
        refine (W2.out _).mono ?_
        rintro e w' ⟨rfl, rfl⟩
        go_wp2_with fail
        go_ret
        exact ⟨by rw [F.out]; rfl, B0.out⟩
      | true =>
        cases b3 with
        | false =>
          have F : Hid (p.ok = false) := Lib.hid (by rw [E.out]; rfl)
          clear E
          go_enter Try.func28, Try.ntmps28
          go_wp2_with fail
          refine (W0.out _).mono ?_
          rintro e w' ⟨rfl, rfl⟩
          go_wp2_with fail
          refine (W1.out _).mono ?_
          rintro e w' ⟨rfl, rfl⟩
          go_wp2_with fail
          refine (W2.out _).mono ?_
          rintro e w' ⟨rfl, rfl⟩
          go_wp2_with fail
          refine (W3.out _).mono ?_
          rintro e w' ⟨rfl, rfl⟩
          go_wp2_with fail
          go_ret
          exact ⟨by rw [F.out]; rfl, B0.out⟩
        | true =>
          cases b4 with
          | false =>
            have F : Hid (p.ok = false) := Lib.hid (by rw [E.out]; rfl)
            clear E
            go_enter Try.func28, Try.ntmps28
            go_wp2_with fail
            refine (W0.out _).mono ?_
            rintro e w' ⟨rfl, rfl⟩
            go_wp2_with fail
            refine (W1.out _).mono ?_
            rintro e w' ⟨rfl, rfl⟩
            go_wp2_with fail
            refine (W2.out _).mono ?_
            rintro e w' ⟨rfl, rfl⟩
            go_wp2_with fail
            refine (W3.out _).mono ?_
            rintro e w' ⟨rfl, rfl⟩
            go_wp2_with fail
            refine (W4.out _).mono ?_
            rintro e w' ⟨rfl, rfl⟩
            go_wp2_with fail
            go_ret
            exact ⟨by rw [F.out]; rfl, B0.out⟩
          | true =>
            cases b5 with
            | false =>
              have F : Hid (p.ok = false) := Lib.hid (by rw [E.out]; rfl)
              clear E
              go_enter Try.func28, Try.ntmps28
              go_wp2_with fail
              refine (W0.out _).mono ?_
              rintro e w' ⟨rfl, rfl⟩
              go_wp2_with fail
              refine (W1.out _).mono ?_
              rintro e w' ⟨rfl, rfl⟩
              go_wp2_with fail
              refine (W2.out _).mono ?_
              rintro e w' ⟨rfl, rfl⟩
              go_wp2_with fail
              refine (W3.out _).mono ?_
              rintro e w' ⟨rfl, rfl⟩
              go_wp2_with fail
              refine (W4.out _).mono ?_
              rintro e w' ⟨rfl, rfl⟩
              go_wp2_with fail
              refine (W5.out _).mono ?_
              rintro e w' ⟨rfl, rfl⟩
              go_wp2_with fail
              go_ret
              exact ⟨by rw [F.out]; rfl, B0.out⟩
            | true =>
              cases b6 with
              | false =>
                have F : Hid (p.ok = false) := Lib.hid (by rw [E.out]; rfl)
                clear E
                go_enter Try.func28, Try.ntmps28
                go_wp2_with fail
                refine (W0.out _).mono ?_
                rintro e w' ⟨rfl, rfl⟩
                go_wp2_with fail
                refine (W1.out _).mono ?_
                rintro e w' ⟨rfl, rfl⟩
                go_wp2_with fail
                refine (W2.out _).mono ?_
                rintro e w' ⟨rfl, rfl⟩
                go_wp2_with fail
                refine (W3.out _).mono ?_
                rintro e w' ⟨rfl, rfl⟩
                go_wp2_with fail
                refine (W4.out _).mono ?_
                rintro e w' ⟨rfl, rfl⟩
                go_wp2_with fail
                refine (W5.out _).mono ?_
                rintro e w' ⟨rfl, rfl⟩
                go_wp2_with fail
                refine (W6.out _).mono ?_
                rintro e w' ⟨rfl, rfl⟩
                go_wp2_with fail
                go_ret
                exact ⟨by rw [F.out]; rfl, B0.out⟩
              | true =>
                by_cases q : p.opt.size ≤ 40
                · have q1 : decide ((p.opt.size : Int) ≤ 40) = true := decide_eq_true (by omega)
                  have q2 : (p.opt.size : Int).tmod 4 = (p.opt.size : Int) % 4 := Int.tmod_eq_emod_of_nonneg (by omega)
                  have F : Hid (p.ok = ((p.opt.size : Int) % 4 == 0)) := Lib.hid (by rw [E.out, q1]; simp only [Bool.true_and]; rfl)
                  clear E q
                  go_enter Try.func28, Try.ntmps28
                  go_wp2_with fail
                  refine (W0.out _).mono ?_
                  rintro e w' ⟨rfl, rfl⟩
                  go_wp2_with fail
                  refine (W1.out _).mono ?_
                  rintro e w' ⟨rfl, rfl⟩
                  go_wp2_with fail
                  refine (W2.out _).mono ?_
                  rintro e w' ⟨rfl, rfl⟩
                  go_wp2_with fail
                  refine (W3.out _).mono ?_
                  rintro e w' ⟨rfl, rfl⟩
                  go_wp2_with fail
                  refine (W4.out _).mono ?_
                  rintro e w' ⟨rfl, rfl⟩
                  go_wp2_with fail
                  refine (W5.out _).mono ?_
                  rintro e w' ⟨rfl, rfl⟩
                  go_wp2_with fail
                  refine (W6.out _).mono ?_
                  rintro e w' ⟨rfl, rfl⟩
                  go_wp2_with fail
                  go_ret
                  exact ⟨by rw [F.out]; rfl, B0.out⟩
                · have q1 : decide ((p.opt.size : Int) ≤ 40) = false := decide_eq_false (by omega)
                  have F : Hid (p.ok = false) := Lib.hid (by rw [E.out, q1]; rfl)
                  clear E q
                  go_enter Try.func28, Try.ntmps28
                  go_wp2_with fail
                  refine (W0.out _).mono ?_
                  rintro e w' ⟨rfl, rfl⟩
                  go_wp2_with fail
                  refine (W1.out _).mono ?_
                  rintro e w' ⟨rfl, rfl⟩
                  go_wp2_with fail
                  refine (W2.out _).mono ?_
                  rintro e w' ⟨rfl, rfl⟩
                  go_wp2_with fail
                  refine (W3.out _).mono ?_
                  rintro e w' ⟨rfl, rfl⟩
                  go_wp2_with fail
                  refine (W4.out _).mono ?_
                  rintro e w' ⟨rfl, rfl⟩
                  go_wp2_with fail
                  refine (W5.out _).mono ?_
                  rintro e w' ⟨rfl, rfl⟩
                  go_wp2_with fail
                  refine (W6.out _).mono ?_
                  rintro e w' ⟨rfl, rfl⟩
                  go_wp2_with fail
                  go_ret
                  exact ⟨by rw [F.out]; rfl, B0.out⟩

theorem load_seg {w : World} {g : Nat} {cs : Array Value} (h : Blk w g 24 cs) (hs : cs.size = 9) : (loadVar 24 ⟨g, 0, none⟩).run Try.prog w = .ok (.agg cs) w :=
  run_loadVar_row (P := Try.prog) w g 24 24 cs (0, 0) _ h Try.underlying24 rfl (by rw [hs]; kernel_rfl)

theorem check_any (p : Sg) (A : Option Addr) (n c : Nat) (w : World) (hz : p.opt.size ≤ 1048576) (hn : n ≤ 1048576) :
    Calls Try.prog 12 #[.agg #[.int .i64 p.src, .int .i64 p.dst, .int .i64 p.seq, .int .i64 p.ack, .int .i64 p.flags, .int .i64 p.window, .int .i64 p.urgent, .string p.opt, .slice A n c]] w fun e w' => e = .returned (.int .i64 (p.chk n)) ∧ Below w.heap.size w w' := by
  have B0 := Lib.hid ((Below.refl w.heap.size w).alloc (Nat.le_refl _) (.cells #[.int .i64 p.src, .int .i64 p.dst, .int .i64 p.seq, .int .i64 p.ack, .int .i64 p.flags, .int .i64 p.window, .int .i64 p.urgent, .string p.opt, .slice A n c] 24))
  have K0 := Lib.hid (Blk.new w 24 #[.int .i64 p.src, .int .i64 p.dst, .int .i64 p.seq, .int .i64 p.ack, .int .i64 p.flags, .int .i64 p.window, .int .i64 p.urgent, .string p.opt, .slice A n c])
  have V := Lib.hid (valid_any p A n c (w.alloc (.cells #[.int .i64 p.src, .int .i64 p.dst, .int .i64 p.seq, .int .i64 p.ack, .int .i64 p.flags, .int .i64 p.window, .int .i64 p.urgent, .string p.opt, .slice A n c] 24)) hz)
  have E : Hid (p.chk n = if p.ok = true then (if 65535 < 20 + p.opt.size + n then 2 else 0) else 1) := Lib.hid rfl
  generalize p.ok = b at *
  go_enter Try.func12, Try.ntmps12
  go_wp2_with (refine Loads.wpList_load_w rfl 24 (.tmp 1) rfl w.heap.size rfl 24 #[.int .i64 p.src, .int .i64 p.dst, .int .i64 p.seq, .int .i64 p.ack, .int .i64 p.flags, .int .i64 p.window, .int .i64 p.urgent, .string p.opt, .slice A n c] (0, 0) _ K0.out (Try.underlying24) rfl (by kernel_rfl) ?_)
  refine V.out.mono ?_
  rintro e w1 ⟨rfl, hb⟩
  have B1 := Lib.hid (B0.out.trans (hb.mono B0.out.size))
  have K1 := K0.out.below hb K0.out.lt
  have k7 := K1.cell 7
  have k8 := K1.cell 8
  clear hb K0 V K1
  cases b with
  | false =>
    go_wp2_with fail
    go_ret
    exact ⟨by rw [E.out]; rfl, B1.out⟩
  | true =>
    by_cases q : 65535 < 20 + p.opt.size + n
    · have F : Hid (p.chk n = 2) := Lib.hid (by rw [E.out, if_pos rfl, if_pos q])
      have q1 : (65535 : Int) < 20 + (p.opt.size : Int) + (n : Int) := by omega
      clear E q
      go_wp2_with fail
      go_ret
      exact ⟨by rw [F.out]; rfl, B1.out⟩
    · have F : Hid (p.chk n = 0) := Lib.hid (by rw [E.out, if_pos rfl, if_neg q])
      have q1 : ¬ (65535 : Int) < 20 + (p.opt.size : Int) + (n : Int) := by omega
      clear E q
      go_wp2_with fail
      go_ret
      exact ⟨by rw [F.out]; rfl, B1.out⟩
end Go.Proofs.Ytadjkidjkgnkoaa.Seg1
