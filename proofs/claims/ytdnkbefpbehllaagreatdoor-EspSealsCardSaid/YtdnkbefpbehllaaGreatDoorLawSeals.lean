/- The law EspSeals: its walk. -/
import Derived.Test.YtdnkbefpbehllaaGreatDoorM41
import Derived.Test.YtdnkbefpbehllaaGreatDoorEsp9
set_option linter.unusedVariables false
namespace Go.Proofs.YtdnkbefpbehllaaGreatDoor.LawSeals
open Go.RowKit Go.Proofs.YtdnkbefpbehllaaGreatDoor.Sums Go.Proofs.YtdnkbefpbehllaaGreatDoor.Mem Go.Proofs.YtdnkbefpbehllaaGreatDoor.Blk Go.Proofs.YtdnkbefpbehllaaGreatDoor.Bits3 Go.Proofs.YtdnkbefpbehllaaGreatDoor.Ints Go.Proofs.YtdnkbefpbehllaaGreatDoor.AesB Go.Proofs.YtdnkbefpbehllaaGreatDoor.PadR Go.Proofs.YtdnkbefpbehllaaGreatDoor.EspD Go.Proofs.YtdnkbefpbehllaaGreatDoor.CutA Go.Proofs.YtdnkbefpbehllaaGreatDoor.EspR2 Go.Proofs.YtdnkbefpbehllaaGreatDoor.Regs Go.Proofs.YtdnkbefpbehllaaGreatDoor.Free Go.Proofs.YtdnkbefpbehllaaGreatDoor.Steps Go.Proofs.YtdnkbefpbehllaaGreatDoor.Dig1 Go.Proofs.YtdnkbefpbehllaaGreatDoor.Esp7 Go.Proofs.YtdnkbefpbehllaaGreatDoor.Esp8
open Go.Proofs.YtdnkbefpbehllaaGreatDoor.EspR4 (opX opY)
open Go.Proofs.YtdnkbefpbehllaaGreatDoor.CtrD (four four_byt)

theorem ent_awake : Enters Tryz.prog 10 := enters_of Tryz.func10 (by kernel_rfl) rfl
theorem ent_check : Enters Tryz.prog 11 := enters_of Tryz.func11 (by kernel_rfl) rfl
theorem ent_may : Enters Tryz.prog 12 := enters_of Tryz.func12 (by kernel_rfl) rfl
theorem ent_len : Enters Tryz.prog 13 := enters_of Tryz.func13 (by kernel_rfl) rfl
theorem ent_rlen : Enters Tryz.prog 6 := enters_of Tryz.func6 (by kernel_rfl) rfl
theorem b_eqe2 (a b : Int) (r : Bool) (h : (a == b) = r) (x y : Operand) (w : World) : (do eqGuard .eql 29 x y (.int .i64 a) (.int .i64 b); binOp .eql 29 (.int .i64 a) (.int .i64 b) : Sem Value).run Tryz.prog w = .ok (.bool r) w := by
  subst h
  simp [go_sem, eqGuard]

set_option maxRecDepth 100000 in
set_option maxHeartbeats 4000000 in
theorem seals_ret (sp : Int) (ky sl mc : ByteArray) (es : Bool) (wn : Int) (q : Nat) (A2 : Option Addr) (n2 c2 : Nat) (l2 : List Int) (x m : Int) (w : World) (zs : ky.size ≤ 140737488355328 ∧ sl.size ≤ 140737488355328 ∧ mc.size ≤ 140737488355328) (hq : q < 18446744073709551616) (h2 : Holds w w.heap.size A2 n2 c2 l2) (m2 : n2 ≤ 140737488355328) (ret : (300 < n2 ∧ n2 < 65400) ∨ 66000 < n2 ∨ 1000000 < m ∨ (65400 ≤ n2 ∧ n2 ≤ 66000 ∧ 32 + long n2 ≤ 65535)) (hT : Tab w) :
    Calls Tryz.prog 3 #[.agg #[.int .i64 sp, .string ky, .string sl, .string mc, .bool es, .int .i64 wn], .int .u64 (q : Int), .slice A2 n2 c2, .int .i64 x, .int .i64 m] w fun e w' => e = .returned (.bool true) ∧ Below w.heap.size w w' := by
  have HA := Lib.hid h2
  have HQ := Lib.hid hq
  have FW := Lib.hid (fun W => LawFew.few_any sp ky sl mc es wn W zs)
  have K1 := Lib.hid (Blk.new w 23 #[.int .i64 sp, .string ky, .string sl, .string mc, .bool es, .int .i64 wn])
  have B0 := Lib.hid ((Below.refl w.heap.size w).alloc (Nat.le_refl _) (.cells #[.int .i64 sp, .string ky, .string sl, .string mc, .bool es, .int .i64 wn] 23))
  have HT := Lib.hid hT
  generalize decide ((ky.size : Int) + (sl.size : Int) + (mc.size : Int) ≤ 300) = fw at *
  clear hT zs
  cases fw
  · clear ret h2 m2 hq
    go_enter Tryz.func3, Tryz.ntmps3
    go_wp2_with (refine Loads.wpList_load_w rfl 23 (.tmp 5) rfl w.heap.size rfl 23 #[.int .i64 sp, .string ky, .string sl, .string mc, .bool es, .int .i64 wn] (0, 0) _ (K1.out) Tryz.underlying23 rfl (by kernel_rfl) ?_)
    refine (FW.out _).mono ?_
    rintro e w2 ⟨rfl, hb⟩
    have B2 := Lib.hid (B0.out.trans (hb.mono (by simp)))
    have K2 := Lib.hid (Blk.below K1.out hb (Blk.lt K1.out))
    clear hb
    go_wp2_with fail
    go_ret
    exact ⟨rfl, B2.out⟩
  by_cases r1 : 300 < n2 ∧ n2 < 65400
  · have gA : decide ((300 : Int) < (n2 : Int)) = true := decide_eq_true (by omega)
    have gB : decide ((n2 : Int) < (65400 : Int)) = true := decide_eq_true (by omega)
    clear ret r1 h2 m2 hq
    go_enter Tryz.func3, Tryz.ntmps3
    go_wp2_with (refine Loads.wpList_load_w rfl 23 (.tmp 5) rfl w.heap.size rfl 23 #[.int .i64 sp, .string ky, .string sl, .string mc, .bool es, .int .i64 wn] (0, 0) _ (K1.out) Tryz.underlying23 rfl (by kernel_rfl) ?_)
    refine (FW.out _).mono ?_
    rintro e w2 ⟨rfl, hb⟩
    have B2 := Lib.hid (B0.out.trans (hb.mono (by simp)))
    have K2 := Lib.hid (Blk.below K1.out hb (Blk.lt K1.out))
    clear hb
    go_wp2_with fail
    go_ret
    exact ⟨rfl, B2.out⟩
  by_cases r2 : 66000 < n2
  · have gA : decide ((300 : Int) < (n2 : Int)) = true := decide_eq_true (by omega)
    have gB : decide ((n2 : Int) < (65400 : Int)) = false := decide_eq_false (by omega)
    have gC : decide ((66000 : Int) < (n2 : Int)) = true := decide_eq_true (by omega)
    clear ret r1 r2 h2 m2 hq
    go_enter Tryz.func3, Tryz.ntmps3
    go_wp2_with (refine Loads.wpList_load_w rfl 23 (.tmp 5) rfl w.heap.size rfl 23 #[.int .i64 sp, .string ky, .string sl, .string mc, .bool es, .int .i64 wn] (0, 0) _ (K1.out) Tryz.underlying23 rfl (by kernel_rfl) ?_)
    refine (FW.out _).mono ?_
    rintro e w2 ⟨rfl, hb⟩
    have B2 := Lib.hid (B0.out.trans (hb.mono (by simp)))
    have K2 := Lib.hid (Blk.below K1.out hb (Blk.lt K1.out))
    clear hb
    go_wp2_with fail
    go_ret
    exact ⟨rfl, B2.out⟩
  have gC : decide ((66000 : Int) < (n2 : Int)) = false := decide_eq_false (by omega)
  by_cases r3 : 1000000 < m
  · have gD : decide ((1000000 : Int) < m) = true := decide_eq_true r3
    by_cases r4 : n2 ≤ 300
    · have gA : decide ((300 : Int) < (n2 : Int)) = false := decide_eq_false (by omega)
      clear ret r1 r2 r3 r4 h2 m2 hq
      go_enter Tryz.func3, Tryz.ntmps3
      go_wp2_with (refine Loads.wpList_load_w rfl 23 (.tmp 5) rfl w.heap.size rfl 23 #[.int .i64 sp, .string ky, .string sl, .string mc, .bool es, .int .i64 wn] (0, 0) _ (K1.out) Tryz.underlying23 rfl (by kernel_rfl) ?_)
      refine (FW.out _).mono ?_
      rintro e w2 ⟨rfl, hb⟩
      have B2 := Lib.hid (B0.out.trans (hb.mono (by simp)))
      have K2 := Lib.hid (Blk.below K1.out hb (Blk.lt K1.out))
      clear hb
      go_wp2_with fail
      go_ret
      exact ⟨rfl, B2.out⟩
    · have gA : decide ((300 : Int) < (n2 : Int)) = true := decide_eq_true (by omega)
      have gB : decide ((n2 : Int) < (65400 : Int)) = false := decide_eq_false (by omega)
      clear ret r1 r2 r3 r4 h2 m2 hq
      go_enter Tryz.func3, Tryz.ntmps3
      go_wp2_with (refine Loads.wpList_load_w rfl 23 (.tmp 5) rfl w.heap.size rfl 23 #[.int .i64 sp, .string ky, .string sl, .string mc, .bool es, .int .i64 wn] (0, 0) _ (K1.out) Tryz.underlying23 rfl (by kernel_rfl) ?_)
      refine (FW.out _).mono ?_
      rintro e w2 ⟨rfl, hb⟩
      have B2 := Lib.hid (B0.out.trans (hb.mono (by simp)))
      have K2 := Lib.hid (Blk.below K1.out hb (Blk.lt K1.out))
      clear hb
      go_wp2_with fail
      go_ret
      exact ⟨rfl, B2.out⟩
  have lg : 65400 ≤ n2 ∧ n2 ≤ 66000 ∧ 32 + long n2 ≤ 65535 := by
    rcases ret with k | k | k | k
    · exact absurd k r1
    · exact absurd k r2
    · exact absurd k r3
    · exact k
  have gA : decide ((300 : Int) < (n2 : Int)) = true := decide_eq_true (by omega)
  have gB : decide ((n2 : Int) < (65400 : Int)) = false := decide_eq_false (by omega)
  have gD : decide ((1000000 : Int) < m) = false := decide_eq_false (by omega)
  have LE : lenI (n2 : Int) = 32 + long n2 := by unfold lenI lengthI; rw [if_neg (by omega), if_neg (by omega), Int.toNat_natCast]
  have CL := Lib.hid (fun W => EspR1.length_ref (n2 : Int) (by omega) W)
  rw [LE] at CL
  obtain ⟨L2, hL2⟩ : ∃ L2, L2 = 32 + long n2 := ⟨_, rfl⟩
  rw [← hL2] at CL lg
  have gL : decide ((L2 : Int) ≤ 65535) = true := decide_eq_true (by omega)
  clear ret r1 r2 r3 lg hL2 LE h2 m2 hq
  go_enter Tryz.func3, Tryz.ntmps3
  go_wp2_with (refine Loads.wpList_load_w rfl 23 (.tmp 5) rfl w.heap.size rfl 23 #[.int .i64 sp, .string ky, .string sl, .string mc, .bool es, .int .i64 wn] (0, 0) _ (K1.out) Tryz.underlying23 rfl (by kernel_rfl) ?_)
  refine (FW.out _).mono ?_
  rintro e w2 ⟨rfl, hb⟩
  have B2 := Lib.hid (B0.out.trans (hb.mono (by simp)))
  have K2 := Lib.hid (Blk.below K1.out hb (Blk.lt K1.out))
  clear hb
  go_wp2_with fail
  refine (CL.out _).mono ?_
  rintro e w3 ⟨rfl, rfl⟩
  go_wp2_with fail
  go_ret
  exact ⟨rfl, B2.out⟩

set_option maxRecDepth 100000 in
set_option maxHeartbeats 4000000 in
theorem seals_a (sp : Int) (ky sl mc : ByteArray) (es : Bool) (wn : Int) (q : Nat) (A2 : Option Addr) (n2 c2 : Nat) (l2 : List Int) (x m : Int) (w : World) (zs : ky.size ≤ 140737488355328 ∧ sl.size ≤ 140737488355328 ∧ mc.size ≤ 140737488355328) (hq : q < 18446744073709551616) (h2 : Holds w w.heap.size A2 n2 c2 l2) (m2 : n2 ≤ 140737488355328) (mid : n2 ≤ 300 ∧ m ≤ 1000000) (hT : Tab w) :
    Calls Tryz.prog 3 #[.agg #[.int .i64 sp, .string ky, .string sl, .string mc, .bool es, .int .i64 wn], .int .u64 (q : Int), .slice A2 n2 c2, .int .i64 x, .int .i64 m] w fun e w' => e = .returned (.bool true) ∧ Below w.heap.size w w' := by
  have HA := Lib.hid h2
  have HQ := Lib.hid hq
  have FW := Lib.hid (fun W => LawFew.few_any sp ky sl mc es wn W zs)
  have K1 := Lib.hid (Blk.new w 23 #[.int .i64 sp, .string ky, .string sl, .string mc, .bool es, .int .i64 wn])
  have B0 := Lib.hid ((Below.refl w.heap.size w).alloc (Nat.le_refl _) (.cells #[.int .i64 sp, .string ky, .string sl, .string mc, .bool es, .int .i64 wn] 23))
  have HT := Lib.hid hT
  generalize decide ((ky.size : Int) + (sl.size : Int) + (mc.size : Int) ≤ 300) = fw at *
  clear hT zs h2 m2 hq
  have NB : Hid (n2 ≤ 66000) := Lib.hid (by omega)
  obtain ⟨mb, hmb⟩ : ∃ mb, mb = may sp ky sl mc wn := ⟨_, rfl⟩
  obtain ⟨ck, hck⟩ : ∃ ck : Int, ck = if may sp ky sl mc wn then 0 else 1 := ⟨_, rfl⟩
  have CM : Hid ((ck == 0) = mb) := Lib.hid (by rw [hck, hmb]; cases may sp ky sl mc wn <;> rfl)
  have CK : Hid (∀ W, Calls Tryz.prog 11 #[.agg #[.int .i64 sp, .string ky, .string sl, .string mc, .bool es, .int .i64 wn]] W fun e w' => ∃ v, e = .returned v ∧ v = .int .i64 ck ∧ Below W.heap.size W w') := Lib.hid fun W => (Esp2.check_no sp ky sl mc es wn W).mono fun e w' ⟨h1, h2⟩ => ⟨_, h1, by rw [hck], h2⟩
  have CY : Hid (∀ W, Calls Tryz.prog 12 #[.agg #[.int .i64 sp, .string ky, .string sl, .string mc, .bool es, .int .i64 wn]] W fun e w' => ∃ v, e = .returned v ∧ v = .bool mb ∧ Below W.heap.size W w') := Lib.hid fun W => (EspR1.may_ref sp ky sl mc es wn W).mono fun e w' ⟨h1, h2⟩ => ⟨_, h1, by rw [hmb], h2⟩
  obtain ⟨ln, hln⟩ : ∃ ln, ln = lenI m := ⟨_, rfl⟩
  have CL1 : Hid (∀ W, Calls Tryz.prog 13 #[.int .i64 m] W fun e w' => ∃ v, e = .returned v ∧ v = .int .i64 (ln : Int) ∧ Below W.heap.size W w') := Lib.hid fun W => (Esp1.length_no m (by omega) W).mono fun e w' ⟨h1, h2⟩ => ⟨_, h1, by rw [hln], by rw [← h2]; exact Below.refl _ _⟩
  have CL2 : Hid (∀ W, Calls Tryz.prog 6 #[.int .i64 m] W fun e w' => ∃ v, e = .returned v ∧ v = .int .i64 (ln : Int) ∧ Below W.heap.size W w') := Lib.hid fun W => (EspR1.length_ref m (by omega) W).mono fun e w' ⟨h1, h2⟩ => ⟨_, h1, by rw [hln], by rw [← h2]; exact Below.refl _ _⟩
  cases fw
  · clear mid hmb hck hln CK CY CL1 CL2 CM
    go_enter Tryz.func3, Tryz.ntmps3
    go_wp2_with (refine Loads.wpList_load_w rfl 23 (.tmp 5) rfl w.heap.size rfl 23 #[.int .i64 sp, .string ky, .string sl, .string mc, .bool es, .int .i64 wn] (0, 0) _ (K1.out) Tryz.underlying23 rfl (by kernel_rfl) ?_)
    refine (FW.out _).mono ?_
    rintro e w2 ⟨rfl, hb⟩
    have B2 := Lib.hid (B0.out.trans (hb.mono (by simp)))
    have K2 := Lib.hid (Blk.below K1.out hb (Blk.lt K1.out))
    clear hb
    go_wp2_with fail
    go_ret
    exact ⟨rfl, B2.out⟩
  have gA : decide ((300 : Int) < (n2 : Int)) = false := decide_eq_false (by omega)
  have gC : decide ((66000 : Int) < (n2 : Int)) = false := decide_eq_false (by omega)
  have gD : decide ((1000000 : Int) < m) = false := decide_eq_false (by omega)
  clear mid hmb hck hln
  go_enter Tryz.func3, Tryz.ntmps3
  go_wp2_with (refine Loads.wpList_load_w rfl 23 (.tmp 5) rfl w.heap.size rfl 23 #[.int .i64 sp, .string ky, .string sl, .string mc, .bool es, .int .i64 wn] (0, 0) _ (K1.out) Tryz.underlying23 rfl (by kernel_rfl) ?_)
  refine (FW.out _).mono ?_
  rintro e w2 ⟨rfl, hb⟩
  have B2 := Lib.hid (B0.out.trans (hb.mono (by simp)))
  have K2 := Lib.hid (Blk.below K1.out hb (Blk.lt K1.out))
  clear hb
  replace HA := Lib.hid ((HA.out.below B2.out).more B2.out.size)
  go_wp2_with fail
  refine (PadU.both_one A2 n2 c2 l2 w2 w2.heap.size HA.out (Nat.le_refl _) (by have := NB.out; omega) _ rfl _ rfl).mono ?_
  rintro e w3 ⟨A5, c5, rfl, h5, _, hb⟩
  have HO := Lib.hid h5
  clear h5
  have B3 := Lib.hid (B2.out.trans (hb.mono B2.out.size))
  have K3 := Lib.hid (Blk.below K2.out hb (Blk.lt K2.out))
  replace HA := Lib.hid ((HA.out.below hb).more hb.size)
  clear hb K2
  go_wp2_with (refine Loads.wpList_load_w rfl 23 (.tmp 5) rfl w.heap.size rfl 23 #[.int .i64 sp, .string ky, .string sl, .string mc, .bool es, .int .i64 wn] (0, 0) _ (K3.out) Tryz.underlying23 rfl (by kernel_rfl) ?_)
  refine (seal_any sp ky sl mc es wn q HQ.out A5 n2 c5 l2 x w3 w3.heap.size HO.out (Nat.le_refl _) (by have := NB.out; omega) (HT.out.up B3.out)).mono ?_
  rintro e w4 ⟨v4, rfl, ly, hb⟩
  have L4 := Lib.hid ly
  clear ly
  have B4 := Lib.hid (B3.out.trans (hb.mono B3.out.size))
  have K4 := Lib.hid (Blk.below K3.out hb (Blk.lt K3.out))
  replace HA := Lib.hid ((HA.out.below hb).more hb.size)
  replace HO := Lib.hid ((HO.out.below hb).more hb.size)
  clear hb K3
  go_wp2_with (refine Loads.wpList_load_w rfl 23 (.tmp 5) rfl w.heap.size rfl 23 #[.int .i64 sp, .string ky, .string sl, .string mc, .bool es, .int .i64 wn] (0, 0) _ (K4.out) Tryz.underlying23 rfl (by kernel_rfl) ?_)
  refine (Esp9.seal_rany sp ky sl mc es wn q HQ.out A2 n2 c2 l2 x w4 w4.heap.size HA.out (Nat.le_refl _) (by have := NB.out; omega)).mono ?_
  rintro e w5 ⟨v5, rfl, ly, hb⟩
  have L5 := Lib.hid ly
  clear ly
  have B5 := Lib.hid (B4.out.trans (hb.mono B4.out.size))
  have K5 := Lib.hid (Blk.below K4.out hb (Blk.lt K4.out))
  replace HA := Lib.hid ((HA.out.below hb).more hb.size)
  replace HO := Lib.hid ((HO.out.below hb).more hb.size)
  replace L4 := Lib.hid (L4.out.below hb)
  clear hb K4
  generalize sealX sp ky sl mc es wn q l2 x = X at *
  generalize sealE sp ky sl mc es wn q l2.length x = er at *
  obtain ⟨XL, hXL⟩ : ∃ XL, XL = X.length := ⟨_, rfl⟩
  rw [← hXL] at L4 L5
  obtain ⟨A6, c6, rfl, h6⟩ := L4.out
  obtain ⟨A7, c7, rfl, h7⟩ := L5.out
  have H6 := Lib.hid h6
  have H7 := Lib.hid h7
  clear h6 h7 L4 L5 hXL
  go_wp2_with fail
  obtain ⟨t1, ht1⟩ : ∃ t, t = strOfNums l2 := ⟨_, rfl⟩
  obtain ⟨t2, ht2⟩ : ∃ t, t = strOfNums X := ⟨_, rfl⟩
  have UP : Hid (∀ V, Below w5.drew.heap.size w5.drew V → Below w.heap.size w V) := Lib.hid fun V hV => B5.out.trans ((Esp5.below_drewN_1 hV).mono B5.out.size)
  have CO : Hid (∀ V, Below w5.drew.heap.size w5.drew V → (convert 25 9 (.slice A5 n2 c5)).run Tryz.prog V = .ok (.string t1) V) := Lib.hid fun V hV => by
    have := run_string_bytes (HO.out.below (Esp5.below_drewN_1 hV))
    rwa [← ht1] at this
  have CA : Hid (∀ V, Below w5.drew.heap.size w5.drew V → (convert 25 9 (.slice A2 n2 c2)).run Tryz.prog V = .ok (.string t1) V) := Lib.hid fun V hV => by
    have := run_string_bytes (HA.out.below (Esp5.below_drewN_1 hV))
    rwa [← ht1] at this
  have C6 : Hid (∀ V, Below w5.drew.heap.size w5.drew V → (convert 25 9 (.slice A6 XL c6)).run Tryz.prog V = .ok (.string t2) V) := Lib.hid fun V hV => by
    have := run_string_bytes ((H6.out).below (Esp5.below_drewN_1 hV))
    rwa [← ht2] at this
  have C7 : Hid (∀ V, Below w5.drew.heap.size w5.drew V → (convert 25 9 (.slice A7 XL c7)).run Tryz.prog V = .ok (.string t2) V) := Lib.hid fun V hV => by
    have := run_string_bytes (H7.out.below (Esp5.below_drewN_1 hV))
    rwa [← ht2] at this
  obtain ⟨g, hg⟩ : ∃ g, g = w.heap.size := ⟨_, rfl⟩
  have GE := Lib.hid hg
  rw [← hg] at K5 ⊢
  have KV : Hid (∀ V, Below w5.drew.heap.size w5.drew V → Blk V g 23 #[.int .i64 sp, .string ky, .string sl, .string mc, .bool es, .int .i64 wn]) := Lib.hid fun V hV => Blk.below (Blk.drew K5.out) hV (Blk.lt K5.out)
  clear ht1 ht2 HA HO H6 H7 hg K5
  refine wp_region_freeP [0, 1, 2, 3, 4, 5, 6, 7, 8, 9, 10, 11, 12, 13, 14, 15, 16, 17, 18, 19, 20, 21, 22, 23, 24, 25, 26, 27, 28, 29, 30, 31, 32, 33, 34] 35 [] [(1, true), (8, true), (15, true), (20, true), (28, true)] (fun w1 w2 => Below w1.heap.size w1 w2) (fun k' w' v => match k' with
    | 0 => v = .bool true
    | 1 => v = .bool true
    | 2 => v = .slice A5 n2 c5
    | 3 => v = .string t1
    | 4 => v = .slice A2 n2 c2
    | 5 => v = .string t1
    | 6 => v = .bool true
    | 7 => v = .bool true
    | 8 => v = .bool true
    | 9 => v = .slice A6 XL c6
    | 10 => v = .string t2
    | 11 => v = .slice A7 XL c7
    | 12 => v = .string t2
    | 13 => v = .bool true
    | 14 => v = .bool true
    | 15 => v = .bool true
    | 16 => v = .int .i64 (er : Int)
    | 17 => v = .int .i64 (er : Int)
    | 18 => v = .bool true
    | 19 => v = .bool true
    | 20 => v = .bool true
    | 21 => v = .agg #[.int .i64 sp, .string ky, .string sl, .string mc, .bool es, .int .i64 wn]
    | 22 => v = .int .i64 ck
    | 23 => v = .bool mb
    | 24 => v = .agg #[.int .i64 sp, .string ky, .string sl, .string mc, .bool es, .int .i64 wn]
    | 25 => v = .bool mb
    | 26 => v = .bool true
    | 27 => v = .bool true
    | 28 => v = .bool true
    | 29 => v = .int .i64 m
    | 30 => v = .int .i64 (ln : Int)
    | 31 => v = .int .i64 m
    | 32 => v = .int .i64 (ln : Int)
    | 33 => v = .bool true
    | _ => v = .bool true) (by kernel_rfl) (by kernel_rfl) (fun q hq w v hv => ?_) (Below.refl _ _) (fun _ _ _ h k => h.trans (k.mono h.size)) (fun k' w1 w2 v h => match k' with
    | 0 => fun x => x
    | 1 => fun x => x
    | 2 => fun x => x
    | 3 => fun x => x
    | 4 => fun x => x
    | 5 => fun x => x
    | 6 => fun x => x
    | 7 => fun x => x
    | 8 => fun x => x
    | 9 => fun x => x
    | 10 => fun x => x
    | 11 => fun x => x
    | 12 => fun x => x
    | 13 => fun x => x
    | 14 => fun x => x
    | 15 => fun x => x
    | 16 => fun x => x
    | 17 => fun x => x
    | 18 => fun x => x
    | 19 => fun x => x
    | 20 => fun x => x
    | 21 => fun x => x
    | 22 => fun x => x
    | 23 => fun x => x
    | 24 => fun x => x
    | 25 => fun x => x
    | 26 => fun x => x
    | 27 => fun x => x
    | 28 => fun x => x
    | 29 => fun x => x
    | 30 => fun x => x
    | 31 => fun x => x
    | 32 => fun x => x
    | 33 => fun x => x
    | _ + 34 => fun x => x) (fun _ _ _ _ _ h => h) ?_ _ (by rfl) ?_
  · simp only [List.mem_cons, List.not_mem_nil, or_false] at hq
    rcases hq with rfl | rfl | rfl | rfl | rfl <;> exact hv
  · refine obs_cons (by rfl) (fun vals w' hgr hdep K hK => ?_) (obs_cons (by rfl) (fun vals w' hgr hdep K hK => ?_) (obs_cons (by rfl) (fun vals w' hgr hdep K hK => ?_) (obs_cons (by rfl) (fun vals w' hgr hdep K hK => ?_) (obs_cons (by rfl) (fun vals w' hgr hdep K hK => ?_) (obs_cons (by rfl) (fun vals w' hgr hdep K hK => ?_) (obs_cons (by rfl) (fun vals w' hgr hdep K hK => ?_) (obs_cons (by rfl) (fun vals w' hgr hdep K hK => ?_) (obs_cons (by rfl) (fun vals w' hgr hdep K hK => ?_) (obs_cons (by rfl) (fun vals w' hgr hdep K hK => ?_) (obs_cons (by rfl) (fun vals w' hgr hdep K hK => ?_) (obs_cons (by rfl) (fun vals w' hgr hdep K hK => ?_) (obs_cons (by rfl) (fun vals w' hgr hdep K hK => ?_) (obs_cons (by rfl) (fun vals w' hgr hdep K hK => ?_) (obs_cons (by rfl) (fun vals w' hgr hdep K hK => ?_) (obs_cons (by rfl) (fun vals w' hgr hdep K hK => ?_) (obs_cons (by rfl) (fun vals w' hgr hdep K hK => ?_) (obs_cons (by rfl) (fun vals w' hgr hdep K hK => ?_) (obs_cons (by rfl) (fun vals w' hgr hdep K hK => ?_) (obs_cons (by rfl) (fun vals w' hgr hdep K hK => ?_) (obs_cons (by rfl) (fun vals w' hgr hdep K hK => ?_) (obs_cons (by rfl) (fun vals w' hgr hdep K hK => ?_) (obs_cons (by rfl) (fun vals w' hgr hdep K hK => ?_) (obs_cons (by rfl) (fun vals w' hgr hdep K hK => ?_) (obs_cons (by rfl) (fun vals w' hgr hdep K hK => ?_) (obs_cons (by rfl) (fun vals w' hgr hdep K hK => ?_) (obs_cons (by rfl) (fun vals w' hgr hdep K hK => ?_) (obs_cons (by rfl) (fun vals w' hgr hdep K hK => ?_) (obs_cons (by rfl) (fun vals w' hgr hdep K hK => ?_) (obs_cons (by rfl) (fun vals w' hgr hdep K hK => ?_) (obs_cons (by rfl) (fun vals w' hgr hdep K hK => ?_) (obs_cons (by rfl) (fun vals w' hgr hdep K hK => ?_) (obs_cons (by rfl) (fun vals w' hgr hdep K hK => ?_) (obs_cons (by rfl) (fun vals w' hgr hdep K hK => ?_) (obs_cons (by rfl) (fun vals w' hgr hdep K hK => ?_) (obs_nil)))))))))))))))))))))))))))))))))))
    · exact wp_call 10 [] _ rfl ent_awake [] rfl (fun v w'' => v = .bool true ∧ Below w'.heap.size w' w'') ((EspA.awake_any w' (HT.out.up (UP.out w' hgr))).mono fun e w'' ⟨h1, h2⟩ => ⟨_, h1, rfl, h2⟩) (fun v w'' ⟨h1, h2⟩ => hK _ _ h2 h1)
    · exact wp_move (.tmp 66) rfl _ ((at_dst 0 (by kernel_rfl)).trans (hdep 0 (by simp) (by kernel_rfl))) (hK _ _ (Below.refl _ _) rfl)
    · exact wp_move (.tmp 11) rfl _ (at_out _ (by kernel_rfl) rfl) (hK _ _ (Below.refl _ _) rfl)
    · exact wp_conv (.tmp 68) rfl _ _ ((at_dst 2 (by kernel_rfl)).trans (hdep 2 (by simp) (by kernel_rfl))) (CO.out _ hgr) (hK _ _ (Below.refl _ _) rfl)
    · exact wp_move (.tmp 2) rfl _ (at_out _ (by kernel_rfl) rfl) (hK _ _ (Below.refl _ _) rfl)
    · exact wp_conv (.tmp 70) rfl _ _ ((at_dst 4 (by kernel_rfl)).trans (hdep 4 (by simp) (by kernel_rfl))) (CA.out _ hgr) (hK _ _ (Below.refl _ _) rfl)
    · exact wp_bin (.tmp 69) (.tmp 71) rfl _ _ _ ((at_dst 3 (by kernel_rfl)).trans (hdep 3 (by simp) (by kernel_rfl))) ((at_dst 5 (by kernel_rfl)).trans (hdep 5 (by simp) (by kernel_rfl))) (MacU.b_eqs _ _ _ _) (hK _ _ (Below.refl _ _) rfl)
    · exact MacU.st_pick (.tmp 67) (.tmp 72) _ rfl _ ((at_dst 1 (by kernel_rfl)).trans (hdep 1 (by simp) (by kernel_rfl))) ((at_dst 6 (by kernel_rfl)).trans (hdep 6 (by simp) (by kernel_rfl))) (hK _ _ (Below.refl _ _) rfl)
    · exact wp_move (.tmp 73) rfl _ ((at_dst 7 (by kernel_rfl)).trans (hdep 7 (by simp) (by kernel_rfl))) (hK _ _ (Below.refl _ _) rfl)
    · exact wp_move (.tmp 12) rfl _ (at_out _ (by kernel_rfl) rfl) (hK _ _ (Below.refl _ _) rfl)
    · exact wp_conv (.tmp 75) rfl _ _ ((at_dst 9 (by kernel_rfl)).trans (hdep 9 (by simp) (by kernel_rfl))) (C6.out _ hgr) (hK _ _ (Below.refl _ _) rfl)
    · exact wp_move (.tmp 14) rfl _ (at_out _ (by kernel_rfl) rfl) (hK _ _ (Below.refl _ _) rfl)
    · exact wp_conv (.tmp 77) rfl _ _ ((at_dst 11 (by kernel_rfl)).trans (hdep 11 (by simp) (by kernel_rfl))) (C7.out _ hgr) (hK _ _ (Below.refl _ _) rfl)
    · exact wp_bin (.tmp 76) (.tmp 78) rfl _ _ _ ((at_dst 10 (by kernel_rfl)).trans (hdep 10 (by simp) (by kernel_rfl))) ((at_dst 12 (by kernel_rfl)).trans (hdep 12 (by simp) (by kernel_rfl))) (MacU.b_eqs _ _ _ _) (hK _ _ (Below.refl _ _) rfl)
    · exact MacU.st_pick (.tmp 74) (.tmp 79) _ rfl _ ((at_dst 8 (by kernel_rfl)).trans (hdep 8 (by simp) (by kernel_rfl))) ((at_dst 13 (by kernel_rfl)).trans (hdep 13 (by simp) (by kernel_rfl))) (hK _ _ (Below.refl _ _) rfl)
    · exact wp_move (.tmp 80) rfl _ ((at_dst 14 (by kernel_rfl)).trans (hdep 14 (by simp) (by kernel_rfl))) (hK _ _ (Below.refl _ _) rfl)
    · exact wp_move (.tmp 13) rfl _ (at_out _ (by kernel_rfl) rfl) (hK _ _ (Below.refl _ _) rfl)
    · exact wp_move (.tmp 15) rfl _ (at_out _ (by kernel_rfl) rfl) (hK _ _ (Below.refl _ _) rfl)
    · exact wp_bin (.tmp 82) (.tmp 83) rfl _ _ _ ((at_dst 16 (by kernel_rfl)).trans (hdep 16 (by simp) (by kernel_rfl))) ((at_dst 17 (by kernel_rfl)).trans (hdep 17 (by simp) (by kernel_rfl))) (MacU.b_eqe _ _ _ _) (hK _ _ (Below.refl _ _) rfl)
    · exact MacU.st_pick (.tmp 81) (.tmp 84) _ rfl _ ((at_dst 15 (by kernel_rfl)).trans (hdep 15 (by simp) (by kernel_rfl))) ((at_dst 18 (by kernel_rfl)).trans (hdep 18 (by simp) (by kernel_rfl))) (hK _ _ (Below.refl _ _) rfl)
    · exact wp_move (.tmp 85) rfl _ ((at_dst 19 (by kernel_rfl)).trans (hdep 19 (by simp) (by kernel_rfl))) (hK _ _ (Below.refl _ _) rfl)
    · exact st_load_row 23 (.tmp 5) rfl g (at_out _ (by kernel_rfl) rfl) 23 _ (0, 0) _ (KV.out w' hgr) Tryz.underlying23 rfl (by kernel_rfl) (hK _ _ (Below.refl _ _) rfl)
    · exact wp_call 11 [.tmp 87] _ rfl ent_check [.agg #[.int .i64 sp, .string ky, .string sl, .string mc, .bool es, .int .i64 wn]] (congrArg (fun z => [z]) ((at_dst 21 (by kernel_rfl)).trans (hdep 21 (by simp) (by kernel_rfl)))) (fun v w'' => v = .int .i64 ck ∧ Below w'.heap.size w' w'') (CK.out w') (fun v w'' ⟨h1, h2⟩ => hK _ _ h2 h1)
    · exact wp_bin (.tmp 88) (.const (.int .i64 0)) rfl _ _ _ ((at_dst 22 (by kernel_rfl)).trans (hdep 22 (by simp) (by kernel_rfl))) rfl (b_eqe2 _ _ mb CM.out _ _ _) (hK _ _ (Below.refl _ _) rfl)
    · exact st_load_row 23 (.tmp 5) rfl g (at_out _ (by kernel_rfl) rfl) 23 _ (0, 0) _ (KV.out w' hgr) Tryz.underlying23 rfl (by kernel_rfl) (hK _ _ (Below.refl _ _) rfl)
    · exact wp_call 12 [.tmp 90] _ rfl ent_may [.agg #[.int .i64 sp, .string ky, .string sl, .string mc, .bool es, .int .i64 wn]] (congrArg (fun z => [z]) ((at_dst 24 (by kernel_rfl)).trans (hdep 24 (by simp) (by kernel_rfl)))) (fun v w'' => v = .bool mb ∧ Below w'.heap.size w' w'') (CY.out w') (fun v w'' ⟨h1, h2⟩ => hK _ _ h2 h1)
    · exact wp_bin (.tmp 89) (.tmp 91) rfl _ _ _ ((at_dst 23 (by kernel_rfl)).trans (hdep 23 (by simp) (by kernel_rfl))) ((at_dst 25 (by kernel_rfl)).trans (hdep 25 (by simp) (by kernel_rfl))) (MacU.b_eqb _ _ _ _) (hK _ _ (Below.refl _ _) rfl)
    · exact MacU.st_pick (.tmp 86) (.tmp 92) _ rfl _ ((at_dst 20 (by kernel_rfl)).trans (hdep 20 (by simp) (by kernel_rfl))) ((at_dst 26 (by kernel_rfl)).trans (hdep 26 (by simp) (by kernel_rfl))) (hK _ _ (Below.refl _ _) rfl)
    · exact wp_move (.tmp 93) rfl _ ((at_dst 27 (by kernel_rfl)).trans (hdep 27 (by simp) (by kernel_rfl))) (hK _ _ (Below.refl _ _) rfl)
    · exact wp_move (.tmp 4) rfl _ (at_out _ (by kernel_rfl) rfl) (hK _ _ (Below.refl _ _) rfl)
    · exact wp_call 13 [.tmp 95] _ rfl ent_len [.int .i64 m] (congrArg (fun z => [z]) ((at_dst 29 (by kernel_rfl)).trans (hdep 29 (by simp) (by kernel_rfl)))) (fun v w'' => v = .int .i64 (ln : Int) ∧ Below w'.heap.size w' w'') (CL1.out w') (fun v w'' ⟨h1, h2⟩ => hK _ _ h2 h1)
    · exact wp_move (.tmp 4) rfl _ (at_out _ (by kernel_rfl) rfl) (hK _ _ (Below.refl _ _) rfl)
    · exact wp_call 6 [.tmp 97] _ rfl ent_rlen [.int .i64 m] (congrArg (fun z => [z]) ((at_dst 31 (by kernel_rfl)).trans (hdep 31 (by simp) (by kernel_rfl)))) (fun v w'' => v = .int .i64 (ln : Int) ∧ Below w'.heap.size w' w'') (CL2.out w') (fun v w'' ⟨h1, h2⟩ => hK _ _ h2 h1)
    · exact wp_bin (.tmp 96) (.tmp 98) rfl _ _ _ ((at_dst 30 (by kernel_rfl)).trans (hdep 30 (by simp) (by kernel_rfl))) ((at_dst 32 (by kernel_rfl)).trans (hdep 32 (by simp) (by kernel_rfl))) (MacU.b_eqi _ _ _ _) (hK _ _ (Below.refl _ _) rfl)
    · exact MacU.st_pick (.tmp 94) (.tmp 99) _ rfl _ ((at_dst 28 (by kernel_rfl)).trans (hdep 28 (by simp) (by kernel_rfl))) ((at_dst 33 (by kernel_rfl)).trans (hdep 33 (by simp) (by kernel_rfl))) (hK _ _ (Below.refl _ _) rfl)
  · intro vals w' hgr hG
    have ev : vals 34 = .bool true := hG 34 (by simp)
    refine st_assign (.tmp 100) _ rfl (at_dst 34 (by kernel_rfl)) (wpAnyH_done (by kernel_rfl) ?_ _)
    have BF := Lib.hid (B5.out.trans ((Esp5.below_drewN_1 hgr).mono B5.out.size))
    clear hG hgr
    simp only [fill, dstAt, List.getElem?_cons_zero, List.getElem?_cons_succ, Option.bind_some, Act.put, List.setIfInBounds_toArray, List.set_cons_zero, List.set_cons_succ]
    rw [ev]
    clear ev
    generalize vals 0 = y0, vals 1 = y1, vals 2 = y2, vals 3 = y3, vals 4 = y4, vals 5 = y5, vals 6 = y6, vals 7 = y7, vals 8 = y8, vals 9 = y9, vals 10 = y10, vals 11 = y11, vals 12 = y12, vals 13 = y13, vals 14 = y14, vals 15 = y15, vals 16 = y16, vals 17 = y17, vals 18 = y18, vals 19 = y19, vals 20 = y20, vals 21 = y21, vals 22 = y22, vals 23 = y23, vals 24 = y24, vals 25 = y25, vals 26 = y26, vals 27 = y27, vals 28 = y28, vals 29 = y29, vals 30 = y30, vals 31 = y31, vals 32 = y32, vals 33 = y33 at *
    generalize w' = wz at *
    go_wp2_with fail
    go_ret
    exact ⟨rfl, BF.out⟩

set_option maxRecDepth 100000 in
set_option maxHeartbeats 4000000 in
theorem seals_b (sp : Int) (ky sl mc : ByteArray) (es : Bool) (wn : Int) (q : Nat) (A2 : Option Addr) (n2 c2 : Nat) (l2 : List Int) (x m : Int) (w : World) (zs : ky.size ≤ 140737488355328 ∧ sl.size ≤ 140737488355328 ∧ mc.size ≤ 140737488355328) (hq : q < 18446744073709551616) (h2 : Holds w w.heap.size A2 n2 c2 l2) (m2 : n2 ≤ 140737488355328) (mid : 65400 ≤ n2 ∧ n2 ≤ 66000 ∧ 65535 < 32 + long n2 ∧ m ≤ 1000000) (hT : Tab w) :
    Calls Tryz.prog 3 #[.agg #[.int .i64 sp, .string ky, .string sl, .string mc, .bool es, .int .i64 wn], .int .u64 (q : Int), .slice A2 n2 c2, .int .i64 x, .int .i64 m] w fun e w' => e = .returned (.bool true) ∧ Below w.heap.size w w' := by
  have HA := Lib.hid h2
  have HQ := Lib.hid hq
  have FW := Lib.hid (fun W => LawFew.few_any sp ky sl mc es wn W zs)
  have K1 := Lib.hid (Blk.new w 23 #[.int .i64 sp, .string ky, .string sl, .string mc, .bool es, .int .i64 wn])
  have B0 := Lib.hid ((Below.refl w.heap.size w).alloc (Nat.le_refl _) (.cells #[.int .i64 sp, .string ky, .string sl, .string mc, .bool es, .int .i64 wn] 23))
  have HT := Lib.hid hT
  generalize decide ((ky.size : Int) + (sl.size : Int) + (mc.size : Int) ≤ 300) = fw at *
  clear hT zs h2 m2 hq
  have NB : Hid (n2 ≤ 66000) := Lib.hid (by omega)
  obtain ⟨mb, hmb⟩ : ∃ mb, mb = may sp ky sl mc wn := ⟨_, rfl⟩
  obtain ⟨ck, hck⟩ : ∃ ck : Int, ck = if may sp ky sl mc wn then 0 else 1 := ⟨_, rfl⟩
  have CM : Hid ((ck == 0) = mb) := Lib.hid (by rw [hck, hmb]; cases may sp ky sl mc wn <;> rfl)
  have CK : Hid (∀ W, Calls Tryz.prog 11 #[.agg #[.int .i64 sp, .string ky, .string sl, .string mc, .bool es, .int .i64 wn]] W fun e w' => ∃ v, e = .returned v ∧ v = .int .i64 ck ∧ Below W.heap.size W w') := Lib.hid fun W => (Esp2.check_no sp ky sl mc es wn W).mono fun e w' ⟨h1, h2⟩ => ⟨_, h1, by rw [hck], h2⟩
  have CY : Hid (∀ W, Calls Tryz.prog 12 #[.agg #[.int .i64 sp, .string ky, .string sl, .string mc, .bool es, .int .i64 wn]] W fun e w' => ∃ v, e = .returned v ∧ v = .bool mb ∧ Below W.heap.size W w') := Lib.hid fun W => (EspR1.may_ref sp ky sl mc es wn W).mono fun e w' ⟨h1, h2⟩ => ⟨_, h1, by rw [hmb], h2⟩
  obtain ⟨ln, hln⟩ : ∃ ln, ln = lenI m := ⟨_, rfl⟩
  have CL1 : Hid (∀ W, Calls Tryz.prog 13 #[.int .i64 m] W fun e w' => ∃ v, e = .returned v ∧ v = .int .i64 (ln : Int) ∧ Below W.heap.size W w') := Lib.hid fun W => (Esp1.length_no m (by omega) W).mono fun e w' ⟨h1, h2⟩ => ⟨_, h1, by rw [hln], by rw [← h2]; exact Below.refl _ _⟩
  have CL2 : Hid (∀ W, Calls Tryz.prog 6 #[.int .i64 m] W fun e w' => ∃ v, e = .returned v ∧ v = .int .i64 (ln : Int) ∧ Below W.heap.size W w') := Lib.hid fun W => (EspR1.length_ref m (by omega) W).mono fun e w' ⟨h1, h2⟩ => ⟨_, h1, by rw [hln], by rw [← h2]; exact Below.refl _ _⟩
  cases fw
  · clear mid hmb hck hln CK CY CL1 CL2 CM
    go_enter Tryz.func3, Tryz.ntmps3
    go_wp2_with (refine Loads.wpList_load_w rfl 23 (.tmp 5) rfl w.heap.size rfl 23 #[.int .i64 sp, .string ky, .string sl, .string mc, .bool es, .int .i64 wn] (0, 0) _ (K1.out) Tryz.underlying23 rfl (by kernel_rfl) ?_)
    refine (FW.out _).mono ?_
    rintro e w2 ⟨rfl, hb⟩
    have B2 := Lib.hid (B0.out.trans (hb.mono (by simp)))
    have K2 := Lib.hid (Blk.below K1.out hb (Blk.lt K1.out))
    clear hb
    go_wp2_with fail
    go_ret
    exact ⟨rfl, B2.out⟩
  have gA : decide ((300 : Int) < (n2 : Int)) = true := decide_eq_true (by omega)
  have gB : decide ((n2 : Int) < (65400 : Int)) = false := decide_eq_false (by omega)
  have gC : decide ((66000 : Int) < (n2 : Int)) = false := decide_eq_false (by omega)
  have gD : decide ((1000000 : Int) < m) = false := decide_eq_false (by omega)
  have LE : lenI (n2 : Int) = 32 + long n2 := by unfold lenI lengthI; rw [if_neg (by omega), if_neg (by omega), Int.toNat_natCast]
  have CL := Lib.hid (fun W => EspR1.length_ref (n2 : Int) (by omega) W)
  rw [LE] at CL
  obtain ⟨L2, hL2⟩ : ∃ L2, L2 = 32 + long n2 := ⟨_, rfl⟩
  rw [← hL2] at CL mid
  have gL : decide ((L2 : Int) ≤ 65535) = false := decide_eq_false (by omega)
  clear mid hmb hck hln hL2 LE
  go_enter Tryz.func3, Tryz.ntmps3
  go_wp2_with (refine Loads.wpList_load_w rfl 23 (.tmp 5) rfl w.heap.size rfl 23 #[.int .i64 sp, .string ky, .string sl, .string mc, .bool es, .int .i64 wn] (0, 0) _ (K1.out) Tryz.underlying23 rfl (by kernel_rfl) ?_)
  refine (FW.out _).mono ?_
  rintro e w2 ⟨rfl, hb⟩
  have B2 := Lib.hid (B0.out.trans (hb.mono (by simp)))
  have K2 := Lib.hid (Blk.below K1.out hb (Blk.lt K1.out))
  clear hb
  replace HA := Lib.hid ((HA.out.below B2.out).more B2.out.size)
  go_wp2_with fail
  refine (CL.out _).mono ?_
  rintro e w2b ⟨rfl, rfl⟩
  clear CL
  go_wp2_with fail
  refine (PadU.both_one A2 n2 c2 l2 w2 w2.heap.size HA.out (Nat.le_refl _) (by have := NB.out; omega) _ rfl _ rfl).mono ?_
  rintro e w3 ⟨A5, c5, rfl, h5, _, hb⟩
  have HO := Lib.hid h5
  clear h5
  have B3 := Lib.hid (B2.out.trans (hb.mono B2.out.size))
  have K3 := Lib.hid (Blk.below K2.out hb (Blk.lt K2.out))
  replace HA := Lib.hid ((HA.out.below hb).more hb.size)
  clear hb K2
  go_wp2_with (refine Loads.wpList_load_w rfl 23 (.tmp 5) rfl w.heap.size rfl 23 #[.int .i64 sp, .string ky, .string sl, .string mc, .bool es, .int .i64 wn] (0, 0) _ (K3.out) Tryz.underlying23 rfl (by kernel_rfl) ?_)
  refine (seal_any sp ky sl mc es wn q HQ.out A5 n2 c5 l2 x w3 w3.heap.size HO.out (Nat.le_refl _) (by have := NB.out; omega) (HT.out.up B3.out)).mono ?_
  rintro e w4 ⟨v4, rfl, ly, hb⟩
  have L4 := Lib.hid ly
  clear ly
  have B4 := Lib.hid (B3.out.trans (hb.mono B3.out.size))
  have K4 := Lib.hid (Blk.below K3.out hb (Blk.lt K3.out))
  replace HA := Lib.hid ((HA.out.below hb).more hb.size)
  replace HO := Lib.hid ((HO.out.below hb).more hb.size)
  clear hb K3
  go_wp2_with (refine Loads.wpList_load_w rfl 23 (.tmp 5) rfl w.heap.size rfl 23 #[.int .i64 sp, .string ky, .string sl, .string mc, .bool es, .int .i64 wn] (0, 0) _ (K4.out) Tryz.underlying23 rfl (by kernel_rfl) ?_)
  refine (Esp9.seal_rany sp ky sl mc es wn q HQ.out A2 n2 c2 l2 x w4 w4.heap.size HA.out (Nat.le_refl _) (by have := NB.out; omega)).mono ?_
  rintro e w5 ⟨v5, rfl, ly, hb⟩
  have L5 := Lib.hid ly
  clear ly
  have B5 := Lib.hid (B4.out.trans (hb.mono B4.out.size))
  have K5 := Lib.hid (Blk.below K4.out hb (Blk.lt K4.out))
  replace HA := Lib.hid ((HA.out.below hb).more hb.size)
  replace HO := Lib.hid ((HO.out.below hb).more hb.size)
  replace L4 := Lib.hid (L4.out.below hb)
  clear hb K4
  generalize sealX sp ky sl mc es wn q l2 x = X at *
  generalize sealE sp ky sl mc es wn q l2.length x = er at *
  obtain ⟨XL, hXL⟩ : ∃ XL, XL = X.length := ⟨_, rfl⟩
  rw [← hXL] at L4 L5
  obtain ⟨A6, c6, rfl, h6⟩ := L4.out
  obtain ⟨A7, c7, rfl, h7⟩ := L5.out
  have H6 := Lib.hid h6
  have H7 := Lib.hid h7
  clear h6 h7 L4 L5 hXL
  go_wp2_with fail
  obtain ⟨t1, ht1⟩ : ∃ t, t = strOfNums l2 := ⟨_, rfl⟩
  obtain ⟨t2, ht2⟩ : ∃ t, t = strOfNums X := ⟨_, rfl⟩
  have UP : Hid (∀ V, Below w5.drew.heap.size w5.drew V → Below w.heap.size w V) := Lib.hid fun V hV => B5.out.trans ((Esp5.below_drewN_1 hV).mono B5.out.size)
  have CO : Hid (∀ V, Below w5.drew.heap.size w5.drew V → (convert 25 9 (.slice A5 n2 c5)).run Tryz.prog V = .ok (.string t1) V) := Lib.hid fun V hV => by
    have := run_string_bytes (HO.out.below (Esp5.below_drewN_1 hV))
    rwa [← ht1] at this
  have CA : Hid (∀ V, Below w5.drew.heap.size w5.drew V → (convert 25 9 (.slice A2 n2 c2)).run Tryz.prog V = .ok (.string t1) V) := Lib.hid fun V hV => by
    have := run_string_bytes (HA.out.below (Esp5.below_drewN_1 hV))
    rwa [← ht1] at this
  have C6 : Hid (∀ V, Below w5.drew.heap.size w5.drew V → (convert 25 9 (.slice A6 XL c6)).run Tryz.prog V = .ok (.string t2) V) := Lib.hid fun V hV => by
    have := run_string_bytes ((H6.out).below (Esp5.below_drewN_1 hV))
    rwa [← ht2] at this
  have C7 : Hid (∀ V, Below w5.drew.heap.size w5.drew V → (convert 25 9 (.slice A7 XL c7)).run Tryz.prog V = .ok (.string t2) V) := Lib.hid fun V hV => by
    have := run_string_bytes (H7.out.below (Esp5.below_drewN_1 hV))
    rwa [← ht2] at this
  obtain ⟨g, hg⟩ : ∃ g, g = w.heap.size := ⟨_, rfl⟩
  have GE := Lib.hid hg
  rw [← hg] at K5 ⊢
  have KV : Hid (∀ V, Below w5.drew.heap.size w5.drew V → Blk V g 23 #[.int .i64 sp, .string ky, .string sl, .string mc, .bool es, .int .i64 wn]) := Lib.hid fun V hV => Blk.below (Blk.drew K5.out) hV (Blk.lt K5.out)
  clear ht1 ht2 HA HO H6 H7 hg K5
  refine wp_region_freeP [0, 1, 2, 3, 4, 5, 6, 7, 8, 9, 10, 11, 12, 13, 14, 15, 16, 17, 18, 19, 20, 21, 22, 23, 24, 25, 26, 27, 28, 29, 30, 31, 32, 33, 34] 35 [] [(1, true), (8, true), (15, true), (20, true), (28, true)] (fun w1 w2 => Below w1.heap.size w1 w2) (fun k' w' v => match k' with
    | 0 => v = .bool true
    | 1 => v = .bool true
    | 2 => v = .slice A5 n2 c5
    | 3 => v = .string t1
    | 4 => v = .slice A2 n2 c2
    | 5 => v = .string t1
    | 6 => v = .bool true
    | 7 => v = .bool true
    | 8 => v = .bool true
    | 9 => v = .slice A6 XL c6
    | 10 => v = .string t2
    | 11 => v = .slice A7 XL c7
    | 12 => v = .string t2
    | 13 => v = .bool true
    | 14 => v = .bool true
    | 15 => v = .bool true
    | 16 => v = .int .i64 (er : Int)
    | 17 => v = .int .i64 (er : Int)
    | 18 => v = .bool true
    | 19 => v = .bool true
    | 20 => v = .bool true
    | 21 => v = .agg #[.int .i64 sp, .string ky, .string sl, .string mc, .bool es, .int .i64 wn]
    | 22 => v = .int .i64 ck
    | 23 => v = .bool mb
    | 24 => v = .agg #[.int .i64 sp, .string ky, .string sl, .string mc, .bool es, .int .i64 wn]
    | 25 => v = .bool mb
    | 26 => v = .bool true
    | 27 => v = .bool true
    | 28 => v = .bool true
    | 29 => v = .int .i64 m
    | 30 => v = .int .i64 (ln : Int)
    | 31 => v = .int .i64 m
    | 32 => v = .int .i64 (ln : Int)
    | 33 => v = .bool true
    | _ => v = .bool true) (by kernel_rfl) (by kernel_rfl) (fun q hq w v hv => ?_) (Below.refl _ _) (fun _ _ _ h k => h.trans (k.mono h.size)) (fun k' w1 w2 v h => match k' with
    | 0 => fun x => x
    | 1 => fun x => x
    | 2 => fun x => x
    | 3 => fun x => x
    | 4 => fun x => x
    | 5 => fun x => x
    | 6 => fun x => x
    | 7 => fun x => x
    | 8 => fun x => x
    | 9 => fun x => x
    | 10 => fun x => x
    | 11 => fun x => x
    | 12 => fun x => x
    | 13 => fun x => x
    | 14 => fun x => x
    | 15 => fun x => x
    | 16 => fun x => x
    | 17 => fun x => x
    | 18 => fun x => x
    | 19 => fun x => x
    | 20 => fun x => x
    | 21 => fun x => x
    | 22 => fun x => x
    | 23 => fun x => x
    | 24 => fun x => x
    | 25 => fun x => x
    | 26 => fun x => x
    | 27 => fun x => x
    | 28 => fun x => x
    | 29 => fun x => x
    | 30 => fun x => x
    | 31 => fun x => x
    | 32 => fun x => x
    | 33 => fun x => x
    | _ + 34 => fun x => x) (fun _ _ _ _ _ h => h) ?_ _ (by rfl) ?_
  · simp only [List.mem_cons, List.not_mem_nil, or_false] at hq
    rcases hq with rfl | rfl | rfl | rfl | rfl <;> exact hv
  · refine obs_cons (by rfl) (fun vals w' hgr hdep K hK => ?_) (obs_cons (by rfl) (fun vals w' hgr hdep K hK => ?_) (obs_cons (by rfl) (fun vals w' hgr hdep K hK => ?_) (obs_cons (by rfl) (fun vals w' hgr hdep K hK => ?_) (obs_cons (by rfl) (fun vals w' hgr hdep K hK => ?_) (obs_cons (by rfl) (fun vals w' hgr hdep K hK => ?_) (obs_cons (by rfl) (fun vals w' hgr hdep K hK => ?_) (obs_cons (by rfl) (fun vals w' hgr hdep K hK => ?_) (obs_cons (by rfl) (fun vals w' hgr hdep K hK => ?_) (obs_cons (by rfl) (fun vals w' hgr hdep K hK => ?_) (obs_cons (by rfl) (fun vals w' hgr hdep K hK => ?_) (obs_cons (by rfl) (fun vals w' hgr hdep K hK => ?_) (obs_cons (by rfl) (fun vals w' hgr hdep K hK => ?_) (obs_cons (by rfl) (fun vals w' hgr hdep K hK => ?_) (obs_cons (by rfl) (fun vals w' hgr hdep K hK => ?_) (obs_cons (by rfl) (fun vals w' hgr hdep K hK => ?_) (obs_cons (by rfl) (fun vals w' hgr hdep K hK => ?_) (obs_cons (by rfl) (fun vals w' hgr hdep K hK => ?_) (obs_cons (by rfl) (fun vals w' hgr hdep K hK => ?_) (obs_cons (by rfl) (fun vals w' hgr hdep K hK => ?_) (obs_cons (by rfl) (fun vals w' hgr hdep K hK => ?_) (obs_cons (by rfl) (fun vals w' hgr hdep K hK => ?_) (obs_cons (by rfl) (fun vals w' hgr hdep K hK => ?_) (obs_cons (by rfl) (fun vals w' hgr hdep K hK => ?_) (obs_cons (by rfl) (fun vals w' hgr hdep K hK => ?_) (obs_cons (by rfl) (fun vals w' hgr hdep K hK => ?_) (obs_cons (by rfl) (fun vals w' hgr hdep K hK => ?_) (obs_cons (by rfl) (fun vals w' hgr hdep K hK => ?_) (obs_cons (by rfl) (fun vals w' hgr hdep K hK => ?_) (obs_cons (by rfl) (fun vals w' hgr hdep K hK => ?_) (obs_cons (by rfl) (fun vals w' hgr hdep K hK => ?_) (obs_cons (by rfl) (fun vals w' hgr hdep K hK => ?_) (obs_cons (by rfl) (fun vals w' hgr hdep K hK => ?_) (obs_cons (by rfl) (fun vals w' hgr hdep K hK => ?_) (obs_cons (by rfl) (fun vals w' hgr hdep K hK => ?_) (obs_nil)))))))))))))))))))))))))))))))))))
    · exact wp_call 10 [] _ rfl ent_awake [] rfl (fun v w'' => v = .bool true ∧ Below w'.heap.size w' w'') ((EspA.awake_any w' (HT.out.up (UP.out w' hgr))).mono fun e w'' ⟨h1, h2⟩ => ⟨_, h1, rfl, h2⟩) (fun v w'' ⟨h1, h2⟩ => hK _ _ h2 h1)
    · exact wp_move (.tmp 66) rfl _ ((at_dst 0 (by kernel_rfl)).trans (hdep 0 (by simp) (by kernel_rfl))) (hK _ _ (Below.refl _ _) rfl)
    · exact wp_move (.tmp 11) rfl _ (at_out _ (by kernel_rfl) rfl) (hK _ _ (Below.refl _ _) rfl)
    · exact wp_conv (.tmp 68) rfl _ _ ((at_dst 2 (by kernel_rfl)).trans (hdep 2 (by simp) (by kernel_rfl))) (CO.out _ hgr) (hK _ _ (Below.refl _ _) rfl)
    · exact wp_move (.tmp 2) rfl _ (at_out _ (by kernel_rfl) rfl) (hK _ _ (Below.refl _ _) rfl)
    · exact wp_conv (.tmp 70) rfl _ _ ((at_dst 4 (by kernel_rfl)).trans (hdep 4 (by simp) (by kernel_rfl))) (CA.out _ hgr) (hK _ _ (Below.refl _ _) rfl)
    · exact wp_bin (.tmp 69) (.tmp 71) rfl _ _ _ ((at_dst 3 (by kernel_rfl)).trans (hdep 3 (by simp) (by kernel_rfl))) ((at_dst 5 (by kernel_rfl)).trans (hdep 5 (by simp) (by kernel_rfl))) (MacU.b_eqs _ _ _ _) (hK _ _ (Below.refl _ _) rfl)
    · exact MacU.st_pick (.tmp 67) (.tmp 72) _ rfl _ ((at_dst 1 (by kernel_rfl)).trans (hdep 1 (by simp) (by kernel_rfl))) ((at_dst 6 (by kernel_rfl)).trans (hdep 6 (by simp) (by kernel_rfl))) (hK _ _ (Below.refl _ _) rfl)
    · exact wp_move (.tmp 73) rfl _ ((at_dst 7 (by kernel_rfl)).trans (hdep 7 (by simp) (by kernel_rfl))) (hK _ _ (Below.refl _ _) rfl)
    · exact wp_move (.tmp 12) rfl _ (at_out _ (by kernel_rfl) rfl) (hK _ _ (Below.refl _ _) rfl)
    · exact wp_conv (.tmp 75) rfl _ _ ((at_dst 9 (by kernel_rfl)).trans (hdep 9 (by simp) (by kernel_rfl))) (C6.out _ hgr) (hK _ _ (Below.refl _ _) rfl)
    · exact wp_move (.tmp 14) rfl _ (at_out _ (by kernel_rfl) rfl) (hK _ _ (Below.refl _ _) rfl)
    · exact wp_conv (.tmp 77) rfl _ _ ((at_dst 11 (by kernel_rfl)).trans (hdep 11 (by simp) (by kernel_rfl))) (C7.out _ hgr) (hK _ _ (Below.refl _ _) rfl)
    · exact wp_bin (.tmp 76) (.tmp 78) rfl _ _ _ ((at_dst 10 (by kernel_rfl)).trans (hdep 10 (by simp) (by kernel_rfl))) ((at_dst 12 (by kernel_rfl)).trans (hdep 12 (by simp) (by kernel_rfl))) (MacU.b_eqs _ _ _ _) (hK _ _ (Below.refl _ _) rfl)
    · exact MacU.st_pick (.tmp 74) (.tmp 79) _ rfl _ ((at_dst 8 (by kernel_rfl)).trans (hdep 8 (by simp) (by kernel_rfl))) ((at_dst 13 (by kernel_rfl)).trans (hdep 13 (by simp) (by kernel_rfl))) (hK _ _ (Below.refl _ _) rfl)
    · exact wp_move (.tmp 80) rfl _ ((at_dst 14 (by kernel_rfl)).trans (hdep 14 (by simp) (by kernel_rfl))) (hK _ _ (Below.refl _ _) rfl)
    · exact wp_move (.tmp 13) rfl _ (at_out _ (by kernel_rfl) rfl) (hK _ _ (Below.refl _ _) rfl)
    · exact wp_move (.tmp 15) rfl _ (at_out _ (by kernel_rfl) rfl) (hK _ _ (Below.refl _ _) rfl)
    · exact wp_bin (.tmp 82) (.tmp 83) rfl _ _ _ ((at_dst 16 (by kernel_rfl)).trans (hdep 16 (by simp) (by kernel_rfl))) ((at_dst 17 (by kernel_rfl)).trans (hdep 17 (by simp) (by kernel_rfl))) (MacU.b_eqe _ _ _ _) (hK _ _ (Below.refl _ _) rfl)
    · exact MacU.st_pick (.tmp 81) (.tmp 84) _ rfl _ ((at_dst 15 (by kernel_rfl)).trans (hdep 15 (by simp) (by kernel_rfl))) ((at_dst 18 (by kernel_rfl)).trans (hdep 18 (by simp) (by kernel_rfl))) (hK _ _ (Below.refl _ _) rfl)
    · exact wp_move (.tmp 85) rfl _ ((at_dst 19 (by kernel_rfl)).trans (hdep 19 (by simp) (by kernel_rfl))) (hK _ _ (Below.refl _ _) rfl)
    · exact st_load_row 23 (.tmp 5) rfl g (at_out _ (by kernel_rfl) rfl) 23 _ (0, 0) _ (KV.out w' hgr) Tryz.underlying23 rfl (by kernel_rfl) (hK _ _ (Below.refl _ _) rfl)
    · exact wp_call 11 [.tmp 87] _ rfl ent_check [.agg #[.int .i64 sp, .string ky, .string sl, .string mc, .bool es, .int .i64 wn]] (congrArg (fun z => [z]) ((at_dst 21 (by kernel_rfl)).trans (hdep 21 (by simp) (by kernel_rfl)))) (fun v w'' => v = .int .i64 ck ∧ Below w'.heap.size w' w'') (CK.out w') (fun v w'' ⟨h1, h2⟩ => hK _ _ h2 h1)
    · exact wp_bin (.tmp 88) (.const (.int .i64 0)) rfl _ _ _ ((at_dst 22 (by kernel_rfl)).trans (hdep 22 (by simp) (by kernel_rfl))) rfl (b_eqe2 _ _ mb CM.out _ _ _) (hK _ _ (Below.refl _ _) rfl)
    · exact st_load_row 23 (.tmp 5) rfl g (at_out _ (by kernel_rfl) rfl) 23 _ (0, 0) _ (KV.out w' hgr) Tryz.underlying23 rfl (by kernel_rfl) (hK _ _ (Below.refl _ _) rfl)
    · exact wp_call 12 [.tmp 90] _ rfl ent_may [.agg #[.int .i64 sp, .string ky, .string sl, .string mc, .bool es, .int .i64 wn]] (congrArg (fun z => [z]) ((at_dst 24 (by kernel_rfl)).trans (hdep 24 (by simp) (by kernel_rfl)))) (fun v w'' => v = .bool mb ∧ Below w'.heap.size w' w'') (CY.out w') (fun v w'' ⟨h1, h2⟩ => hK _ _ h2 h1)
    · exact wp_bin (.tmp 89) (.tmp 91) rfl _ _ _ ((at_dst 23 (by kernel_rfl)).trans (hdep 23 (by simp) (by kernel_rfl))) ((at_dst 25 (by kernel_rfl)).trans (hdep 25 (by simp) (by kernel_rfl))) (MacU.b_eqb _ _ _ _) (hK _ _ (Below.refl _ _) rfl)
    · exact MacU.st_pick (.tmp 86) (.tmp 92) _ rfl _ ((at_dst 20 (by kernel_rfl)).trans (hdep 20 (by simp) (by kernel_rfl))) ((at_dst 26 (by kernel_rfl)).trans (hdep 26 (by simp) (by kernel_rfl))) (hK _ _ (Below.refl _ _) rfl)
    · exact wp_move (.tmp 93) rfl _ ((at_dst 27 (by kernel_rfl)).trans (hdep 27 (by simp) (by kernel_rfl))) (hK _ _ (Below.refl _ _) rfl)
    · exact wp_move (.tmp 4) rfl _ (at_out _ (by kernel_rfl) rfl) (hK _ _ (Below.refl _ _) rfl)
    · exact wp_call 13 [.tmp 95] _ rfl ent_len [.int .i64 m] (congrArg (fun z => [z]) ((at_dst 29 (by kernel_rfl)).trans (hdep 29 (by simp) (by kernel_rfl)))) (fun v w'' => v = .int .i64 (ln : Int) ∧ Below w'.heap.size w' w'') (CL1.out w') (fun v w'' ⟨h1, h2⟩ => hK _ _ h2 h1)
    · exact wp_move (.tmp 4) rfl _ (at_out _ (by kernel_rfl) rfl) (hK _ _ (Below.refl _ _) rfl)
    · exact wp_call 6 [.tmp 97] _ rfl ent_rlen [.int .i64 m] (congrArg (fun z => [z]) ((at_dst 31 (by kernel_rfl)).trans (hdep 31 (by simp) (by kernel_rfl)))) (fun v w'' => v = .int .i64 (ln : Int) ∧ Below w'.heap.size w' w'') (CL2.out w') (fun v w'' ⟨h1, h2⟩ => hK _ _ h2 h1)
    · exact wp_bin (.tmp 96) (.tmp 98) rfl _ _ _ ((at_dst 30 (by kernel_rfl)).trans (hdep 30 (by simp) (by kernel_rfl))) ((at_dst 32 (by kernel_rfl)).trans (hdep 32 (by simp) (by kernel_rfl))) (MacU.b_eqi _ _ _ _) (hK _ _ (Below.refl _ _) rfl)
    · exact MacU.st_pick (.tmp 94) (.tmp 99) _ rfl _ ((at_dst 28 (by kernel_rfl)).trans (hdep 28 (by simp) (by kernel_rfl))) ((at_dst 33 (by kernel_rfl)).trans (hdep 33 (by simp) (by kernel_rfl))) (hK _ _ (Below.refl _ _) rfl)
  · intro vals w' hgr hG
    have ev : vals 34 = .bool true := hG 34 (by simp)
    refine st_assign (.tmp 100) _ rfl (at_dst 34 (by kernel_rfl)) (wpAnyH_done (by kernel_rfl) ?_ _)
    have BF := Lib.hid (B5.out.trans ((Esp5.below_drewN_1 hgr).mono B5.out.size))
    clear hG hgr
    simp only [fill, dstAt, List.getElem?_cons_zero, List.getElem?_cons_succ, Option.bind_some, Act.put, List.setIfInBounds_toArray, List.set_cons_zero, List.set_cons_succ]
    rw [ev]
    clear ev
    generalize vals 0 = y0, vals 1 = y1, vals 2 = y2, vals 3 = y3, vals 4 = y4, vals 5 = y5, vals 6 = y6, vals 7 = y7, vals 8 = y8, vals 9 = y9, vals 10 = y10, vals 11 = y11, vals 12 = y12, vals 13 = y13, vals 14 = y14, vals 15 = y15, vals 16 = y16, vals 17 = y17, vals 18 = y18, vals 19 = y19, vals 20 = y20, vals 21 = y21, vals 22 = y22, vals 23 = y23, vals 24 = y24, vals 25 = y25, vals 26 = y26, vals 27 = y27, vals 28 = y28, vals 29 = y29, vals 30 = y30, vals 31 = y31, vals 32 = y32, vals 33 = y33 at *
    generalize w' = wz at *
    go_wp2_with fail
    go_ret
    exact ⟨rfl, BF.out⟩
theorem seals_any (sp : Int) (ky sl mc : ByteArray) (es : Bool) (wn : Int) (a1 : Int) (A2 : Option Addr) (n2 c2 : Nat) (l2 : List Int) (x m : Int) (w : World) (zs : ky.size ≤ 140737488355328 ∧ sl.size ≤ 140737488355328 ∧ mc.size ≤ 140737488355328) (xy1 : 0 ≤ a1 ∧ a1 ≤ 18446744073709551615) (h2 : Holds w w.heap.size A2 n2 c2 l2) (m2 : n2 ≤ 140737488355328) (hT : Tab w) :
    Calls Tryz.prog 3 #[.agg #[.int .i64 sp, .string ky, .string sl, .string mc, .bool es, .int .i64 wn], .int .u64 a1, .slice A2 n2 c2, .int .i64 x, .int .i64 m] w fun e w' => e = .returned (.bool true) ∧ Below w.heap.size w w' := by
  obtain ⟨q, rfl⟩ : ∃ q : Nat, a1 = (q : Int) := ⟨a1.toNat, by omega⟩
  have hq : q < 18446744073709551616 := by omega
  by_cases ret : (300 < n2 ∧ n2 < 65400) ∨ 66000 < n2 ∨ 1000000 < m ∨ (65400 ≤ n2 ∧ n2 ≤ 66000 ∧ 32 + long n2 ≤ 65535)
  · exact seals_ret sp ky sl mc es wn q A2 n2 c2 l2 x m w zs hq h2 m2 ret hT
  · by_cases a : n2 ≤ 300
    · exact seals_a sp ky sl mc es wn q A2 n2 c2 l2 x m w zs hq h2 m2 ⟨a, by omega⟩ hT
    · exact seals_b sp ky sl mc es wn q A2 n2 c2 l2 x m w zs hq h2 m2 ⟨by omega, by omega, by omega, by omega⟩ hT
end Go.Proofs.YtdnkbefpbehllaaGreatDoor.LawSeals
