/- The law EspOpens: its walk. -/
import Derived.Test.YtdnkbefpbehllaaGreatDoorM41
import Derived.Test.YtdnkbefpbehllaaGreatDoorEsp9
set_option linter.unusedVariables false
namespace Go.Proofs.YtdnkbefpbehllaaGreatDoor.LawOpens
open Go.RowKit Go.Proofs.YtdnkbefpbehllaaGreatDoor.Sums Go.Proofs.YtdnkbefpbehllaaGreatDoor.Mem Go.Proofs.YtdnkbefpbehllaaGreatDoor.Blk Go.Proofs.YtdnkbefpbehllaaGreatDoor.Bits3 Go.Proofs.YtdnkbefpbehllaaGreatDoor.Ints Go.Proofs.YtdnkbefpbehllaaGreatDoor.AesB Go.Proofs.YtdnkbefpbehllaaGreatDoor.PadR Go.Proofs.YtdnkbefpbehllaaGreatDoor.EspD Go.Proofs.YtdnkbefpbehllaaGreatDoor.CutA Go.Proofs.YtdnkbefpbehllaaGreatDoor.EspR2 Go.Proofs.YtdnkbefpbehllaaGreatDoor.Regs Go.Proofs.YtdnkbefpbehllaaGreatDoor.Free Go.Proofs.YtdnkbefpbehllaaGreatDoor.Steps Go.Proofs.YtdnkbefpbehllaaGreatDoor.Dig1 Go.Proofs.YtdnkbefpbehllaaGreatDoor.Esp7 Go.Proofs.YtdnkbefpbehllaaGreatDoor.Esp8
open Go.Proofs.YtdnkbefpbehllaaGreatDoor.EspR4 (opX opY)
open Go.Proofs.YtdnkbefpbehllaaGreatDoor.CtrD (four four_byt)

set_option maxRecDepth 100000 in
set_option maxHeartbeats 4000000 in
theorem opens_q (sp : Int) (ky sl mc : ByteArray) (es : Bool) (wn : Int) (q : Nat) (A2 : Option Addr) (n2 c2 : Nat) (l2 : List Int) (w : World) (zs : ky.size ≤ 140737488355328 ∧ sl.size ≤ 140737488355328 ∧ mc.size ≤ 140737488355328) (hq : q < 18446744073709551616) (h2 : Holds w w.heap.size A2 n2 c2 l2) (m2 : n2 ≤ 140737488355328) (hT : Tab w) :
    Calls Tryz.prog 4 #[.agg #[.int .i64 sp, .string ky, .string sl, .string mc, .bool es, .int .i64 wn], .int .u64 (q : Int), .slice A2 n2 c2] w fun e w' => e = .returned (.bool true) ∧ Below w.heap.size w w' := by
  have HA := Lib.hid h2
  have HQ := Lib.hid hq
  clear h2 m2 hq
  have FW := Lib.hid (fun W => LawFew.few_any sp ky sl mc es wn W zs)
  have K1 := Lib.hid (Blk.new w 23 #[.int .i64 sp, .string ky, .string sl, .string mc, .bool es, .int .i64 wn])
  have B0 := Lib.hid ((Below.refl w.heap.size w).alloc (Nat.le_refl _) (.cells #[.int .i64 sp, .string ky, .string sl, .string mc, .bool es, .int .i64 wn] 23))
  have HT := Lib.hid hT
  generalize decide ((ky.size : Int) + (sl.size : Int) + (mc.size : Int) ≤ 300) = fw at *
  clear hT zs
  cases fw
  · go_enter Tryz.func4, Tryz.ntmps4
    go_wp2_with (refine Loads.wpList_load_w rfl 23 (.tmp 3) rfl w.heap.size rfl 23 #[.int .i64 sp, .string ky, .string sl, .string mc, .bool es, .int .i64 wn] (0, 0) _ (K1.out) Tryz.underlying23 rfl (by kernel_rfl) ?_)
    refine (FW.out _).mono ?_
    rintro e w2 ⟨rfl, hb⟩
    have B2 := Lib.hid (B0.out.trans (hb.mono (by simp)))
    have K2 := Lib.hid (Blk.below K1.out hb (Blk.lt K1.out))
    clear hb
    go_wp2_with fail
    go_ret
    exact ⟨rfl, B2.out⟩
  by_cases big : 600 < n2
  · have g1 : decide ((600 : Int) < (n2 : Int)) = true := decide_eq_true (by omega)
    clear big
    go_enter Tryz.func4, Tryz.ntmps4
    go_wp2_with (refine Loads.wpList_load_w rfl 23 (.tmp 3) rfl w.heap.size rfl 23 #[.int .i64 sp, .string ky, .string sl, .string mc, .bool es, .int .i64 wn] (0, 0) _ (K1.out) Tryz.underlying23 rfl (by kernel_rfl) ?_)
    refine (FW.out _).mono ?_
    rintro e w2 ⟨rfl, hb⟩
    have B2 := Lib.hid (B0.out.trans (hb.mono (by simp)))
    have K2 := Lib.hid (Blk.below K1.out hb (Blk.lt K1.out))
    clear hb
    go_wp2_with fail
    go_ret
    exact ⟨rfl, B2.out⟩
  have g1 : decide ((600 : Int) < (n2 : Int)) = false := decide_eq_false (by omega)
  have NB : Hid (n2 ≤ 600) := Lib.hid (by omega)
  clear big
  go_enter Tryz.func4, Tryz.ntmps4
  go_wp2_with (refine Loads.wpList_load_w rfl 23 (.tmp 3) rfl w.heap.size rfl 23 #[.int .i64 sp, .string ky, .string sl, .string mc, .bool es, .int .i64 wn] (0, 0) _ (K1.out) Tryz.underlying23 rfl (by kernel_rfl) ?_)
  refine (FW.out _).mono ?_
  rintro e w2 ⟨rfl, hb⟩
  have B2 := Lib.hid (B0.out.trans (hb.mono (by simp)))
  have K2 := Lib.hid (Blk.below K1.out hb (Blk.lt K1.out))
  clear hb
  replace HA := Lib.hid ((HA.out.below B2.out).more B2.out.size)
  go_wp2_with fail
  refine (PadU.both_one A2 n2 c2 l2 w2 w2.heap.size HA.out (Nat.le_refl _) (by have := NB.out; omega) _ rfl _ rfl).mono ?_
  rintro e w3 ⟨A5, c5, rfl, h5, _, hb⟩
  have HO := Lib.hid h5
  clear h5
  have B3 := Lib.hid (B2.out.trans (hb.mono B2.out.size))
  have K3 := Lib.hid (Blk.below K2.out hb (Blk.lt K2.out))
  replace HA := Lib.hid ((HA.out.below hb).more hb.size)
  clear hb K2
  go_wp2_with (refine Loads.wpList_load_w rfl 23 (.tmp 3) rfl w.heap.size rfl 23 #[.int .i64 sp, .string ky, .string sl, .string mc, .bool es, .int .i64 wn] (0, 0) _ (K3.out) Tryz.underlying23 rfl (by kernel_rfl) ?_)
  refine (Esp6.open_no sp ky sl mc es wn q HQ.out A5 n2 c5 l2 w3 w3.heap.size HO.out (Nat.le_refl _) (by have := NB.out; omega) (HT.out.up B3.out)).mono ?_
  rintro e w4 ⟨v4, rfl, ly, hb⟩
  have L4 := Lib.hid ly
  clear ly
  have B4 := Lib.hid (B3.out.trans (hb.mono B3.out.size))
  have K4 := Lib.hid (Blk.below K3.out hb (Blk.lt K3.out))
  replace HA := Lib.hid ((HA.out.below hb).more hb.size)
  replace HO := Lib.hid ((HO.out.below hb).more hb.size)
  clear hb K3
  go_wp2_with (refine Loads.wpList_load_w rfl 23 (.tmp 3) rfl w.heap.size rfl 23 #[.int .i64 sp, .string ky, .string sl, .string mc, .bool es, .int .i64 wn] (0, 0) _ (K4.out) Tryz.underlying23 rfl (by kernel_rfl) ?_)
  refine (Esp9.open_rany sp ky sl mc es wn q HQ.out A2 n2 c2 l2 w4 w4.heap.size HA.out (Nat.le_refl _) (by have := NB.out; omega)).mono ?_
  rintro e w5 ⟨v5, rfl, ly, hb⟩
  have L5 := Lib.hid ly
  clear ly
  have B5 := Lib.hid (B4.out.trans (hb.mono B4.out.size))
  replace HA := Lib.hid ((HA.out.below hb).more hb.size)
  replace HO := Lib.hid ((HO.out.below hb).more hb.size)
  replace L4 := Lib.hid (L4.out.below hb)
  clear hb
  generalize opX sp ky sl mc es wn q l2 = X at *
  generalize opY sp ky sl mc es wn q l2 = y at *
  generalize openE sp ky sl mc es wn q l2 = er at *
  go_wp2_with fail
  refine (Esp2.peek_no A5 n2 c5 l2 w5 w5.heap.size HO.out).mono ?_
  rintro e w6 ⟨rfl, hb⟩
  have B6 := Lib.hid (B5.out.trans (hb.mono B5.out.size))
  replace HA := Lib.hid ((HA.out.below hb).more hb.size)
  replace HO := Lib.hid ((HO.out.below hb).more hb.size)
  replace L4 := Lib.hid (L4.out.below hb)
  replace L5 := Lib.hid (L5.out.below hb)
  clear hb
  go_wp2_with fail
  refine (peek_ref A2 n2 c2 l2 w6 w6.heap.size HA.out).mono ?_
  rintro e w7 ⟨rfl, hb⟩
  have B7 := Lib.hid (B6.out.trans (hb.mono B6.out.size))
  replace HA := Lib.hid ((HA.out.below hb).more hb.size)
  replace HO := Lib.hid ((HO.out.below hb).more hb.size)
  replace L4 := Lib.hid (L4.out.below hb)
  replace L5 := Lib.hid (L5.out.below hb)
  clear hb
  generalize peekX l2 = px at *
  generalize peekY l2 = py at *
  generalize peekE l2 = pe at *
  go_wp2_with fail
  refine (EspA.awake_any w7 (HT.out.up B7.out)).mono ?_
  rintro e w8 ⟨rfl, hb⟩
  have B8 := Lib.hid (B7.out.trans (hb.mono B7.out.size))
  replace HA := Lib.hid ((HA.out.below hb).more hb.size)
  replace HO := Lib.hid ((HO.out.below hb).more hb.size)
  replace L4 := Lib.hid (L4.out.below hb)
  replace L5 := Lib.hid (L5.out.below hb)
  clear hb
  obtain ⟨A6, c6, rfl, h6⟩ := L4.out
  obtain ⟨A7, c7, rfl, h7⟩ := L5.out
  have s1 := run_string_bytes HO.out
  have s2 := run_string_bytes HA.out
  have s3 := run_string_bytes h6
  have s4 := run_string_bytes h7
  generalize strOfNums l2 = t1 at *
  generalize strOfNums X = t2 at *
  clear h6 h7 L4 L5 HA HO NB g1
  go_wp2_with fail
  go_ret
  exact ⟨rfl, B8.out⟩
theorem opens_any (sp : Int) (ky sl mc : ByteArray) (es : Bool) (wn : Int) (a1 : Int) (A2 : Option Addr) (n2 c2 : Nat) (l2 : List Int) (w : World) (zs : ky.size ≤ 140737488355328 ∧ sl.size ≤ 140737488355328 ∧ mc.size ≤ 140737488355328) (xy1 : 0 ≤ a1 ∧ a1 ≤ 18446744073709551615) (h2 : Holds w w.heap.size A2 n2 c2 l2) (m2 : n2 ≤ 140737488355328) (hT : Tab w) :
    Calls Tryz.prog 4 #[.agg #[.int .i64 sp, .string ky, .string sl, .string mc, .bool es, .int .i64 wn], .int .u64 a1, .slice A2 n2 c2] w fun e w' => e = .returned (.bool true) ∧ Below w.heap.size w w' := by
  obtain ⟨q, rfl⟩ : ∃ q : Nat, a1 = (q : Int) := ⟨a1.toNat, by omega⟩
  exact opens_q sp ky sl mc es wn q A2 n2 c2 l2 w zs (by omega) h2 m2 hT
end Go.Proofs.YtdnkbefpbehllaaGreatDoor.LawOpens
