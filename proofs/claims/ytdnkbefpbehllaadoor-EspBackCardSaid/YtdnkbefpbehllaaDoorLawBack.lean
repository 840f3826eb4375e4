/- The law EspBack: its walk. -/
import Derived.Test.YtdnkbefpbehllaaDoorM41
set_option linter.unusedVariables false
namespace Go.Proofs.YtdnkbefpbehllaaDoor.LawBack
open Go.RowKit Go.Proofs.YtdnkbefpbehllaaDoor.Sums Go.Proofs.YtdnkbefpbehllaaDoor.Mem Go.Proofs.YtdnkbefpbehllaaDoor.Blk Go.Proofs.YtdnkbefpbehllaaDoor.Bits3 Go.Proofs.YtdnkbefpbehllaaDoor.Ints Go.Proofs.YtdnkbefpbehllaaDoor.AesB Go.Proofs.YtdnkbefpbehllaaDoor.PadR Go.Proofs.YtdnkbefpbehllaaDoor.EspD Go.Proofs.YtdnkbefpbehllaaDoor.CutA Go.Proofs.YtdnkbefpbehllaaDoor.EspR2 Go.Proofs.YtdnkbefpbehllaaDoor.Regs Go.Proofs.YtdnkbefpbehllaaDoor.Free Go.Proofs.YtdnkbefpbehllaaDoor.Steps Go.Proofs.YtdnkbefpbehllaaDoor.Dig1 Go.Proofs.YtdnkbefpbehllaaDoor.Esp7 Go.Proofs.YtdnkbefpbehllaaDoor.Esp8
open Go.Proofs.YtdnkbefpbehllaaDoor.EspR4 (opX opY)
open Go.Proofs.YtdnkbefpbehllaaDoor.CtrD (four four_byt)

set_option maxRecDepth 100000 in
set_option maxHeartbeats 4000000 in
theorem back_q (sp : Int) (ky sl mc : ByteArray) (es : Bool) (wn : Int) (q : Nat) (A2 : Option Addr) (n2 c2 : Nat) (l2 : List Int) (x : Int) (w : World) (zs : ky.size ≤ 140737488355328 ∧ sl.size ≤ 140737488355328 ∧ mc.size ≤ 140737488355328) (hq : q < 18446744073709551616) (h2 : Holds w w.heap.size A2 n2 c2 l2) (m2 : n2 ≤ 140737488355328) (hT : Tab w) :
    Calls Tryd.prog 3 #[.agg #[.int .i64 sp, .string ky, .string sl, .string mc, .bool es, .int .i64 wn], .int .u64 (q : Int), .slice A2 n2 c2, .int .i64 x] w fun e w' => e = .returned (.bool true) ∧ Below w.heap.size w w' := by
  have HA := Lib.hid h2
  have HQ := Lib.hid hq
  have HL := Lib.hid h2.1
  have HD := Lib.hid h2.2.2.2.1
  clear h2 m2 hq
  have FW := Lib.hid (fun W => LawFew.few_any sp ky sl mc es wn W zs)
  have K1 := Lib.hid (Blk.new w 23 #[.int .i64 sp, .string ky, .string sl, .string mc, .bool es, .int .i64 wn])
  have B0 := Lib.hid ((Below.refl w.heap.size w).alloc (Nat.le_refl _) (.cells #[.int .i64 sp, .string ky, .string sl, .string mc, .bool es, .int .i64 wn] 23))
  have HT := Lib.hid hT
  generalize decide ((ky.size : Int) + (sl.size : Int) + (mc.size : Int) ≤ 300) = fw at *
  clear hT zs
  cases fw
  · go_enter Tryd.func3, Tryd.ntmps3
    go_wp2_with (refine Loads.wpList_load_w rfl 23 (.tmp 4) rfl w.heap.size rfl 23 #[.int .i64 sp, .string ky, .string sl, .string mc, .bool es, .int .i64 wn] (0, 0) _ (K1.out) Tryd.underlying23 rfl (by kernel_rfl) ?_)
    refine (FW.out _).mono ?_
    rintro e w2 ⟨rfl, hb⟩
    have B2 := Lib.hid (B0.out.trans (hb.mono (by simp)))
    have K2 := Lib.hid (Blk.below K1.out hb (Blk.lt K1.out))
    clear hb
    go_wp2_with fail
    go_ret
    exact ⟨rfl, B2.out⟩
  by_cases big : 600 < n2
  · have g1 : decide ((600 : Int) < (n2 : Int)) = true := decide_eq_true (by omega)
    clear big
    go_enter Tryd.func3, Tryd.ntmps3
    go_wp2_with (refine Loads.wpList_load_w rfl 23 (.tmp 4) rfl w.heap.size rfl 23 #[.int .i64 sp, .string ky, .string sl, .string mc, .bool es, .int .i64 wn] (0, 0) _ (K1.out) Tryd.underlying23 rfl (by kernel_rfl) ?_)
    refine (FW.out _).mono ?_
    rintro e w2 ⟨rfl, hb⟩
    have B2 := Lib.hid (B0.out.trans (hb.mono (by simp)))
    have K2 := Lib.hid (Blk.below K1.out hb (Blk.lt K1.out))
    clear hb
    go_wp2_with fail
    go_ret
    exact ⟨rfl, B2.out⟩
  have g1 : decide ((600 : Int) < (n2 : Int)) = false := decide_eq_false (by omega)
  have NB : Hid (n2 ≤ 600) := Lib.hid (by omega)
  by_cases bad : (may sp ky sl mc wn && num es q) = false ∨ x < 0 ∨ 255 < x
  · have E1 : Hid (sealE sp ky sl mc es wn q l2.length x = 1) := Lib.hid (if_pos bad)
    have X1 : Hid (sealX sp ky sl mc es wn q l2 x = []) := Lib.hid (by unfold sealX; rw [E1.out, if_neg (by decide)])
    clear bad big
    go_enter Tryd.func3, Tryd.ntmps3
    go_wp2_with (refine Loads.wpList_load_w rfl 23 (.tmp 4) rfl w.heap.size rfl 23 #[.int .i64 sp, .string ky, .string sl, .string mc, .bool es, .int .i64 wn] (0, 0) _ (K1.out) Tryd.underlying23 rfl (by kernel_rfl) ?_)
    refine (FW.out _).mono ?_
    rintro e w2 ⟨rfl, hb⟩
    have B2 := Lib.hid (B0.out.trans (hb.mono (by simp)))
    have K2 := Lib.hid (Blk.below K1.out hb (Blk.lt K1.out))
    clear hb
    go_wp2_with (refine Loads.wpList_load_w rfl 23 (.tmp 4) rfl w.heap.size rfl 23 #[.int .i64 sp, .string ky, .string sl, .string mc, .bool es, .int .i64 wn] (0, 0) _ (K2.out) Tryd.underlying23 rfl (by kernel_rfl) ?_)
    refine (seal_any sp ky sl mc es wn q HQ.out A2 n2 c2 l2 x w2 w2.heap.size ((HA.out.below B2.out).more B2.out.size) (Nat.le_refl _) (by have := NB.out; omega) (HT.out.up B2.out)).mono ?_
    rw [X1.out, E1.out]
    rintro e w3 ⟨v3, rfl, ⟨A3, c3, rfl, _⟩, hb⟩
    have B3 := Lib.hid (B2.out.trans (hb.mono B2.out.size))
    clear hb
    rw [show ([] : List Int).length = 0 from rfl, show ((1 : Nat) : Int) = 1 from rfl]
    go_wp2_with fail
    refine (EspA.awake_any w3 (HT.out.up B3.out)).mono ?_
    rintro e w4 ⟨rfl, hb⟩
    have B4 := Lib.hid (B3.out.trans (hb.mono B3.out.size))
    clear hb
    go_wp2_with fail
    go_ret
    exact ⟨rfl, B4.out⟩
  have hmu : (may sp ky sl mc wn && num es q) = true := by
    cases z : (may sp ky sl mc wn && num es q) with
    | true => rfl
    | false => exact absurd (.inl z) bad
  rw [Bool.and_eq_true] at hmu
  have hx : 0 ≤ x ∧ x ≤ 255 := ⟨by omega, by omega⟩
  have E0 : sealE sp ky sl mc es wn q l2.length x = 0 := by
    unfold sealE
    rw [if_neg bad, HL.out, if_neg (by unfold long; omega)]
  have X0 : sealX sp ky sl mc es wn q l2 x = ints (sealL sp ky sl mc es wn q l2 x) := by unfold sealX; rw [E0, if_pos rfl]
  obtain ⟨m1, m2, _⟩ := may_facts hmu.1
  have OP := EspP.seal_open sp ky sl mc es wn q l2 x hmu.1 hmu.2 HD.out hx.1 hx.2
  have S1 := EspP.seal_spi sp ky sl mc es wn q l2 x (by omega) m2
  have S4 := EspP.seal_low sp ky sl mc es wn q l2 x
  have SL := EspP.seal_len sp ky sl mc es wn q l2 x
  have SE := Lib.hid (And.intro X0 E0)
  obtain ⟨S, hS⟩ : ∃ S, S = ints (sealL sp ky sl mc es wn q l2 x) := ⟨_, rfl⟩
  have SH := Lib.hid hS
  rw [← hS] at OP S1 S4 SL
  rw [HL.out] at SL
  have PX : Hid (peekX S = sp ∧ peekY S = ((loN q : Nat) : Int) ∧ peekE S = 0) := Lib.hid (by
    have n8 : ¬ S.length < 8 := by omega
    unfold peekX peekY peekE
    rw [if_neg n8, if_neg n8, if_neg n8]
    exact ⟨S1, S4, rfl⟩)
  have OX : Hid (opX sp ky sl mc es wn q S = l2 ∧ opY sp ky sl mc es wn q S = x ∧ openE sp ky sl mc es wn q S = 0) := Lib.hid (by
    unfold opX opY
    rw [OP.1, if_pos rfl, if_pos rfl]
    exact ⟨OP.2.1, OP.2.2, rfl⟩)
  have LE : lenI (n2 : Int) = 32 + long n2 := by unfold lenI lengthI; rw [if_neg (by omega), if_neg (by omega), Int.toNat_natCast]
  obtain ⟨L, hL⟩ : ∃ L, L = 32 + long n2 := ⟨_, rfl⟩
  have LN := Lib.hid (Esp1.length_no (n2 : Int) (by omega))
  rw [LE, ← hL] at LN
  rw [← hL] at SL
  have LB : Hid (L ≤ 1000) := Lib.hid (by rw [hL]; unfold long; omega)
  have SLH := Lib.hid SL
  have CK := Lib.hid (Esp2.check_no sp ky sl mc es wn)
  rw [hmu.1, if_pos rfl] at CK
  have r1 : ((q : Int)).tmod 4294967296 = ((loN q : Nat) : Int) := by rw [Int.tmod_eq_emod_of_nonneg (by omega)]; rfl
  have lb : loN q < 4294967296 := by unfold loN; omega
  generalize loN q = lw at *
  have r2 : IntKind.u64.wrap (lw : Int) = (lw : Int) := IntWalk.u64_in _ (by omega)
  clear bad hmu hx E0 X0 m1 m2 OP S1 S4 SL hS LE hL big lb
  go_enter Tryd.func3, Tryd.ntmps3
  go_wp2_with (refine Loads.wpList_load_w rfl 23 (.tmp 4) rfl w.heap.size rfl 23 #[.int .i64 sp, .string ky, .string sl, .string mc, .bool es, .int .i64 wn] (0, 0) _ (K1.out) Tryd.underlying23 rfl (by kernel_rfl) ?_)
  refine (FW.out _).mono ?_
  rintro e w2 ⟨rfl, hb⟩
  have B2 := Lib.hid (B0.out.trans (hb.mono (by simp)))
  have K2 := Lib.hid (Blk.below K1.out hb (Blk.lt K1.out))
  clear hb
  go_wp2_with (refine Loads.wpList_load_w rfl 23 (.tmp 4) rfl w.heap.size rfl 23 #[.int .i64 sp, .string ky, .string sl, .string mc, .bool es, .int .i64 wn] (0, 0) _ (K2.out) Tryd.underlying23 rfl (by kernel_rfl) ?_)
  refine (seal_any sp ky sl mc es wn q HQ.out A2 n2 c2 l2 x w2 w2.heap.size ((HA.out.below B2.out).more B2.out.size) (Nat.le_refl _) (by have := NB.out; omega) (HT.out.up B2.out)).mono ?_
  rw [SE.out.1, SE.out.2, ← SH.out]
  rintro e w3 ⟨v3, rfl, ⟨A3, c3, rfl, h3⟩, hb⟩
  rw [SLH.out] at h3 ⊢
  rw [show ((0 : Nat) : Int) = 0 from rfl]
  replace HA := Lib.hid ((HA.out.below B2.out).more B2.out.size)
  have HS := Lib.hid h3
  clear h3
  have B3 := Lib.hid (B2.out.trans (hb.mono B2.out.size))
  have K3 := Lib.hid (Blk.below K2.out hb (Blk.lt K2.out))
  replace HA := Lib.hid ((HA.out.below hb).more hb.size)
  clear hb K2
  go_wp2_with fail
  refine (Esp2.peek_no A3 L c3 S w3 w3.heap.size HS.out).mono ?_
  rw [PX.out.1, PX.out.2.1, PX.out.2.2]
  rintro e w4 ⟨rfl, hb⟩
  have B4 := Lib.hid (B3.out.trans (hb.mono B3.out.size))
  have K4 := Lib.hid (Blk.below K3.out hb (Blk.lt K3.out))
  replace HA := Lib.hid ((HA.out.below hb).more hb.size)
  replace HS := Lib.hid ((HS.out.below hb).more hb.size)
  clear hb K3
  go_wp2_with (refine Loads.wpList_load_w rfl 23 (.tmp 4) rfl w.heap.size rfl 23 #[.int .i64 sp, .string ky, .string sl, .string mc, .bool es, .int .i64 wn] (0, 0) _ (K4.out) Tryd.underlying23 rfl (by kernel_rfl) ?_)
  refine (Esp6.open_no sp ky sl mc es wn q HQ.out A3 L c3 S w4 w4.heap.size HS.out (Nat.le_refl _) (by have := LB.out; omega) (HT.out.up B4.out)).mono ?_
  rw [OX.out.1, OX.out.2.1, OX.out.2.2]
  rintro e w5 ⟨v5, rfl, ly, hb⟩
  rw [HL.out] at ly
  rw [show ((0 : Nat) : Int) = 0 from rfl]
  have L5 := Lib.hid ly
  clear ly
  have B5 := Lib.hid (B4.out.trans (hb.mono B4.out.size))
  have K5 := Lib.hid (Blk.below K4.out hb (Blk.lt K4.out))
  replace HA := Lib.hid ((HA.out.below hb).more hb.size)
  clear hb K4
  go_wp2_with fail
  refine (EspA.awake_any w5 (HT.out.up B5.out)).mono ?_
  rintro e w6 ⟨rfl, hb⟩
  have B6 := Lib.hid (B5.out.trans (hb.mono B5.out.size))
  have K6 := Lib.hid (Blk.below K5.out hb (Blk.lt K5.out))
  replace HA := Lib.hid ((HA.out.below hb).more hb.size)
  replace L5 := Lib.hid (L5.out.below hb)
  clear hb K5
  obtain ⟨A5, c5, rfl, h5⟩ := L5.out
  have H5 := Lib.hid h5
  clear h5 L5 HS
  go_wp2_with (refine Loads.wpList_load_w rfl 23 (.tmp 4) rfl w.heap.size rfl 23 #[.int .i64 sp, .string ky, .string sl, .string mc, .bool es, .int .i64 wn] (0, 0) _ (K6.out) Tryd.underlying23 rfl (by kernel_rfl) ?_)
  refine (CK.out w6).mono ?_
  rintro e w7 ⟨rfl, hb⟩
  have B7 := Lib.hid (B6.out.trans (hb.mono B6.out.size))
  have K7 := Lib.hid (Blk.below K6.out hb (Blk.lt K6.out))
  replace HA := Lib.hid ((HA.out.below hb).more hb.size)
  replace H5 := Lib.hid ((H5.out.below hb).more hb.size)
  clear hb K6
  have k0 : w7.cell? ⟨w.heap.size, 0, none⟩ = some (.int .i64 sp) := K7.out.cell 0
  have s1 := run_string_bytes H5.out
  have s2 := run_string_bytes HA.out
  generalize strOfNums l2 = t1 at *
  clear HA H5 CK NB
  go_wp2_with fail
  refine (LN.out w7).mono ?_
  rintro e w8 ⟨rfl, rfl⟩
  go_wp2_with fail
  go_ret
  exact ⟨rfl, B7.out⟩
theorem back_any (sp : Int) (ky sl mc : ByteArray) (es : Bool) (wn : Int) (a1 : Int) (A2 : Option Addr) (n2 c2 : Nat) (l2 : List Int) (x : Int) (w : World) (zs : ky.size ≤ 140737488355328 ∧ sl.size ≤ 140737488355328 ∧ mc.size ≤ 140737488355328) (xy1 : 0 ≤ a1 ∧ a1 ≤ 18446744073709551615) (h2 : Holds w w.heap.size A2 n2 c2 l2) (m2 : n2 ≤ 140737488355328) (hT : Tab w) :
    Calls Tryd.prog 3 #[.agg #[.int .i64 sp, .string ky, .string sl, .string mc, .bool es, .int .i64 wn], .int .u64 a1, .slice A2 n2 c2, .int .i64 x] w fun e w' => e = .returned (.bool true) ∧ Below w.heap.size w w' := by
  obtain ⟨q, rfl⟩ : ∃ q : Nat, a1 = (q : Int) := ⟨a1.toNat, by omega⟩
  exact back_q sp ky sl mc es wn q A2 n2 c2 l2 x w zs (by omega) h2 m2 hT
end Go.Proofs.YtdnkbefpbehllaaDoor.LawBack
