/- The law EspForged: its walk. -/
import Derived.Test.YtdnkbefpbehllaaDoorM41
set_option linter.unusedVariables false
namespace Go.Proofs.YtdnkbefpbehllaaDoor.LawForged
open Go.RowKit Go.Proofs.YtdnkbefpbehllaaDoor.Sums Go.Proofs.YtdnkbefpbehllaaDoor.Mem Go.Proofs.YtdnkbefpbehllaaDoor.Blk Go.Proofs.YtdnkbefpbehllaaDoor.Bits3 Go.Proofs.YtdnkbefpbehllaaDoor.Ints Go.Proofs.YtdnkbefpbehllaaDoor.AesB Go.Proofs.YtdnkbefpbehllaaDoor.PadR Go.Proofs.YtdnkbefpbehllaaDoor.EspD Go.Proofs.YtdnkbefpbehllaaDoor.CutA Go.Proofs.YtdnkbefpbehllaaDoor.EspR2 Go.Proofs.YtdnkbefpbehllaaDoor.Regs Go.Proofs.YtdnkbefpbehllaaDoor.Free Go.Proofs.YtdnkbefpbehllaaDoor.Steps Go.Proofs.YtdnkbefpbehllaaDoor.Dig1 Go.Proofs.YtdnkbefpbehllaaDoor.Esp7 Go.Proofs.YtdnkbefpbehllaaDoor.Esp8
open Go.Proofs.YtdnkbefpbehllaaDoor.EspR4 (opX opY)
open Go.Proofs.YtdnkbefpbehllaaDoor.CtrD (four four_byt)

theorem ent_tag : Enters Tryd.prog 14 := enters_of Tryd.func14 (by kernel_rfl) rfl
theorem st_pick_no {o : Oper} {a : Act} {w : World} {K : Act → World → Prop} {Q : Exit → Act → World → Prop} (c x y : Operand) (ho : o.op = .pick c x y) (v : Value) (hc : a.eval c = .bool false) (hy : a.eval y = v) (hK : K (a.put o.dst v) w) : Step Tryd.prog o a w K Q :=
  wp_value v (by simp [execOp, ho, hc, hy, asBool]) hK
theorem b_lss20 (E : Nat) (x y : Operand) (w : World) (h : 20 ≤ E) : (do eqGuard .lss 3 x y (.int .i64 (E : Int)) (.int .i64 20); binOp .lss 3 (.int .i64 (E : Int)) (.int .i64 20) : Sem Value).run Tryd.prog w = .ok (.bool false) w := by
  have g : decide ((E : Int) < 20) = false := decide_eq_false (by omega)
  simp [go_sem, eqGuard]
  omega
theorem holds_far {w : World} {B n c g : Nat} {A : Option Addr} {l : List Int} (h : Holds w B A n c l) (hg : B ≤ g) (i : Nat) (u : Value) : Holds (w.setCell ⟨g, i, none⟩ u) B A n c l :=
  h.keep fun b o hb => by
    have e2 := (Only.set w g i u).block b (by omega)
    simp only [World.cell?]
    rw [e2]
theorem icv_of_open (sp : Int) (ky sl mc : ByteArray) (es : Bool) (wn : Int) (q : Nat) (l : List Int) (h : openE sp ky sl mc es wn q l = 0) : may sp ky sl mc wn = true ∧ 36 ≤ l.length ∧ icvB mc es q l = true := by
  have hx : Esp2.exE sp ky sl mc es wn q l = 0 := by
    by_cases z : Esp2.exE sp ky sl mc es wn q l = 0
    · exact z
    · rw [Esp6.openE_ex sp ky sl mc es wn q l z] at h; exact h
  obtain ⟨h1, h2, h3, h4, h5⟩ := Esp6.exE_ok sp ky sl mc es wn q l hx
  refine ⟨h1, h3, ?_⟩
  cases z : icvB mc es q l with
  | true => rfl
  | false => rw [h5, if_pos z] at h; cases h

set_option maxHeartbeats 2000000 in
theorem tag_law (sp : Int) (ky sl mc : ByteArray) (es : Bool) (wn : Int) (q : Nat) (hq : q < 18446744073709551616) (A : Option Addr) (n c : Nat) (l : List Int) (w : World) (B : Nat) (h : Holds w B A n c l) (hB : B ≤ w.heap.size) (hn : n ≤ 70000) (hm : mc.size = 32) (hT : Tab w) :
    Calls Tryd.prog 14 #[.agg #[.int .i64 sp, .string ky, .string sl, .string mc, .bool es, .int .i64 wn], .int .u64 (q : Int), .slice A n c] w fun e w' => ∃ v, e = .returned v ∧ Lies w' v 16 (ints (tagL mc es q (nats l))) ∧ Below w.heap.size w w' := by
  have B0 := Lib.hid ((Below.refl w.heap.size w).alloc (Nat.le_refl _) (.cells #[.int .i64 sp, .string ky, .string sl, .string mc, .bool es, .int .i64 wn] 23))
  have B0W := B0.out
  have K0 := Blk.new w 23 #[.int .i64 sp, .string ky, .string sl, .string mc, .bool es, .int .i64 wn]
  have k4 := K0.cell 4
  cases es with
  | false =>
    have k3 := K0.cell 3
    obtain ⟨u1, v1, cv1, o1, b1⟩ := run_bytes_string (w.alloc (.cells #[.int .i64 sp, .string ky, .string sl, .string mc, .bool false, .int .i64 wn] 23)) mc (by rw [hm]; decide)
    obtain ⟨Ak, ck, rfl, hk⟩ := o1.slice
    rw [hm] at cv1 hk
    have B3 := Lib.hid (B0W.trans (b1.mono B0W.size))
    have UB : B ≤ u1.heap.size := Nat.le_trans hB B3.out.size
    have C := Lib.hid (MacU.tag_lit (w := u1) (B := u1.heap.size) (Nat.le_refl _) [⟨A, n, c, l⟩, ⟨none, 0, 0, []⟩] #[.slice A n c, .slice none 0 0] rfl
      (Both.mem2 ((h.below (B3.out.mono hB)).more UB) (Holds.nil _ _ _)) u1.heap.size 2 rfl rfl (by decide) (by decide) (by show n + (0 + 0) ≤ 900000; omega) (hT.up B3.out) Ak 32 ck (nums mc) hk (by decide) _ rfl)
    simp only [Both.flat, List.append_nil] at C
    have TE : Hid ((MacD.full (nats (nums mc)) (nats l)).take 16 = tagL mc false q (nats l)) := Lib.hid (by unfold tagL upL; simp)
    generalize MacD.full (nats (nums mc)) (nats l) = FF at *
    clear K0 b1 hk o1 h hn hm hT UB hB B0W hq
    go_enter Tryd.func14, Tryd.ntmps14
    go_wp2_with fail
    refine C.out.mono ?_
    rintro e w2 ⟨A', c', rfl, hh, hb⟩
    have H : Hid (Holds w2 w2.heap.size A' 16 c' (ints (FF.take 16))) := Lib.hid hh
    have B4 := Lib.hid (B3.out.trans (hb.mono B3.out.size))
    rw [show MacU.tgN 32 = 16 from rfl, show MacU.tgE 32 = 0 from rfl]
    clear hh hb C
    go_wp2_with fail
    go_ret
    exact ⟨_, rfl, ⟨_, _, rfl, by rw [← TE.out]; exact H.out⟩, B4.out⟩
  | true =>
    have F4 := Lib.hid (Ctr1.four_ref (hiN q) (by unfold hiN; omega))
    have hb0 : hiN q ≤ 4294967295 := by unfold hiN; omega
    have f1 : ((q : Int)).tdiv 4294967296 = (hiN q : Int) := by rw [Int.tdiv_eq_ediv_of_nonneg (by omega)]; rfl
    have TU : Hid (upL true q = four (hiN q)) := Lib.hid rfl
    have TL : Hid (∀ b, tagL mc true q b = (MacD.full (nats (nums mc)) (b ++ four (hiN q))).take 16) := Lib.hid fun b => rfl
    have HH := Lib.hid h
    have HM := Lib.hid hm
    have HN := Lib.hid hn
    have HB := Lib.hid hB
    have HT := Lib.hid hT
    generalize hiN q = hh at *
    have u1 : IntKind.u64.wrap (hh : Int) = (hh : Int) := IntWalk.u64_in _ (by omega)
    have i1 : IntKind.i64.wrap (hh : Int) = (hh : Int) := IntWalk.i64_in _ (by omega)
    have KS := Lib.hid K0
    clear K0 h hn hm hT hB B0W hq hb0
    go_enter Tryd.func14, Tryd.ntmps14
    go_wp2_with fail
    refine (F4.out _).mono ?_
    rintro e w2 ⟨A2, rfl, h2, hb⟩
    have B2 := Lib.hid (B0.out.trans (hb.mono (by simp)))
    have K2 := Blk.below KS.out hb (Blk.lt KS.out)
    have k3 := K2.cell 3
    have H2 := Lib.hid h2
    have B2W := B2.out
    clear hb h2 k4
    obtain ⟨ua, v1, cv1, o1, b1⟩ := run_bytes_string w2 mc (by rw [HM.out]; decide)
    obtain ⟨Ak, ck, rfl, hk⟩ := o1.slice
    rw [HM.out] at cv1 hk
    have B3 := Lib.hid (B2W.trans (b1.mono B2W.size))
    have UB : B ≤ ua.heap.size := Nat.le_trans HB.out B3.out.size
    have C := Lib.hid (MacU.tag_lit (w := ua) (B := ua.heap.size) (Nat.le_refl _) [⟨A, n, c, l⟩, ⟨A2, 4, 4, ints (four hh)⟩] #[.slice A n c, .slice A2 4 4] rfl
      (Both.mem2 ((HH.out.below (B3.out.mono HB.out)).more UB) ((H2.out.below b1).more b1.size)) ua.heap.size 2 rfl rfl (by decide) (by decide) (by show n + (4 + 0) ≤ 900000; have := HN.out; omega) (HT.out.up B3.out) Ak 32 ck (nums mc) hk (by decide) _ rfl)
    simp only [Both.flat, List.append_nil] at C
    have TE : Hid ((MacD.full (nats (nums mc)) (nats (l ++ ints (four hh)))).take 16 = tagL mc true q (nats l)) := Lib.hid (by rw [TL.out, EspP.nats_app, nats_ints])
    generalize MacD.full (nats (nums mc)) (nats (l ++ ints (four hh))) = FF at *
    clear K2 b1 hk o1 UB B2W TL TU
    go_wp2_with fail
    refine C.out.mono ?_
    rintro e w4 ⟨A', c', rfl, hh', hb⟩
    have H : Hid (Holds w4 w4.heap.size A' 16 c' (ints (FF.take 16))) := Lib.hid hh'
    have B4 := Lib.hid (B3.out.trans (hb.mono B3.out.size))
    rw [show MacU.tgN 32 = 16 from rfl, show MacU.tgE 32 = 0 from rfl]
    clear hh' hb C
    go_wp2_with fail
    go_ret
    exact ⟨_, rfl, ⟨_, _, rfl, by rw [← TE.out]; exact H.out⟩, B4.out⟩

/-- What a region asks that tells a row's tag: the association lies there, the tag, whether they are alike. -/
theorem fx (sp : Int) (ky sl mc : ByteArray) (es : Bool) (wn : Int) (q : Nat) (hq : q < 18446744073709551616) (b p n c E : Nat) (l : List Int) (w0 W : World) (g : Nat) (hE : E = n - 16) (h36 : 36 ≤ n) (hn : n ≤ 600) (hm : mc.size = 32) (hT : Tab w0) (BW : Below w0.heap.size w0 W) (KS : Blk W g 23 #[.int .i64 sp, .string ky, .string sl, .string mc, .bool es, .int .i64 wn]) (h : Holds W W.heap.size (some ⟨b, p, none⟩) n c l) (TT : List Nat) (hTT : TT = tagL mc es q (nats (l.take E))) (rb : Bool) (hrb : rb = icvB mc es q l) :
    ∀ V, Below W.drew.heap.size W.drew V → Blk V g 23 #[.int .i64 sp, .string ky, .string sl, .string mc, .bool es, .int .i64 wn] ∧ (Calls Tryd.prog 14 #[.agg #[.int .i64 sp, .string ky, .string sl, .string mc, .bool es, .int .i64 wn], .int .u64 (q : Int), .slice (some ⟨b, p, none⟩) E c] V fun e w' => ∃ v, e = .returned v ∧ Lies w' v 16 (ints TT) ∧ Below V.heap.size V w') ∧
      (∀ At ct, Holds V V.heap.size At 16 ct (ints TT) → Calls Tryd.prog 13 #[.slice (some (adr b p c E)) (n - E) (c - E), .slice At 16 ct] V fun e w' => ∃ v, e = .returned v ∧ v = .bool rb ∧ Below V.heap.size V w') := by
  intro V hV
  have up := Esp5.below_drewN_1 hV
  have hl := (h.below up).more up.size
  refine ⟨Blk.below (Blk.drew KS) hV (Blk.lt KS), ?_, fun At ct ht => ?_⟩
  · have := tag_law sp ky sl mc es wn q hq (some ⟨b, p, none⟩) E c (l.take E) V V.heap.size (hl.upto (by omega)) (Nat.le_refl _) (by omega) hm (hT.up (BW.trans (up.mono BW.size)))
    rw [← hTT] at this
    exact this
  · have e : endN l = E := by unfold endN; rw [h.1]; omega
    refine (Mac4.same_any (some (adr b p c E)) (n - E) (c - E) (l.drop E) At 16 ct (ints TT) V V.heap.size (cutA_rest hl (by omega)) ht (by omega) (by omega)).mono fun e' w' ⟨h1, h2⟩ => ⟨_, h1, ?_, by rw [← h2]; exact Below.refl _ _⟩
    rw [hrb, hTT]
    unfold icvB
    rw [e]

set_option maxRecDepth 100000 in
set_option maxHeartbeats 4000000 in
theorem forged_q (sp : Int) (ky sl mc : ByteArray) (es : Bool) (wn : Int) (q : Nat) (A2 : Option Addr) (n c : Nat) (l : List Int) (at_ cc : Int) (mo : Nat) (w : World) (zs : ky.size ≤ 140737488355328 ∧ sl.size ≤ 140737488355328 ∧ mc.size ≤ 140737488355328) (hq : q < 18446744073709551616) (hmo : mo < 18446744073709551616) (hc0 : 0 ≤ cc ∧ cc ≤ 255) (h2 : Holds w w.heap.size A2 n c l) (m2 : n ≤ 140737488355328) (hT : Tab w) :
    Calls Tryd.prog 4 #[.agg #[.int .i64 sp, .string ky, .string sl, .string mc, .bool es, .int .i64 wn], .int .u64 (q : Int), .slice A2 n c, .int .i64 at_, .int .u8 cc, .int .u64 (mo : Int)] w fun e w' => e = .returned (.bool true) ∧ Below w.heap.size w w' := by
  have HA := Lib.hid h2
  have HQ := Lib.hid hq
  have HMO := Lib.hid hmo
  have HCC := Lib.hid hc0
  clear h2 m2 hq hc0
  have FW := Lib.hid (fun W => LawFew.few_any sp ky sl mc es wn W zs)
  have K1 := Lib.hid (Blk.new w 23 #[.int .i64 sp, .string ky, .string sl, .string mc, .bool es, .int .i64 wn])
  have B0 := Lib.hid ((Below.refl w.heap.size w).alloc (Nat.le_refl _) (.cells #[.int .i64 sp, .string ky, .string sl, .string mc, .bool es, .int .i64 wn] 23))
  have HT := Lib.hid hT
  generalize decide ((ky.size : Int) + (sl.size : Int) + (mc.size : Int) ≤ 300) = fw at *
  clear hT zs
  cases fw
  · go_enter Tryd.func4, Tryd.ntmps4
    go_wp2_with (refine Loads.wpList_load_w rfl 23 (.tmp 6) rfl w.heap.size rfl 23 #[.int .i64 sp, .string ky, .string sl, .string mc, .bool es, .int .i64 wn] (0, 0) _ (K1.out) Tryd.underlying23 rfl (by kernel_rfl) ?_)
    refine (FW.out _).mono ?_
    rintro e w2 ⟨rfl, hb⟩
    have B2 := Lib.hid (B0.out.trans (hb.mono (by simp)))
    have K2 := Lib.hid (Blk.below K1.out hb (Blk.lt K1.out))
    clear hb
    go_wp2_with fail
    go_ret
    exact ⟨rfl, B2.out⟩
  by_cases big : 600 < n
  · have g1 : decide ((600 : Int) < (n : Int)) = true := decide_eq_true (by omega)
    clear big
    go_enter Tryd.func4, Tryd.ntmps4
    go_wp2_with (refine Loads.wpList_load_w rfl 23 (.tmp 6) rfl w.heap.size rfl 23 #[.int .i64 sp, .string ky, .string sl, .string mc, .bool es, .int .i64 wn] (0, 0) _ (K1.out) Tryd.underlying23 rfl (by kernel_rfl) ?_)
    refine (FW.out _).mono ?_
    rintro e w2 ⟨rfl, hb⟩
    have B2 := Lib.hid (B0.out.trans (hb.mono (by simp)))
    have K2 := Lib.hid (Blk.below K1.out hb (Blk.lt K1.out))
    clear hb
    go_wp2_with fail
    go_ret
    exact ⟨rfl, B2.out⟩
  have g1 : decide ((600 : Int) < (n : Int)) = false := decide_eq_false (by omega)
  have NB : Hid (n ≤ 600) := Lib.hid (by omega)
  by_cases op : ¬ openE sp ky sl mc es wn q l = 0
  · obtain ⟨ee, hee⟩ : ∃ ee, ee = openE sp ky sl mc es wn q l := ⟨_, rfl⟩
    rw [← hee] at op
    have EE := Lib.hid hee.symm
    have g4 : (((ee : Nat) : Int) != 0) = true := by simp; omega
    clear op hee big hmo
    go_enter Tryd.func4, Tryd.ntmps4
    go_wp2_with (refine Loads.wpList_load_w rfl 23 (.tmp 6) rfl w.heap.size rfl 23 #[.int .i64 sp, .string ky, .string sl, .string mc, .bool es, .int .i64 wn] (0, 0) _ (K1.out) Tryd.underlying23 rfl (by kernel_rfl) ?_)
    refine (FW.out _).mono ?_
    rintro e w2 ⟨rfl, hb⟩
    have B2 := Lib.hid (B0.out.trans (hb.mono (by simp)))
    have K2 := Lib.hid (Blk.below K1.out hb (Blk.lt K1.out))
    clear hb
    go_wp2_with (refine Loads.wpList_load_w rfl 23 (.tmp 6) rfl w.heap.size rfl 23 #[.int .i64 sp, .string ky, .string sl, .string mc, .bool es, .int .i64 wn] (0, 0) _ (K2.out) Tryd.underlying23 rfl (by kernel_rfl) ?_)
    refine (Esp6.open_no sp ky sl mc es wn q HQ.out A2 n c l w2 w2.heap.size ((HA.out.below B2.out).more B2.out.size) (Nat.le_refl _) (by have := NB.out; omega) (HT.out.up B2.out)).mono ?_
    rw [EE.out]
    rintro e w3 ⟨v3, rfl, _, hb⟩
    have B3 := Lib.hid (B2.out.trans (hb.mono B2.out.size))
    clear hb
    generalize opY sp ky sl mc es wn q l = y3 at *
    go_wp2_with fail
    refine (EspA.awake_any w3 (HT.out.up B3.out)).mono ?_
    rintro e w4 ⟨rfl, hb⟩
    have B4 := Lib.hid (B3.out.trans (hb.mono B3.out.size))
    clear hb
    go_wp2_with fail
    go_ret
    exact ⟨rfl, B4.out⟩
  replace op : openE sp ky sl mc es wn q l = 0 := Decidable.of_not_not op
  obtain ⟨hm, h36, hicv⟩ := icv_of_open sp ky sl mc es wn q l op
  have MC := Lib.hid ((may_facts hm).2.2.2.2.1)
  rw [HA.out.1] at h36
  obtain ⟨b, p, rfl, _⟩ := HA.out.2.2.2.2 (by omega)
  obtain ⟨E, hE⟩ : ∃ E, E = n - 16 := ⟨_, rfl⟩
  have HE := Lib.hid (And.intro hE (And.intro h36 True.intro))
  have EN : Hid (20 ≤ E ∧ E ≤ n) := Lib.hid ⟨by omega, by omega⟩
  have f1 : IntKind.i64.wrap ((n : Int) - 16) = (E : Int) := by rw [IntWalk.i64_in _ (by omega)]; omega
  have OP := Lib.hid op
  have IC := Lib.hid hicv
  obtain ⟨g, hg⟩ : ∃ g, g = w.heap.size := ⟨_, rfl⟩
  have GE := Lib.hid hg
  clear op hm hicv hE hg big hmo
  go_enter Tryd.func4, Tryd.ntmps4
  go_wp2_with (refine Loads.wpList_load_w rfl 23 (.tmp 6) rfl w.heap.size rfl 23 #[.int .i64 sp, .string ky, .string sl, .string mc, .bool es, .int .i64 wn] (0, 0) _ (K1.out) Tryd.underlying23 rfl (by kernel_rfl) ?_)
  refine (FW.out _).mono ?_
  rintro e w2 ⟨rfl, hb⟩
  have B2 := Lib.hid (B0.out.trans (hb.mono (by simp)))
  have K2 := Lib.hid (Blk.below K1.out hb (Blk.lt K1.out))
  clear hb
  go_wp2_with (refine Loads.wpList_load_w rfl 23 (.tmp 6) rfl w.heap.size rfl 23 #[.int .i64 sp, .string ky, .string sl, .string mc, .bool es, .int .i64 wn] (0, 0) _ (K2.out) Tryd.underlying23 rfl (by kernel_rfl) ?_)
  refine (Esp6.open_no sp ky sl mc es wn q HQ.out (some ⟨b, p, none⟩) n c l w2 w2.heap.size ((HA.out.below B2.out).more B2.out.size) (Nat.le_refl _) (by have := NB.out; omega) (HT.out.up B2.out)).mono ?_
  rw [OP.out]
  rintro e w3 ⟨v3, rfl, _, hb⟩
  replace HA := Lib.hid ((HA.out.below B2.out).more B2.out.size)
  have B3 := Lib.hid (B2.out.trans (hb.mono B2.out.size))
  have K3 := Lib.hid (Blk.below K2.out hb (Blk.lt K2.out))
  replace HA := Lib.hid ((HA.out.below hb).more hb.size)
  clear hb K2
  generalize opY sp ky sl mc es wn q l = y3 at *
  rw [show ((0 : Nat) : Int) = 0 from rfl]
  rw [← GE.out] at K3 ⊢
  go_wp2_with fail
  obtain ⟨rb, hrb⟩ : ∃ rb, rb = icvB mc es q l := ⟨_, rfl⟩
  obtain ⟨TT, hTT⟩ : ∃ TT, TT = tagL mc es q (nats (l.take E)) := ⟨_, rfl⟩
  have FX := Lib.hid (fx sp ky sl mc es wn q HQ.out b p n c E l w w3 g HE.out.1 HE.out.2.1 NB.out MC.out HT.out B3.out K3.out HA.out TT hTT rb hrb)
  have NC : Hid (n ≤ c ∧ True) := Lib.hid ⟨HA.out.2.1, trivial⟩
  have RB : Hid (rb = true) := Lib.hid (by rw [hrb]; exact IC.out)
  clear hrb hTT IC
  refine wp_region_freeP [0, 1, 2, 3, 4, 5, 6, 7, 8, 9, 10, 11, 12, 13] 14 [] [(2, false)] (fun w1 w2 => Below w1.heap.size w1 w2) (fun k' w' v => match k' with
    | 0 => v = .int .i64 ((E : Int))
    | 1 => v = .bool false
    | 2 => v = .bool false
    | 3 => v = .slice (some ⟨b, p, none⟩) n c
    | 4 => v = .int .i64 ((E : Int))
    | 5 => v = .slice (some (adr b p c E)) (n - E) (c - E)
    | 6 => v = .agg #[.int .i64 sp, .string ky, .string sl, .string mc, .bool es, .int .i64 wn]
    | 7 => v = .int .u64 (q : Int)
    | 8 => v = .slice (some ⟨b, p, none⟩) n c
    | 9 => v = .int .i64 ((E : Int))
    | 10 => v = .slice (some ⟨b, p, none⟩) E c
    | 11 => Lies w' v 16 (ints TT)
    | 12 => v = .bool rb
    | _ => v = .bool (!rb)) (by kernel_rfl) (by kernel_rfl) (fun q hq w v hv => ?_) (Below.refl _ _) (fun _ _ _ h k => h.trans (k.mono h.size)) (fun k' w1 w2 v h => match k' with
    | 0 => fun x => x
    | 1 => fun x => x
    | 2 => fun x => x
    | 3 => fun x => x
    | 4 => fun x => x
    | 5 => fun x => x
    | 6 => fun x => x
    | 7 => fun x => x
    | 8 => fun x => x
    | 9 => fun x => x
    | 10 => fun x => x
    | 11 => fun q => q.below h
    | 12 => fun x => x
    | _ + 13 => fun x => x) (fun _ _ _ _ _ h => h) ?_ _ (by rfl) ?_
  · simp only [List.mem_cons, List.not_mem_nil, or_false] at hq
    rcases hq with rfl <;> exact hv
  · refine obs_cons (by rfl) (fun vals w' hgr hdep K hK => ?_) (obs_cons (by rfl) (fun vals w' hgr hdep K hK => ?_) (obs_cons (by rfl) (fun vals w' hgr hdep K hK => ?_) (obs_cons (by rfl) (fun vals w' hgr hdep K hK => ?_) (obs_cons (by rfl) (fun vals w' hgr hdep K hK => ?_) (obs_cons (by rfl) (fun vals w' hgr hdep K hK => ?_) (obs_cons (by rfl) (fun vals w' hgr hdep K hK => ?_) (obs_cons (by rfl) (fun vals w' hgr hdep K hK => ?_) (obs_cons (by rfl) (fun vals w' hgr hdep K hK => ?_) (obs_cons (by rfl) (fun vals w' hgr hdep K hK => ?_) (obs_cons (by rfl) (fun vals w' hgr hdep K hK => ?_) (obs_cons (by rfl) (fun vals w' hgr hdep K hK => ?_) (obs_cons (by rfl) (fun vals w' hgr hdep K hK => ?_) (obs_cons (by rfl) (fun vals w' hgr hdep K hK => ?_) (obs_nil))))))))))))))
    · exact wp_move (.tmp 16) rfl _ (at_out _ (by kernel_rfl) rfl) (hK _ _ (Below.refl _ _) rfl)
    · exact wp_bin (.tmp 49) (.const (.int .i64 20)) rfl _ _ _ ((at_dst 0 (by kernel_rfl)).trans (hdep 0 (by simp) (by kernel_rfl))) rfl (b_lss20 _ _ _ _ EN.out.1) (hK _ _ (Below.refl _ _) rfl)
    · exact wp_move (.tmp 50) rfl _ ((at_dst 1 (by kernel_rfl)).trans (hdep 1 (by simp) (by kernel_rfl))) (hK _ _ (Below.refl _ _) rfl)
    · exact wp_move (.tmp 2) rfl _ (at_out _ (by kernel_rfl) rfl) (hK _ _ (Below.refl _ _) rfl)
    · exact wp_move (.tmp 16) rfl _ (at_out _ (by kernel_rfl) rfl) (hK _ _ (Below.refl _ _) rfl)
    · exact wp_slice (.tmp 52) rfl _ _ (some (.int .i64 (E : Int))) none none ((at_dst 3 (by kernel_rfl)).trans (hdep 3 (by simp) (by kernel_rfl))) (congrArg some ((at_dst 4 (by kernel_rfl)).trans (hdep 4 (by simp) (by kernel_rfl)))) rfl rfl (cutA_l b p n c E _ EN.out.2 (NC.out).1) (hK _ _ (Below.refl _ _) rfl)
    · exact st_load_row 23 (.tmp 6) rfl g (at_out _ (by kernel_rfl) rfl) 23 _ (0, 0) _ (FX.out w' hgr).1 Tryd.underlying23 rfl (by kernel_rfl) (hK _ _ (Below.refl _ _) rfl)
    · exact wp_move (.tmp 1) rfl _ (at_out _ (by kernel_rfl) rfl) (hK _ _ (Below.refl _ _) rfl)
    · exact wp_move (.tmp 2) rfl _ (at_out _ (by kernel_rfl) rfl) (hK _ _ (Below.refl _ _) rfl)
    · exact wp_move (.tmp 16) rfl _ (at_out _ (by kernel_rfl) rfl) (hK _ _ (Below.refl _ _) rfl)
    · exact wp_slice (.tmp 57) rfl _ _ none (some (.int .i64 (E : Int))) none ((at_dst 8 (by kernel_rfl)).trans (hdep 8 (by simp) (by kernel_rfl))) rfl (congrArg some ((at_dst 9 (by kernel_rfl)).trans (hdep 9 (by simp) (by kernel_rfl)))) rfl (MacU.cut_begin _ n c E EN.out.2 (NC.out).1 _) (hK _ _ (Below.refl _ _) rfl)
    · exact wp_call 14 [.tmp 55, .tmp 56, .tmp 59] _ rfl ent_tag [.agg #[.int .i64 sp, .string ky, .string sl, .string mc, .bool es, .int .i64 wn], .int .u64 (q : Int), .slice (some ⟨b, p, none⟩) E c] (EspR4.list3 ((at_dst 6 (by kernel_rfl)).trans (hdep 6 (by simp) (by kernel_rfl))) ((at_dst 7 (by kernel_rfl)).trans (hdep 7 (by simp) (by kernel_rfl))) ((at_dst 10 (by kernel_rfl)).trans (hdep 10 (by simp) (by kernel_rfl)))) (fun v w'' => Lies w'' v 16 (ints TT) ∧ Below w'.heap.size w' w'') ((FX.out w' hgr).2.1) (fun v w'' ⟨h1, h2⟩ => hK _ _ h2 h1)
    · obtain ⟨At, ct, et, ht⟩ := hdep 11 (by simp) (by kernel_rfl)
      exact wp_call 13 [.tmp 54, .tmp 60] _ rfl Esp6.ent_same [.slice (some (adr b p c E)) (n - E) (c - E), .slice At 16 ct] (list2 ((at_dst 5 (by kernel_rfl)).trans (hdep 5 (by simp) (by kernel_rfl))) ((at_dst 11 (by kernel_rfl)).trans et)) (fun v w'' => v = .bool rb ∧ Below w'.heap.size w' w'') ((FX.out w' hgr).2.2 At ct ht) (fun v w'' ⟨h1, h2⟩ => hK _ _ h2 h1)
    · exact Esp6.st_not (.tmp 61) rfl rb ((at_dst 12 (by kernel_rfl)).trans (hdep 12 (by simp) (by kernel_rfl))) (hK _ _ (Below.refl _ _) rfl)
  · intro vals w' hgr hG
    refine st_pick_no (.tmp 51) (.const (.bool true)) (.tmp 62) rfl (.bool (!rb)) ((at_dst 2 (by kernel_rfl)).trans (hG 2 (by simp))) ((at_dst 13 (by kernel_rfl)).trans (hG 13 (by simp))) (wpAnyH_done (by kernel_rfl) ?_ _)
    have B4 := Lib.hid (B3.out.trans ((Esp5.below_drewN_1 hgr).mono B3.out.size))
    have XX := Lib.hid (Esp5.below_drewN_1 hgr)
    clear hG hgr
    simp only [fill, dstAt, List.getElem?_cons_zero, List.getElem?_cons_succ, Option.bind_some, Act.put, List.setIfInBounds_toArray, List.set_cons_zero, List.set_cons_succ]
    generalize vals 0 = y0, vals 1 = y1, vals 2 = y2, vals 3 = y3, vals 4 = y4, vals 5 = y5, vals 6 = y6, vals 7 = y7, vals 8 = y8, vals 9 = y9, vals 10 = y10, vals 11 = y11, vals 12 = y12, vals 13 = y13 at *
    generalize w' = w4 at *
    rw [RB.out]
    have K4 := Lib.hid (Blk.below K3.out XX.out (Blk.lt K3.out))
    replace HA := Lib.hid ((HA.out.below XX.out).more XX.out.size)
    clear XX FX NC RB K3 B3
    generalize TT = TT2 at *
    have mB : ∀ k : Int, True := fun _ => trivial
    clear mB
    go_wp2_with fail
    refine (PadU.both_one (some ⟨b, p, none⟩) n c l w4 w4.heap.size HA.out (Nat.le_refl _) (by have := NB.out; omega) _ rfl _ rfl).mono ?_
    rintro e w4b ⟨A5, c5, rfl, _, o5, hb⟩
    obtain ⟨b5, rfl, hb5, hb5'⟩ := o5.form (by have := HE.out; omega)
    have B5a := Lib.hid (B4.out.trans (hb.mono B4.out.size))
    have K5a := Lib.hid (Blk.below K4.out hb (Blk.lt K4.out))
    have HA5 := Lib.hid (HA.out.below hb)
    have SB := Lib.hid hb.size
    have O5 := Lib.hid o5
    have B5g := Lib.hid hb5
    have GL := Lib.hid (Blk.lt K4.out)
    have BWS := Lib.hid B4.out.size
    clear hb o5 hb5 hb5' K4 B4 HA
    by_cases inr : 0 ≤ at_ ∧ at_ < (n : Int)
    · obtain ⟨k, rfl⟩ : ∃ k : Nat, at_ = (k : Int) := ⟨at_.toNat, by omega⟩
      have kn : k < n := by omega
      have g10 : decide ((0 : Int) ≤ (k : Int)) = true := decide_eq_true (by omega)
      have g11 : decide ((k : Int) < (n : Int)) = true := decide_eq_true (by omega)
      obtain ⟨uo, ho⟩ := O5.out.there k kn
      have fo := O5.out.free k kn
      have k0 : (0 : Int) ≤ (k : Int) := by omega
      have kn' : (k : Int) < (n : Int) := by omega
      have HD5 : Hid (Holds (w4b.setCell ⟨b5, k, none⟩ (.int .u8 cc)) (w4b.setCell ⟨b5, k, none⟩ (.int .u8 cc)).heap.size (some ⟨b5, 0, none⟩) n c5 (l.set k cc)) := Lib.hid (O5.out.set k cc HCC.out.1 HCC.out.2).holds
      have B5 := Lib.hid (B5a.out.setCell (p := ⟨b5, k, none⟩) (by have := B5g.out; have := BWS.out; show w.heap.size ≤ b5; omega) (.int .u8 cc))
      have K5 : Hid (Blk (w4b.setCell ⟨b5, k, none⟩ (.int .u8 cc)) g 23 #[.int .i64 sp, .string ky, .string sl, .string mc, .bool es, .int .i64 wn]) := Lib.hid (Blk.far K5a.out (by have := B5g.out; have := GL.out; show g ≠ b5; omega) _)
      have HA : Hid (Holds (w4b.setCell ⟨b5, k, none⟩ (.int .u8 cc)) (w4b.setCell ⟨b5, k, none⟩ (.int .u8 cc)).heap.size (some ⟨b, p, none⟩) n c l) := Lib.hid ((holds_far HA5.out B5g.out k (.int .u8 cc)).more (by
        have e : (w4b.setCell ⟨b5, k, none⟩ (.int .u8 cc)).heap.size = w4b.heap.size := by simp
        rw [e]; exact SB.out))
      clear inr kn HA5 O5 B5a K5a
      go_wp2_with (refine Loads.wpList_load_w rfl 23 (.tmp 6) rfl g rfl 23 #[.int .i64 sp, .string ky, .string sl, .string mc, .bool es, .int .i64 wn] (0, 0) _ (K5.out) Tryd.underlying23 rfl (by kernel_rfl) ?_)
      generalize l.set k cc = ld at *
      generalize w4b.setCell ⟨b5, k, none⟩ (.int .u8 cc) = w5 at *
      clear ho fo g10 g11 SB B5g GL BWS k0 kn'
      refine (Esp6.open_no sp ky sl mc es wn q HQ.out (some ⟨b5, 0, none⟩) n c5 ld w5 w5.heap.size HD5.out (Nat.le_refl _) (by have := NB.out; omega) (HT.out.up B5.out)).mono ?_
      rintro e w6 ⟨v6, rfl, _, hb⟩
      have B6 := Lib.hid (B5.out.trans (hb.mono B5.out.size))
      have K6 := Lib.hid (Blk.below K5.out hb (Blk.lt K5.out))
      replace HA := Lib.hid ((HA.out.below hb).more hb.size)
      replace HD5 := Lib.hid ((HD5.out.below hb).more hb.size)
      clear hb K5
      have ER := Lib.hid (fun z => (icv_of_open sp ky sl mc es wn q ld z).2.2)
      generalize opY sp ky sl mc es wn q ld = yd at *
      generalize openE sp ky sl mc es wn q ld = ed at *
      go_wp2_with fail
      obtain ⟨rb, hrb⟩ : ∃ rb, rb = icvB mc es q ld := ⟨_, rfl⟩
      obtain ⟨TT, hTT⟩ : ∃ TT, TT = tagL mc es q (nats (ld.take E)) := ⟨_, rfl⟩
      have FX := Lib.hid (fx sp ky sl mc es wn q HQ.out b5 0 n c5 E ld w w6 g HE.out.1 HE.out.2.1 NB.out MC.out HT.out B6.out K6.out HD5.out TT hTT rb hrb)
      have NC : Hid (n ≤ c5 ∧ True) := Lib.hid ⟨HD5.out.2.1, trivial⟩
      have ER2 : Hid (ed = 0 → rb = true) := Lib.hid fun z => by rw [hrb]; exact ER.out z
      clear hrb hTT HD5 ER
      refine wp_region_free [0, 1, 2, 3, 4, 5, 6, 7, 8, 9] 10 [] (fun w1 w2 => Below w1.heap.size w1 w2) (fun k' w' v => match k' with
        | 0 => v = .slice (some ⟨b5, 0, none⟩) n c5
        | 1 => v = .int .i64 ((E : Int))
        | 2 => v = .slice (some (adr b5 0 c5 E)) (n - E) (c5 - E)
        | 3 => v = .agg #[.int .i64 sp, .string ky, .string sl, .string mc, .bool es, .int .i64 wn]
        | 4 => v = .int .u64 (q : Int)
        | 5 => v = .slice (some ⟨b5, 0, none⟩) n c5
        | 6 => v = .int .i64 ((E : Int))
        | 7 => v = .slice (some ⟨b5, 0, none⟩) E c5
        | 8 => Lies w' v 16 (ints TT)
        | _ => v = .bool rb) (by kernel_rfl) (by kernel_rfl) (Below.refl _ _) (fun _ _ _ h k => h.trans (k.mono h.size)) (fun k' w1 w2 v h => match k' with
        | 0 => fun x => x
        | 1 => fun x => x
        | 2 => fun x => x
        | 3 => fun x => x
        | 4 => fun x => x
        | 5 => fun x => x
        | 6 => fun x => x
        | 7 => fun x => x
        | 8 => fun q => q.below h
        | _ + 9 => fun x => x) (fun _ _ _ _ _ h => h) ?_ _ (by rfl) ?_
      · refine obs_cons (by rfl) (fun vals w' hgr hdep K hK => ?_) (obs_cons (by rfl) (fun vals w' hgr hdep K hK => ?_) (obs_cons (by rfl) (fun vals w' hgr hdep K hK => ?_) (obs_cons (by rfl) (fun vals w' hgr hdep K hK => ?_) (obs_cons (by rfl) (fun vals w' hgr hdep K hK => ?_) (obs_cons (by rfl) (fun vals w' hgr hdep K hK => ?_) (obs_cons (by rfl) (fun vals w' hgr hdep K hK => ?_) (obs_cons (by rfl) (fun vals w' hgr hdep K hK => ?_) (obs_cons (by rfl) (fun vals w' hgr hdep K hK => ?_) (obs_cons (by rfl) (fun vals w' hgr hdep K hK => ?_) (obs_nil))))))))))
        · exact wp_move (.tmp 17) rfl _ (at_out _ (by kernel_rfl) rfl) (hK _ _ (Below.refl _ _) rfl)
        · exact wp_move (.tmp 16) rfl _ (at_out _ (by kernel_rfl) rfl) (hK _ _ (Below.refl _ _) rfl)
        · exact wp_slice (.tmp 87) rfl _ _ (some (.int .i64 (E : Int))) none none ((at_dst 0 (by kernel_rfl)).trans (hdep 0 (by simp) (by kernel_rfl))) (congrArg some ((at_dst 1 (by kernel_rfl)).trans (hdep 1 (by simp) (by kernel_rfl)))) rfl rfl (cutA_l b5 0 n c5 E _ EN.out.2 (NC.out).1) (hK _ _ (Below.refl _ _) rfl)
        · exact st_load_row 23 (.tmp 6) rfl g (at_out _ (by kernel_rfl) rfl) 23 _ (0, 0) _ (FX.out w' hgr).1 Tryd.underlying23 rfl (by kernel_rfl) (hK _ _ (Below.refl _ _) rfl)
        · exact wp_move (.tmp 1) rfl _ (at_out _ (by kernel_rfl) rfl) (hK _ _ (Below.refl _ _) rfl)
        · exact wp_move (.tmp 17) rfl _ (at_out _ (by kernel_rfl) rfl) (hK _ _ (Below.refl _ _) rfl)
        · exact wp_move (.tmp 16) rfl _ (at_out _ (by kernel_rfl) rfl) (hK _ _ (Below.refl _ _) rfl)
        · exact wp_slice (.tmp 92) rfl _ _ none (some (.int .i64 (E : Int))) none ((at_dst 5 (by kernel_rfl)).trans (hdep 5 (by simp) (by kernel_rfl))) rfl (congrArg some ((at_dst 6 (by kernel_rfl)).trans (hdep 6 (by simp) (by kernel_rfl)))) rfl (MacU.cut_begin _ n c5 E EN.out.2 (NC.out).1 _) (hK _ _ (Below.refl _ _) rfl)
        · exact wp_call 14 [.tmp 90, .tmp 91, .tmp 94] _ rfl ent_tag [.agg #[.int .i64 sp, .string ky, .string sl, .string mc, .bool es, .int .i64 wn], .int .u64 (q : Int), .slice (some ⟨b5, 0, none⟩) E c5] (EspR4.list3 ((at_dst 3 (by kernel_rfl)).trans (hdep 3 (by simp) (by kernel_rfl))) ((at_dst 4 (by kernel_rfl)).trans (hdep 4 (by simp) (by kernel_rfl))) ((at_dst 7 (by kernel_rfl)).trans (hdep 7 (by simp) (by kernel_rfl)))) (fun v w'' => Lies w'' v 16 (ints TT) ∧ Below w'.heap.size w' w'') ((FX.out w' hgr).2.1) (fun v w'' ⟨h1, h2⟩ => hK _ _ h2 h1)
        · obtain ⟨At, ct, et, ht⟩ := hdep 8 (by simp) (by kernel_rfl)
          exact wp_call 13 [.tmp 89, .tmp 95] _ rfl Esp6.ent_same [.slice (some (adr b5 0 c5 E)) (n - E) (c5 - E), .slice At 16 ct] (list2 ((at_dst 2 (by kernel_rfl)).trans (hdep 2 (by simp) (by kernel_rfl))) ((at_dst 8 (by kernel_rfl)).trans et)) (fun v w'' => v = .bool rb ∧ Below w'.heap.size w' w'') ((FX.out w' hgr).2.2 At ct ht) (fun v w'' ⟨h1, h2⟩ => hK _ _ h2 h1)
      · intro vals w' hgr hG
        refine st_assign (.tmp 96) _ rfl (at_dst 9 (by kernel_rfl)) (wpAnyH_done (by kernel_rfl) ?_ _)
        have B7 := Lib.hid (B6.out.trans ((Esp5.below_drewN_1 hgr).mono B6.out.size))
        have XX := Lib.hid (Esp5.below_drewN_1 hgr)
        have ev : vals 9 = .bool rb := hG 9 (by simp)
        clear hG hgr
        simp only [fill, dstAt, List.getElem?_cons_zero, List.getElem?_cons_succ, Option.bind_some, Act.put, List.setIfInBounds_toArray, List.set_cons_zero, List.set_cons_succ]
        rw [ev]
        clear ev
        generalize vals 0 = y0, vals 1 = y1, vals 2 = y2, vals 3 = y3, vals 4 = y4, vals 5 = y5, vals 6 = y6, vals 7 = y7, vals 8 = y8 at *
        generalize w' = w7 at *
        have K7 := Lib.hid (Blk.below K6.out XX.out (Blk.lt K6.out))
        replace HA := Lib.hid ((HA.out.below XX.out).more XX.out.size)
        have g14 : (((ed : Nat) : Int) == 0) = true ∧ rb = true ∨ (((ed : Nat) : Int) == 0) = false := by
          by_cases z : ed = 0
          · exact .inl ⟨by rw [beq_iff_eq]; omega, ER2.out z⟩
          · exact .inr (by rw [beq_eq_false_iff_ne]; omega)
        clear XX FX NC ER2 K6 B6
        generalize TT = TT0 at *
        obtain ⟨rm, hrm⟩ : ∃ rm, rm = mo % 1000 := ⟨_, rfl⟩
        have m1 : ((mo : Int)).tmod 1000 = (rm : Int) := by rw [Int.tmod_eq_emod_of_nonneg (by omega), hrm]; rfl
        have rl : rm < 1000 := by rw [hrm]; exact Nat.mod_lt _ (by decide)
        obtain ⟨ml, hml⟩ : ∃ ml, ml = 4294967296 * rm := ⟨_, rfl⟩
        have m2 : IntKind.u64.wrap (4294967296 * (rm : Int)) = (ml : Int) := by rw [IntWalk.u64_in _ (by omega)]; omega
        have m0 : IntKind.u64.wrap (rm : Int) = (rm : Int) := IntWalk.u64_in _ (by omega)
        obtain ⟨q2, hq2⟩ : ∃ q2, q2 = (q + ml) % 18446744073709551616 := ⟨_, rfl⟩
        have m3 : IntKind.u64.wrap ((q : Int) + (ml : Int)) = (q2 : Int) := by rw [IntKind.wrap_u64]; omega
        have Q2 : Hid (q2 < 18446744073709551616) := Lib.hid (by rw [hq2]; exact Nat.mod_lt _ (by decide))
        clear hrm rl hml hq2
        rcases g14 with ⟨g14, rfl⟩ | g14
        all_goals
          go_wp2_with (refine Loads.wpList_load_w rfl 23 (.tmp 6) rfl g rfl 23 #[.int .i64 sp, .string ky, .string sl, .string mc, .bool es, .int .i64 wn] (0, 0) _ (K7.out) Tryd.underlying23 rfl (by kernel_rfl) ?_)
          refine (Esp6.open_no sp ky sl mc es wn q2 Q2.out (some ⟨b, p, none⟩) n c l w7 w7.heap.size HA.out (Nat.le_refl _) (by have := NB.out; omega) (HT.out.up B7.out)).mono ?_
          rintro e w8 ⟨v8, rfl, _, hb⟩
          have B8 := Lib.hid (B7.out.trans (hb.mono B7.out.size))
          have K8 := Lib.hid (Blk.below K7.out hb (Blk.lt K7.out))
          replace HA := Lib.hid ((HA.out.below hb).more hb.size)
          clear hb g14 m1 m2 m3 m0
          have ER := Lib.hid (fun z => (icv_of_open sp ky sl mc es wn q2 l z).2.2)
          generalize opY sp ky sl mc es wn q2 l = yg at *
          generalize openE sp ky sl mc es wn q2 l = eg at *
          go_wp2_with fail
          obtain ⟨rb, hrb⟩ : ∃ rb, rb = icvB mc es q2 l := ⟨_, rfl⟩
          obtain ⟨TT, hTT⟩ : ∃ TT, TT = tagL mc es q2 (nats (l.take E)) := ⟨_, rfl⟩
          have FX := Lib.hid (fx sp ky sl mc es wn q2 Q2.out b p n c E l w w8 g HE.out.1 HE.out.2.1 NB.out MC.out HT.out B8.out K8.out HA.out TT hTT rb hrb)
          have NC : Hid (n ≤ c ∧ True) := Lib.hid ⟨HA.out.2.1, trivial⟩
          have ER2 : Hid (eg = 0 → rb = true) := Lib.hid fun z => by rw [hrb]; exact ER.out z
          clear hrb hTT HA ER
          refine wp_region_free [0, 1, 2, 3, 4, 5, 6, 7, 8, 9] 10 [] (fun w1 w2 => Below w1.heap.size w1 w2) (fun k' w' v => match k' with
            | 0 => v = .slice (some ⟨b, p, none⟩) n c
            | 1 => v = .int .i64 ((E : Int))
            | 2 => v = .slice (some (adr b p c E)) (n - E) (c - E)
            | 3 => v = .agg #[.int .i64 sp, .string ky, .string sl, .string mc, .bool es, .int .i64 wn]
            | 4 => v = .int .u64 (q2 : Int)
            | 5 => v = .slice (some ⟨b, p, none⟩) n c
            | 6 => v = .int .i64 ((E : Int))
            | 7 => v = .slice (some ⟨b, p, none⟩) E c
            | 8 => Lies w' v 16 (ints TT)
            | _ => v = .bool rb) (by kernel_rfl) (by kernel_rfl) (Below.refl _ _) (fun _ _ _ h k => h.trans (k.mono h.size)) (fun k' w1 w2 v h => match k' with
            | 0 => fun x => x
            | 1 => fun x => x
            | 2 => fun x => x
            | 3 => fun x => x
            | 4 => fun x => x
            | 5 => fun x => x
            | 6 => fun x => x
            | 7 => fun x => x
            | 8 => fun q => q.below h
            | _ + 9 => fun x => x) (fun _ _ _ _ _ h => h) ?_ _ (by rfl) ?_
          · refine obs_cons (by rfl) (fun vals w' hgr hdep K hK => ?_) (obs_cons (by rfl) (fun vals w' hgr hdep K hK => ?_) (obs_cons (by rfl) (fun vals w' hgr hdep K hK => ?_) (obs_cons (by rfl) (fun vals w' hgr hdep K hK => ?_) (obs_cons (by rfl) (fun vals w' hgr hdep K hK => ?_) (obs_cons (by rfl) (fun vals w' hgr hdep K hK => ?_) (obs_cons (by rfl) (fun vals w' hgr hdep K hK => ?_) (obs_cons (by rfl) (fun vals w' hgr hdep K hK => ?_) (obs_cons (by rfl) (fun vals w' hgr hdep K hK => ?_) (obs_cons (by rfl) (fun vals w' hgr hdep K hK => ?_) (obs_nil))))))))))
            · exact wp_move (.tmp 2) rfl _ (at_out _ (by kernel_rfl) rfl) (hK _ _ (Below.refl _ _) rfl)
            · exact wp_move (.tmp 16) rfl _ (at_out _ (by kernel_rfl) rfl) (hK _ _ (Below.refl _ _) rfl)
            · exact wp_slice (.tmp 116) rfl _ _ (some (.int .i64 (E : Int))) none none ((at_dst 0 (by kernel_rfl)).trans (hdep 0 (by simp) (by kernel_rfl))) (congrArg some ((at_dst 1 (by kernel_rfl)).trans (hdep 1 (by simp) (by kernel_rfl)))) rfl rfl (cutA_l b p n c E _ EN.out.2 (NC.out).1) (hK _ _ (Below.refl _ _) rfl)
            · exact st_load_row 23 (.tmp 6) rfl g (at_out _ (by kernel_rfl) rfl) 23 _ (0, 0) _ (FX.out w' hgr).1 Tryd.underlying23 rfl (by kernel_rfl) (hK _ _ (Below.refl _ _) rfl)
            · exact wp_move (.tmp 22) rfl _ (at_out _ (by kernel_rfl) rfl) (hK _ _ (Below.refl _ _) rfl)
            · exact wp_move (.tmp 2) rfl _ (at_out _ (by kernel_rfl) rfl) (hK _ _ (Below.refl _ _) rfl)
            · exact wp_move (.tmp 16) rfl _ (at_out _ (by kernel_rfl) rfl) (hK _ _ (Below.refl _ _) rfl)
            · exact wp_slice (.tmp 121) rfl _ _ none (some (.int .i64 (E : Int))) none ((at_dst 5 (by kernel_rfl)).trans (hdep 5 (by simp) (by kernel_rfl))) rfl (congrArg some ((at_dst 6 (by kernel_rfl)).trans (hdep 6 (by simp) (by kernel_rfl)))) rfl (MacU.cut_begin _ n c E EN.out.2 (NC.out).1 _) (hK _ _ (Below.refl _ _) rfl)
            · exact wp_call 14 [.tmp 119, .tmp 120, .tmp 123] _ rfl ent_tag [.agg #[.int .i64 sp, .string ky, .string sl, .string mc, .bool es, .int .i64 wn], .int .u64 (q2 : Int), .slice (some ⟨b, p, none⟩) E c] (EspR4.list3 ((at_dst 3 (by kernel_rfl)).trans (hdep 3 (by simp) (by kernel_rfl))) ((at_dst 4 (by kernel_rfl)).trans (hdep 4 (by simp) (by kernel_rfl))) ((at_dst 7 (by kernel_rfl)).trans (hdep 7 (by simp) (by kernel_rfl)))) (fun v w'' => Lies w'' v 16 (ints TT) ∧ Below w'.heap.size w' w'') ((FX.out w' hgr).2.1) (fun v w'' ⟨h1, h2⟩ => hK _ _ h2 h1)
            · obtain ⟨At, ct, et, ht⟩ := hdep 8 (by simp) (by kernel_rfl)
              exact wp_call 13 [.tmp 118, .tmp 124] _ rfl Esp6.ent_same [.slice (some (adr b p c E)) (n - E) (c - E), .slice At 16 ct] (list2 ((at_dst 2 (by kernel_rfl)).trans (hdep 2 (by simp) (by kernel_rfl))) ((at_dst 8 (by kernel_rfl)).trans et)) (fun v w'' => v = .bool rb ∧ Below w'.heap.size w' w'') ((FX.out w' hgr).2.2 At ct ht) (fun v w'' ⟨h1, h2⟩ => hK _ _ h2 h1)
          · intro vals w' hgr hG
            refine st_assign (.tmp 125) _ rfl (at_dst 9 (by kernel_rfl)) (wpAnyH_done (by kernel_rfl) ?_ _)
            have B9 := Lib.hid (B8.out.trans ((Esp5.below_drewN_1 hgr).mono B8.out.size))
            have XX := Lib.hid (Esp5.below_drewN_1 hgr)
            have ev : vals 9 = .bool rb := hG 9 (by simp)
            clear hG hgr
            simp only [fill, dstAt, List.getElem?_cons_zero, List.getElem?_cons_succ, Option.bind_some, Act.put, List.setIfInBounds_toArray, List.set_cons_zero, List.set_cons_succ]
            rw [ev]
            clear ev
            generalize vals 0 = y0, vals 1 = y1, vals 2 = y2, vals 3 = y3, vals 4 = y4, vals 5 = y5, vals 6 = y6, vals 7 = y7, vals 8 = y8 at *
            generalize w' = w9 at *
            have g19 : (((eg : Nat) : Int) != 0) = false ∧ rb = true ∨ (((eg : Nat) : Int) != 0) = true := by
              by_cases z : eg = 0
              · exact .inl ⟨by simp [z], ER2.out z⟩
              · exact .inr (by simp [z])
            clear XX FX NC ER2
            generalize TT = TT1 at *
            rcases g19 with ⟨g19, rfl⟩ | g19
            all_goals
              go_wp2_with fail
              refine (EspA.awake_any w9 (HT.out.up B9.out)).mono ?_
              rintro e w10 ⟨rfl, hb⟩
              have B10 := Lib.hid (B9.out.trans (hb.mono B9.out.size))
              clear hb
              go_wp2_with fail
              go_ret
              exact ⟨rfl, B10.out⟩
    · have g10 : decide ((0 : Int) ≤ at_) = false ∨ (decide ((0 : Int) ≤ at_) = true ∧ decide (at_ < (n : Int)) = false) := by
        by_cases z : 0 ≤ at_
        · exact .inr ⟨decide_eq_true z, decide_eq_false (by omega)⟩
        · exact .inl (decide_eq_false z)
      have B5 := B5a
      have K5 := K5a
      have HA := Lib.hid (HA5.out.more SB.out)
      have HD5' : Hid (Holds w4b w4b.heap.size (some ⟨b5, 0, none⟩) n c5 l) := Lib.hid O5.out.holds
      obtain ⟨ld, hld⟩ : ∃ ld, ld = l := ⟨_, rfl⟩
      have HD5 : Hid (Holds w4b w4b.heap.size (some ⟨b5, 0, none⟩) n c5 ld) := Lib.hid (by rw [hld]; exact HD5'.out)
      clear HD5' hld inr HA5 O5 B5a K5a SB B5g GL BWS
      generalize w4b = w5 at *
      rcases g10 with g10 | ⟨g10, g11⟩
      · go_wp2_with (refine Loads.wpList_load_w rfl 23 (.tmp 6) rfl g rfl 23 #[.int .i64 sp, .string ky, .string sl, .string mc, .bool es, .int .i64 wn] (0, 0) _ (K5.out) Tryd.underlying23 rfl (by kernel_rfl) ?_)
        clear g10
        refine (Esp6.open_no sp ky sl mc es wn q HQ.out (some ⟨b5, 0, none⟩) n c5 ld w5 w5.heap.size HD5.out (Nat.le_refl _) (by have := NB.out; omega) (HT.out.up B5.out)).mono ?_
        rintro e w6 ⟨v6, rfl, _, hb⟩
        have B6 := Lib.hid (B5.out.trans (hb.mono B5.out.size))
        have K6 := Lib.hid (Blk.below K5.out hb (Blk.lt K5.out))
        replace HA := Lib.hid ((HA.out.below hb).more hb.size)
        replace HD5 := Lib.hid ((HD5.out.below hb).more hb.size)
        clear hb K5
        have ER := Lib.hid (fun z => (icv_of_open sp ky sl mc es wn q ld z).2.2)
        generalize opY sp ky sl mc es wn q ld = yd at *
        generalize openE sp ky sl mc es wn q ld = ed at *
        go_wp2_with fail
        obtain ⟨rb, hrb⟩ : ∃ rb, rb = icvB mc es q ld := ⟨_, rfl⟩
        obtain ⟨TT, hTT⟩ : ∃ TT, TT = tagL mc es q (nats (ld.take E)) := ⟨_, rfl⟩
        have FX := Lib.hid (fx sp ky sl mc es wn q HQ.out b5 0 n c5 E ld w w6 g HE.out.1 HE.out.2.1 NB.out MC.out HT.out B6.out K6.out HD5.out TT hTT rb hrb)
        have NC : Hid (n ≤ c5 ∧ True) := Lib.hid ⟨HD5.out.2.1, trivial⟩
        have ER2 : Hid (ed = 0 → rb = true) := Lib.hid fun z => by rw [hrb]; exact ER.out z
        clear hrb hTT HD5 ER
        refine wp_region_free [0, 1, 2, 3, 4, 5, 6, 7, 8, 9] 10 [] (fun w1 w2 => Below w1.heap.size w1 w2) (fun k' w' v => match k' with
          | 0 => v = .slice (some ⟨b5, 0, none⟩) n c5
          | 1 => v = .int .i64 ((E : Int))
          | 2 => v = .slice (some (adr b5 0 c5 E)) (n - E) (c5 - E)
          | 3 => v = .agg #[.int .i64 sp, .string ky, .string sl, .string mc, .bool es, .int .i64 wn]
          | 4 => v = .int .u64 (q : Int)
          | 5 => v = .slice (some ⟨b5, 0, none⟩) n c5
          | 6 => v = .int .i64 ((E : Int))
          | 7 => v = .slice (some ⟨b5, 0, none⟩) E c5
          | 8 => Lies w' v 16 (ints TT)
          | _ => v = .bool rb) (by kernel_rfl) (by kernel_rfl) (Below.refl _ _) (fun _ _ _ h k => h.trans (k.mono h.size)) (fun k' w1 w2 v h => match k' with
          | 0 => fun x => x
          | 1 => fun x => x
          | 2 => fun x => x
          | 3 => fun x => x
          | 4 => fun x => x
          | 5 => fun x => x
          | 6 => fun x => x
          | 7 => fun x => x
          | 8 => fun q => q.below h
          | _ + 9 => fun x => x) (fun _ _ _ _ _ h => h) ?_ _ (by rfl) ?_
        · refine obs_cons (by rfl) (fun vals w' hgr hdep K hK => ?_) (obs_cons (by rfl) (fun vals w' hgr hdep K hK => ?_) (obs_cons (by rfl) (fun vals w' hgr hdep K hK => ?_) (obs_cons (by rfl) (fun vals w' hgr hdep K hK => ?_) (obs_cons (by rfl) (fun vals w' hgr hdep K hK => ?_) (obs_cons (by rfl) (fun vals w' hgr hdep K hK => ?_) (obs_cons (by rfl) (fun vals w' hgr hdep K hK => ?_) (obs_cons (by rfl) (fun vals w' hgr hdep K hK => ?_) (obs_cons (by rfl) (fun vals w' hgr hdep K hK => ?_) (obs_cons (by rfl) (fun vals w' hgr hdep K hK => ?_) (obs_nil))))))))))
          · exact wp_move (.tmp 17) rfl _ (at_out _ (by kernel_rfl) rfl) (hK _ _ (Below.refl _ _) rfl)
          · exact wp_move (.tmp 16) rfl _ (at_out _ (by kernel_rfl) rfl) (hK _ _ (Below.refl _ _) rfl)
          · exact wp_slice (.tmp 87) rfl _ _ (some (.int .i64 (E : Int))) none none ((at_dst 0 (by kernel_rfl)).trans (hdep 0 (by simp) (by kernel_rfl))) (congrArg some ((at_dst 1 (by kernel_rfl)).trans (hdep 1 (by simp) (by kernel_rfl)))) rfl rfl (cutA_l b5 0 n c5 E _ EN.out.2 (NC.out).1) (hK _ _ (Below.refl _ _) rfl)
          · exact st_load_row 23 (.tmp 6) rfl g (at_out _ (by kernel_rfl) rfl) 23 _ (0, 0) _ (FX.out w' hgr).1 Tryd.underlying23 rfl (by kernel_rfl) (hK _ _ (Below.refl _ _) rfl)
          · exact wp_move (.tmp 1) rfl _ (at_out _ (by kernel_rfl) rfl) (hK _ _ (Below.refl _ _) rfl)
          · exact wp_move (.tmp 17) rfl _ (at_out _ (by kernel_rfl) rfl) (hK _ _ (Below.refl _ _) rfl)
          · exact wp_move (.tmp 16) rfl _ (at_out _ (by kernel_rfl) rfl) (hK _ _ (Below.refl _ _) rfl)
          · exact wp_slice (.tmp 92) rfl _ _ none (some (.int .i64 (E : Int))) none ((at_dst 5 (by kernel_rfl)).trans (hdep 5 (by simp) (by kernel_rfl))) rfl (congrArg some ((at_dst 6 (by kernel_rfl)).trans (hdep 6 (by simp) (by kernel_rfl)))) rfl (MacU.cut_begin _ n c5 E EN.out.2 (NC.out).1 _) (hK _ _ (Below.refl _ _) rfl)
          · exact wp_call 14 [.tmp 90, .tmp 91, .tmp 94] _ rfl ent_tag [.agg #[.int .i64 sp, .string ky, .string sl, .string mc, .bool es, .int .i64 wn], .int .u64 (q : Int), .slice (some ⟨b5, 0, none⟩) E c5] (EspR4.list3 ((at_dst 3 (by kernel_rfl)).trans (hdep 3 (by simp) (by kernel_rfl))) ((at_dst 4 (by kernel_rfl)).trans (hdep 4 (by simp) (by kernel_rfl))) ((at_dst 7 (by kernel_rfl)).trans (hdep 7 (by simp) (by kernel_rfl)))) (fun v w'' => Lies w'' v 16 (ints TT) ∧ Below w'.heap.size w' w'') ((FX.out w' hgr).2.1) (fun v w'' ⟨h1, h2⟩ => hK _ _ h2 h1)
          · obtain ⟨At, ct, et, ht⟩ := hdep 8 (by simp) (by kernel_rfl)
            exact wp_call 13 [.tmp 89, .tmp 95] _ rfl Esp6.ent_same [.slice (some (adr b5 0 c5 E)) (n - E) (c5 - E), .slice At 16 ct] (list2 ((at_dst 2 (by kernel_rfl)).trans (hdep 2 (by simp) (by kernel_rfl))) ((at_dst 8 (by kernel_rfl)).trans et)) (fun v w'' => v = .bool rb ∧ Below w'.heap.size w' w'') ((FX.out w' hgr).2.2 At ct ht) (fun v w'' ⟨h1, h2⟩ => hK _ _ h2 h1)
        · intro vals w' hgr hG
          refine st_assign (.tmp 96) _ rfl (at_dst 9 (by kernel_rfl)) (wpAnyH_done (by kernel_rfl) ?_ _)
          have B7 := Lib.hid (B6.out.trans ((Esp5.below_drewN_1 hgr).mono B6.out.size))
          have XX := Lib.hid (Esp5.below_drewN_1 hgr)
          have ev : vals 9 = .bool rb := hG 9 (by simp)
          clear hG hgr
          simp only [fill, dstAt, List.getElem?_cons_zero, List.getElem?_cons_succ, Option.bind_some, Act.put, List.setIfInBounds_toArray, List.set_cons_zero, List.set_cons_succ]
          rw [ev]
          clear ev
          generalize vals 0 = y0, vals 1 = y1, vals 2 = y2, vals 3 = y3, vals 4 = y4, vals 5 = y5, vals 6 = y6, vals 7 = y7, vals 8 = y8 at *
          generalize w' = w7 at *
          have K7 := Lib.hid (Blk.below K6.out XX.out (Blk.lt K6.out))
          replace HA := Lib.hid ((HA.out.below XX.out).more XX.out.size)
          have g14 : (((ed : Nat) : Int) == 0) = true ∧ rb = true ∨ (((ed : Nat) : Int) == 0) = false := by
            by_cases z : ed = 0
            · exact .inl ⟨by rw [beq_iff_eq]; omega, ER2.out z⟩
            · exact .inr (by rw [beq_eq_false_iff_ne]; omega)
          clear XX FX NC ER2 K6 B6
          generalize TT = TT0 at *
          obtain ⟨rm, hrm⟩ : ∃ rm, rm = mo % 1000 := ⟨_, rfl⟩
          have m1 : ((mo : Int)).tmod 1000 = (rm : Int) := by rw [Int.tmod_eq_emod_of_nonneg (by omega), hrm]; rfl
          have rl : rm < 1000 := by rw [hrm]; exact Nat.mod_lt _ (by decide)
          obtain ⟨ml, hml⟩ : ∃ ml, ml = 4294967296 * rm := ⟨_, rfl⟩
          have m2 : IntKind.u64.wrap (4294967296 * (rm : Int)) = (ml : Int) := by rw [IntWalk.u64_in _ (by omega)]; omega
          have m0 : IntKind.u64.wrap (rm : Int) = (rm : Int) := IntWalk.u64_in _ (by omega)
          obtain ⟨q2, hq2⟩ : ∃ q2, q2 = (q + ml) % 18446744073709551616 := ⟨_, rfl⟩
          have m3 : IntKind.u64.wrap ((q : Int) + (ml : Int)) = (q2 : Int) := by rw [IntKind.wrap_u64]; omega
          have Q2 : Hid (q2 < 18446744073709551616) := Lib.hid (by rw [hq2]; exact Nat.mod_lt _ (by decide))
          clear hrm rl hml hq2
          rcases g14 with ⟨g14, rfl⟩ | g14
          all_goals
            go_wp2_with (refine Loads.wpList_load_w rfl 23 (.tmp 6) rfl g rfl 23 #[.int .i64 sp, .string ky, .string sl, .string mc, .bool es, .int .i64 wn] (0, 0) _ (K7.out) Tryd.underlying23 rfl (by kernel_rfl) ?_)
            refine (Esp6.open_no sp ky sl mc es wn q2 Q2.out (some ⟨b, p, none⟩) n c l w7 w7.heap.size HA.out (Nat.le_refl _) (by have := NB.out; omega) (HT.out.up B7.out)).mono ?_
            rintro e w8 ⟨v8, rfl, _, hb⟩
            have B8 := Lib.hid (B7.out.trans (hb.mono B7.out.size))
            have K8 := Lib.hid (Blk.below K7.out hb (Blk.lt K7.out))
            replace HA := Lib.hid ((HA.out.below hb).more hb.size)
            clear hb g14 m1 m2 m3 m0
            have ER := Lib.hid (fun z => (icv_of_open sp ky sl mc es wn q2 l z).2.2)
            generalize opY sp ky sl mc es wn q2 l = yg at *
            generalize openE sp ky sl mc es wn q2 l = eg at *
            go_wp2_with fail
            obtain ⟨rb, hrb⟩ : ∃ rb, rb = icvB mc es q2 l := ⟨_, rfl⟩
            obtain ⟨TT, hTT⟩ : ∃ TT, TT = tagL mc es q2 (nats (l.take E)) := ⟨_, rfl⟩
            have FX := Lib.hid (fx sp ky sl mc es wn q2 Q2.out b p n c E l w w8 g HE.out.1 HE.out.2.1 NB.out MC.out HT.out B8.out K8.out HA.out TT hTT rb hrb)
            have NC : Hid (n ≤ c ∧ True) := Lib.hid ⟨HA.out.2.1, trivial⟩
            have ER2 : Hid (eg = 0 → rb = true) := Lib.hid fun z => by rw [hrb]; exact ER.out z
            clear hrb hTT HA ER
            refine wp_region_free [0, 1, 2, 3, 4, 5, 6, 7, 8, 9] 10 [] (fun w1 w2 => Below w1.heap.size w1 w2) (fun k' w' v => match k' with
              | 0 => v = .slice (some ⟨b, p, none⟩) n c
              | 1 => v = .int .i64 ((E : Int))
              | 2 => v = .slice (some (adr b p c E)) (n - E) (c - E)
              | 3 => v = .agg #[.int .i64 sp, .string ky, .string sl, .string mc, .bool es, .int .i64 wn]
              | 4 => v = .int .u64 (q2 : Int)
              | 5 => v = .slice (some ⟨b, p, none⟩) n c
              | 6 => v = .int .i64 ((E : Int))
              | 7 => v = .slice (some ⟨b, p, none⟩) E c
              | 8 => Lies w' v 16 (ints TT)
              | _ => v = .bool rb) (by kernel_rfl) (by kernel_rfl) (Below.refl _ _) (fun _ _ _ h k => h.trans (k.mono h.size)) (fun k' w1 w2 v h => match k' with
              | 0 => fun x => x
              | 1 => fun x => x
              | 2 => fun x => x
              | 3 => fun x => x
              | 4 => fun x => x
              | 5 => fun x => x
              | 6 => fun x => x
              | 7 => fun x => x
              | 8 => fun q => q.below h
              | _ + 9 => fun x => x) (fun _ _ _ _ _ h => h) ?_ _ (by rfl) ?_
            · refine obs_cons (by rfl) (fun vals w' hgr hdep K hK => ?_) (obs_cons (by rfl) (fun vals w' hgr hdep K hK => ?_) (obs_cons (by rfl) (fun vals w' hgr hdep K hK => ?_) (obs_cons (by rfl) (fun vals w' hgr hdep K hK => ?_) (obs_cons (by rfl) (fun vals w' hgr hdep K hK => ?_) (obs_cons (by rfl) (fun vals w' hgr hdep K hK => ?_) (obs_cons (by rfl) (fun vals w' hgr hdep K hK => ?_) (obs_cons (by rfl) (fun vals w' hgr hdep K hK => ?_) (obs_cons (by rfl) (fun vals w' hgr hdep K hK => ?_) (obs_cons (by rfl) (fun vals w' hgr hdep K hK => ?_) (obs_nil))))))))))
              · exact wp_move (.tmp 2) rfl _ (at_out _ (by kernel_rfl) rfl) (hK _ _ (Below.refl _ _) rfl)
              · exact wp_move (.tmp 16) rfl _ (at_out _ (by kernel_rfl) rfl) (hK _ _ (Below.refl _ _) rfl)
              · exact wp_slice (.tmp 116) rfl _ _ (some (.int .i64 (E : Int))) none none ((at_dst 0 (by kernel_rfl)).trans (hdep 0 (by simp) (by kernel_rfl))) (congrArg some ((at_dst 1 (by kernel_rfl)).trans (hdep 1 (by simp) (by kernel_rfl)))) rfl rfl (cutA_l b p n c E _ EN.out.2 (NC.out).1) (hK _ _ (Below.refl _ _) rfl)
              · exact st_load_row 23 (.tmp 6) rfl g (at_out _ (by kernel_rfl) rfl) 23 _ (0, 0) _ (FX.out w' hgr).1 Tryd.underlying23 rfl (by kernel_rfl) (hK _ _ (Below.refl _ _) rfl)
              · exact wp_move (.tmp 22) rfl _ (at_out _ (by kernel_rfl) rfl) (hK _ _ (Below.refl _ _) rfl)
              · exact wp_move (.tmp 2) rfl _ (at_out _ (by kernel_rfl) rfl) (hK _ _ (Below.refl _ _) rfl)
              · exact wp_move (.tmp 16) rfl _ (at_out _ (by kernel_rfl) rfl) (hK _ _ (Below.refl _ _) rfl)
              · exact wp_slice (.tmp 121) rfl _ _ none (some (.int .i64 (E : Int))) none ((at_dst 5 (by kernel_rfl)).trans (hdep 5 (by simp) (by kernel_rfl))) rfl (congrArg some ((at_dst 6 (by kernel_rfl)).trans (hdep 6 (by simp) (by kernel_rfl)))) rfl (MacU.cut_begin _ n c E EN.out.2 (NC.out).1 _) (hK _ _ (Below.refl _ _) rfl)
              · exact wp_call 14 [.tmp 119, .tmp 120, .tmp 123] _ rfl ent_tag [.agg #[.int .i64 sp, .string ky, .string sl, .string mc, .bool es, .int .i64 wn], .int .u64 (q2 : Int), .slice (some ⟨b, p, none⟩) E c] (EspR4.list3 ((at_dst 3 (by kernel_rfl)).trans (hdep 3 (by simp) (by kernel_rfl))) ((at_dst 4 (by kernel_rfl)).trans (hdep 4 (by simp) (by kernel_rfl))) ((at_dst 7 (by kernel_rfl)).trans (hdep 7 (by simp) (by kernel_rfl)))) (fun v w'' => Lies w'' v 16 (ints TT) ∧ Below w'.heap.size w' w'') ((FX.out w' hgr).2.1) (fun v w'' ⟨h1, h2⟩ => hK _ _ h2 h1)
              · obtain ⟨At, ct, et, ht⟩ := hdep 8 (by simp) (by kernel_rfl)
                exact wp_call 13 [.tmp 118, .tmp 124] _ rfl Esp6.ent_same [.slice (some (adr b p c E)) (n - E) (c - E), .slice At 16 ct] (list2 ((at_dst 2 (by kernel_rfl)).trans (hdep 2 (by simp) (by kernel_rfl))) ((at_dst 8 (by kernel_rfl)).trans et)) (fun v w'' => v = .bool rb ∧ Below w'.heap.size w' w'') ((FX.out w' hgr).2.2 At ct ht) (fun v w'' ⟨h1, h2⟩ => hK _ _ h2 h1)
            · intro vals w' hgr hG
              refine st_assign (.tmp 125) _ rfl (at_dst 9 (by kernel_rfl)) (wpAnyH_done (by kernel_rfl) ?_ _)
              have B9 := Lib.hid (B8.out.trans ((Esp5.below_drewN_1 hgr).mono B8.out.size))
              have XX := Lib.hid (Esp5.below_drewN_1 hgr)
              have ev : vals 9 = .bool rb := hG 9 (by simp)
              clear hG hgr
              simp only [fill, dstAt, List.getElem?_cons_zero, List.getElem?_cons_succ, Option.bind_some, Act.put, List.setIfInBounds_toArray, List.set_cons_zero, List.set_cons_succ]
              rw [ev]
              clear ev
              generalize vals 0 = y0, vals 1 = y1, vals 2 = y2, vals 3 = y3, vals 4 = y4, vals 5 = y5, vals 6 = y6, vals 7 = y7, vals 8 = y8 at *
              generalize w' = w9 at *
              have g19 : (((eg : Nat) : Int) != 0) = false ∧ rb = true ∨ (((eg : Nat) : Int) != 0) = true := by
                by_cases z : eg = 0
                · exact .inl ⟨by simp [z], ER2.out z⟩
                · exact .inr (by simp [z])
              clear XX FX NC ER2
              generalize TT = TT1 at *
              rcases g19 with ⟨g19, rfl⟩ | g19
              all_goals
                go_wp2_with fail
                refine (EspA.awake_any w9 (HT.out.up B9.out)).mono ?_
                rintro e w10 ⟨rfl, hb⟩
                have B10 := Lib.hid (B9.out.trans (hb.mono B9.out.size))
                clear hb
                go_wp2_with fail
                go_ret
                exact ⟨rfl, B10.out⟩
      · go_wp2_with (refine Loads.wpList_load_w rfl 23 (.tmp 6) rfl g rfl 23 #[.int .i64 sp, .string ky, .string sl, .string mc, .bool es, .int .i64 wn] (0, 0) _ (K5.out) Tryd.underlying23 rfl (by kernel_rfl) ?_)
        clear g10 g11
        refine (Esp6.open_no sp ky sl mc es wn q HQ.out (some ⟨b5, 0, none⟩) n c5 ld w5 w5.heap.size HD5.out (Nat.le_refl _) (by have := NB.out; omega) (HT.out.up B5.out)).mono ?_
        rintro e w6 ⟨v6, rfl, _, hb⟩
        have B6 := Lib.hid (B5.out.trans (hb.mono B5.out.size))
        have K6 := Lib.hid (Blk.below K5.out hb (Blk.lt K5.out))
        replace HA := Lib.hid ((HA.out.below hb).more hb.size)
        replace HD5 := Lib.hid ((HD5.out.below hb).more hb.size)
        clear hb K5
        have ER := Lib.hid (fun z => (icv_of_open sp ky sl mc es wn q ld z).2.2)
        generalize opY sp ky sl mc es wn q ld = yd at *
        generalize openE sp ky sl mc es wn q ld = ed at *
        go_wp2_with fail
        obtain ⟨rb, hrb⟩ : ∃ rb, rb = icvB mc es q ld := ⟨_, rfl⟩
        obtain ⟨TT, hTT⟩ : ∃ TT, TT = tagL mc es q (nats (ld.take E)) := ⟨_, rfl⟩
        have FX := Lib.hid (fx sp ky sl mc es wn q HQ.out b5 0 n c5 E ld w w6 g HE.out.1 HE.out.2.1 NB.out MC.out HT.out B6.out K6.out HD5.out TT hTT rb hrb)
        have NC : Hid (n ≤ c5 ∧ True) := Lib.hid ⟨HD5.out.2.1, trivial⟩
        have ER2 : Hid (ed = 0 → rb = true) := Lib.hid fun z => by rw [hrb]; exact ER.out z
        clear hrb hTT HD5 ER
        refine wp_region_free [0, 1, 2, 3, 4, 5, 6, 7, 8, 9] 10 [] (fun w1 w2 => Below w1.heap.size w1 w2) (fun k' w' v => match k' with
          | 0 => v = .slice (some ⟨b5, 0, none⟩) n c5
          | 1 => v = .int .i64 ((E : Int))
          | 2 => v = .slice (some (adr b5 0 c5 E)) (n - E) (c5 - E)
          | 3 => v = .agg #[.int .i64 sp, .string ky, .string sl, .string mc, .bool es, .int .i64 wn]
          | 4 => v = .int .u64 (q : Int)
          | 5 => v = .slice (some ⟨b5, 0, none⟩) n c5
          | 6 => v = .int .i64 ((E : Int))
          | 7 => v = .slice (some ⟨b5, 0, none⟩) E c5
          | 8 => Lies w' v 16 (ints TT)
          | _ => v = .bool rb) (by kernel_rfl) (by kernel_rfl) (Below.refl _ _) (fun _ _ _ h k => h.trans (k.mono h.size)) (fun k' w1 w2 v h => match k' with
          | 0 => fun x => x
          | 1 => fun x => x
          | 2 => fun x => x
          | 3 => fun x => x
          | 4 => fun x => x
          | 5 => fun x => x
          | 6 => fun x => x
          | 7 => fun x => x
          | 8 => fun q => q.below h
          | _ + 9 => fun x => x) (fun _ _ _ _ _ h => h) ?_ _ (by rfl) ?_
        · refine obs_cons (by rfl) (fun vals w' hgr hdep K hK => ?_) (obs_cons (by rfl) (fun vals w' hgr hdep K hK => ?_) (obs_cons (by rfl) (fun vals w' hgr hdep K hK => ?_) (obs_cons (by rfl) (fun vals w' hgr hdep K hK => ?_) (obs_cons (by rfl) (fun vals w' hgr hdep K hK => ?_) (obs_cons (by rfl) (fun vals w' hgr hdep K hK => ?_) (obs_cons (by rfl) (fun vals w' hgr hdep K hK => ?_) (obs_cons (by rfl) (fun vals w' hgr hdep K hK => ?_) (obs_cons (by rfl) (fun vals w' hgr hdep K hK => ?_) (obs_cons (by rfl) (fun vals w' hgr hdep K hK => ?_) (obs_nil))))))))))
          · exact wp_move (.tmp 17) rfl _ (at_out _ (by kernel_rfl) rfl) (hK _ _ (Below.refl _ _) rfl)
          · exact wp_move (.tmp 16) rfl _ (at_out _ (by kernel_rfl) rfl) (hK _ _ (Below.refl _ _) rfl)
          · exact wp_slice (.tmp 87) rfl _ _ (some (.int .i64 (E : Int))) none none ((at_dst 0 (by kernel_rfl)).trans (hdep 0 (by simp) (by kernel_rfl))) (congrArg some ((at_dst 1 (by kernel_rfl)).trans (hdep 1 (by simp) (by kernel_rfl)))) rfl rfl (cutA_l b5 0 n c5 E _ EN.out.2 (NC.out).1) (hK _ _ (Below.refl _ _) rfl)
          · exact st_load_row 23 (.tmp 6) rfl g (at_out _ (by kernel_rfl) rfl) 23 _ (0, 0) _ (FX.out w' hgr).1 Tryd.underlying23 rfl (by kernel_rfl) (hK _ _ (Below.refl _ _) rfl)
          · exact wp_move (.tmp 1) rfl _ (at_out _ (by kernel_rfl) rfl) (hK _ _ (Below.refl _ _) rfl)
          · exact wp_move (.tmp 17) rfl _ (at_out _ (by kernel_rfl) rfl) (hK _ _ (Below.refl _ _) rfl)
          · exact wp_move (.tmp 16) rfl _ (at_out _ (by kernel_rfl) rfl) (hK _ _ (Below.refl _ _) rfl)
          · exact wp_slice (.tmp 92) rfl _ _ none (some (.int .i64 (E : Int))) none ((at_dst 5 (by kernel_rfl)).trans (hdep 5 (by simp) (by kernel_rfl))) rfl (congrArg some ((at_dst 6 (by kernel_rfl)).trans (hdep 6 (by simp) (by kernel_rfl)))) rfl (MacU.cut_begin _ n c5 E EN.out.2 (NC.out).1 _) (hK _ _ (Below.refl _ _) rfl)
          · exact wp_call 14 [.tmp 90, .tmp 91, .tmp 94] _ rfl ent_tag [.agg #[.int .i64 sp, .string ky, .string sl, .string mc, .bool es, .int .i64 wn], .int .u64 (q : Int), .slice (some ⟨b5, 0, none⟩) E c5] (EspR4.list3 ((at_dst 3 (by kernel_rfl)).trans (hdep 3 (by simp) (by kernel_rfl))) ((at_dst 4 (by kernel_rfl)).trans (hdep 4 (by simp) (by kernel_rfl))) ((at_dst 7 (by kernel_rfl)).trans (hdep 7 (by simp) (by kernel_rfl)))) (fun v w'' => Lies w'' v 16 (ints TT) ∧ Below w'.heap.size w' w'') ((FX.out w' hgr).2.1) (fun v w'' ⟨h1, h2⟩ => hK _ _ h2 h1)
          · obtain ⟨At, ct, et, ht⟩ := hdep 8 (by simp) (by kernel_rfl)
            exact wp_call 13 [.tmp 89, .tmp 95] _ rfl Esp6.ent_same [.slice (some (adr b5 0 c5 E)) (n - E) (c5 - E), .slice At 16 ct] (list2 ((at_dst 2 (by kernel_rfl)).trans (hdep 2 (by simp) (by kernel_rfl))) ((at_dst 8 (by kernel_rfl)).trans et)) (fun v w'' => v = .bool rb ∧ Below w'.heap.size w' w'') ((FX.out w' hgr).2.2 At ct ht) (fun v w'' ⟨h1, h2⟩ => hK _ _ h2 h1)
        · intro vals w' hgr hG
          refine st_assign (.tmp 96) _ rfl (at_dst 9 (by kernel_rfl)) (wpAnyH_done (by kernel_rfl) ?_ _)
          have B7 := Lib.hid (B6.out.trans ((Esp5.below_drewN_1 hgr).mono B6.out.size))
          have XX := Lib.hid (Esp5.below_drewN_1 hgr)
          have ev : vals 9 = .bool rb := hG 9 (by simp)
          clear hG hgr
          simp only [fill, dstAt, List.getElem?_cons_zero, List.getElem?_cons_succ, Option.bind_some, Act.put, List.setIfInBounds_toArray, List.set_cons_zero, List.set_cons_succ]
          rw [ev]
          clear ev
          generalize vals 0 = y0, vals 1 = y1, vals 2 = y2, vals 3 = y3, vals 4 = y4, vals 5 = y5, vals 6 = y6, vals 7 = y7, vals 8 = y8 at *
          generalize w' = w7 at *
          have K7 := Lib.hid (Blk.below K6.out XX.out (Blk.lt K6.out))
          replace HA := Lib.hid ((HA.out.below XX.out).more XX.out.size)
          have g14 : (((ed : Nat) : Int) == 0) = true ∧ rb = true ∨ (((ed : Nat) : Int) == 0) = false := by
            by_cases z : ed = 0
            · exact .inl ⟨by rw [beq_iff_eq]; omega, ER2.out z⟩
            · exact .inr (by rw [beq_eq_false_iff_ne]; omega)
          clear XX FX NC ER2 K6 B6
          generalize TT = TT0 at *
          obtain ⟨rm, hrm⟩ : ∃ rm, rm = mo % 1000 := ⟨_, rfl⟩
          have m1 : ((mo : Int)).tmod 1000 = (rm : Int) := by rw [Int.tmod_eq_emod_of_nonneg (by omega), hrm]; rfl
          have rl : rm < 1000 := by rw [hrm]; exact Nat.mod_lt _ (by decide)
          obtain ⟨ml, hml⟩ : ∃ ml, ml = 4294967296 * rm := ⟨_, rfl⟩
          have m2 : IntKind.u64.wrap (4294967296 * (rm : Int)) = (ml : Int) := by rw [IntWalk.u64_in _ (by omega)]; omega
          have m0 : IntKind.u64.wrap (rm : Int) = (rm : Int) := IntWalk.u64_in _ (by omega)
          obtain ⟨q2, hq2⟩ : ∃ q2, q2 = (q + ml) % 18446744073709551616 := ⟨_, rfl⟩
          have m3 : IntKind.u64.wrap ((q : Int) + (ml : Int)) = (q2 : Int) := by rw [IntKind.wrap_u64]; omega
          have Q2 : Hid (q2 < 18446744073709551616) := Lib.hid (by rw [hq2]; exact Nat.mod_lt _ (by decide))
          clear hrm rl hml hq2
          rcases g14 with ⟨g14, rfl⟩ | g14
          all_goals
            go_wp2_with (refine Loads.wpList_load_w rfl 23 (.tmp 6) rfl g rfl 23 #[.int .i64 sp, .string ky, .string sl, .string mc, .bool es, .int .i64 wn] (0, 0) _ (K7.out) Tryd.underlying23 rfl (by kernel_rfl) ?_)
            refine (Esp6.open_no sp ky sl mc es wn q2 Q2.out (some ⟨b, p, none⟩) n c l w7 w7.heap.size HA.out (Nat.le_refl _) (by have := NB.out; omega) (HT.out.up B7.out)).mono ?_
            rintro e w8 ⟨v8, rfl, _, hb⟩
            have B8 := Lib.hid (B7.out.trans (hb.mono B7.out.size))
            have K8 := Lib.hid (Blk.below K7.out hb (Blk.lt K7.out))
            replace HA := Lib.hid ((HA.out.below hb).more hb.size)
            clear hb g14 m1 m2 m3 m0
            have ER := Lib.hid (fun z => (icv_of_open sp ky sl mc es wn q2 l z).2.2)
            generalize opY sp ky sl mc es wn q2 l = yg at *
            generalize openE sp ky sl mc es wn q2 l = eg at *
            go_wp2_with fail
            obtain ⟨rb, hrb⟩ : ∃ rb, rb = icvB mc es q2 l := ⟨_, rfl⟩
            obtain ⟨TT, hTT⟩ : ∃ TT, TT = tagL mc es q2 (nats (l.take E)) := ⟨_, rfl⟩
            have FX := Lib.hid (fx sp ky sl mc es wn q2 Q2.out b p n c E l w w8 g HE.out.1 HE.out.2.1 NB.out MC.out HT.out B8.out K8.out HA.out TT hTT rb hrb)
            have NC : Hid (n ≤ c ∧ True) := Lib.hid ⟨HA.out.2.1, trivial⟩
            have ER2 : Hid (eg = 0 → rb = true) := Lib.hid fun z => by rw [hrb]; exact ER.out z
            clear hrb hTT HA ER
            refine wp_region_free [0, 1, 2, 3, 4, 5, 6, 7, 8, 9] 10 [] (fun w1 w2 => Below w1.heap.size w1 w2) (fun k' w' v => match k' with
              | 0 => v = .slice (some ⟨b, p, none⟩) n c
              | 1 => v = .int .i64 ((E : Int))
              | 2 => v = .slice (some (adr b p c E)) (n - E) (c - E)
              | 3 => v = .agg #[.int .i64 sp, .string ky, .string sl, .string mc, .bool es, .int .i64 wn]
              | 4 => v = .int .u64 (q2 : Int)
              | 5 => v = .slice (some ⟨b, p, none⟩) n c
              | 6 => v = .int .i64 ((E : Int))
              | 7 => v = .slice (some ⟨b, p, none⟩) E c
              | 8 => Lies w' v 16 (ints TT)
              | _ => v = .bool rb) (by kernel_rfl) (by kernel_rfl) (Below.refl _ _) (fun _ _ _ h k => h.trans (k.mono h.size)) (fun k' w1 w2 v h => match k' with
              | 0 => fun x => x
              | 1 => fun x => x
              | 2 => fun x => x
              | 3 => fun x => x
              | 4 => fun x => x
              | 5 => fun x => x
              | 6 => fun x => x
              | 7 => fun x => x
              | 8 => fun q => q.below h
              | _ + 9 => fun x => x) (fun _ _ _ _ _ h => h) ?_ _ (by rfl) ?_
            · refine obs_cons (by rfl) (fun vals w' hgr hdep K hK => ?_) (obs_cons (by rfl) (fun vals w' hgr hdep K hK => ?_) (obs_cons (by rfl) (fun vals w' hgr hdep K hK => ?_) (obs_cons (by rfl) (fun vals w' hgr hdep K hK => ?_) (obs_cons (by rfl) (fun vals w' hgr hdep K hK => ?_) (obs_cons (by rfl) (fun vals w' hgr hdep K hK => ?_) (obs_cons (by rfl) (fun vals w' hgr hdep K hK => ?_) (obs_cons (by rfl) (fun vals w' hgr hdep K hK => ?_) (obs_cons (by rfl) (fun vals w' hgr hdep K hK => ?_) (obs_cons (by rfl) (fun vals w' hgr hdep K hK => ?_) (obs_nil))))))))))
              · exact wp_move (.tmp 2) rfl _ (at_out _ (by kernel_rfl) rfl) (hK _ _ (Below.refl _ _) rfl)
              · exact wp_move (.tmp 16) rfl _ (at_out _ (by kernel_rfl) rfl) (hK _ _ (Below.refl _ _) rfl)
              · exact wp_slice (.tmp 116) rfl _ _ (some (.int .i64 (E : Int))) none none ((at_dst 0 (by kernel_rfl)).trans (hdep 0 (by simp) (by kernel_rfl))) (congrArg some ((at_dst 1 (by kernel_rfl)).trans (hdep 1 (by simp) (by kernel_rfl)))) rfl rfl (cutA_l b p n c E _ EN.out.2 (NC.out).1) (hK _ _ (Below.refl _ _) rfl)
              · exact st_load_row 23 (.tmp 6) rfl g (at_out _ (by kernel_rfl) rfl) 23 _ (0, 0) _ (FX.out w' hgr).1 Tryd.underlying23 rfl (by kernel_rfl) (hK _ _ (Below.refl _ _) rfl)
              · exact wp_move (.tmp 22) rfl _ (at_out _ (by kernel_rfl) rfl) (hK _ _ (Below.refl _ _) rfl)
              · exact wp_move (.tmp 2) rfl _ (at_out _ (by kernel_rfl) rfl) (hK _ _ (Below.refl _ _) rfl)
              · exact wp_move (.tmp 16) rfl _ (at_out _ (by kernel_rfl) rfl) (hK _ _ (Below.refl _ _) rfl)
              · exact wp_slice (.tmp 121) rfl _ _ none (some (.int .i64 (E : Int))) none ((at_dst 5 (by kernel_rfl)).trans (hdep 5 (by simp) (by kernel_rfl))) rfl (congrArg some ((at_dst 6 (by kernel_rfl)).trans (hdep 6 (by simp) (by kernel_rfl)))) rfl (MacU.cut_begin _ n c E EN.out.2 (NC.out).1 _) (hK _ _ (Below.refl _ _) rfl)
              · exact wp_call 14 [.tmp 119, .tmp 120, .tmp 123] _ rfl ent_tag [.agg #[.int .i64 sp, .string ky, .string sl, .string mc, .bool es, .int .i64 wn], .int .u64 (q2 : Int), .slice (some ⟨b, p, none⟩) E c] (EspR4.list3 ((at_dst 3 (by kernel_rfl)).trans (hdep 3 (by simp) (by kernel_rfl))) ((at_dst 4 (by kernel_rfl)).trans (hdep 4 (by simp) (by kernel_rfl))) ((at_dst 7 (by kernel_rfl)).trans (hdep 7 (by simp) (by kernel_rfl)))) (fun v w'' => Lies w'' v 16 (ints TT) ∧ Below w'.heap.size w' w'') ((FX.out w' hgr).2.1) (fun v w'' ⟨h1, h2⟩ => hK _ _ h2 h1)
              · obtain ⟨At, ct, et, ht⟩ := hdep 8 (by simp) (by kernel_rfl)
                exact wp_call 13 [.tmp 118, .tmp 124] _ rfl Esp6.ent_same [.slice (some (adr b p c E)) (n - E) (c - E), .slice At 16 ct] (list2 ((at_dst 2 (by kernel_rfl)).trans (hdep 2 (by simp) (by kernel_rfl))) ((at_dst 8 (by kernel_rfl)).trans et)) (fun v w'' => v = .bool rb ∧ Below w'.heap.size w' w'') ((FX.out w' hgr).2.2 At ct ht) (fun v w'' ⟨h1, h2⟩ => hK _ _ h2 h1)
            · intro vals w' hgr hG
              refine st_assign (.tmp 125) _ rfl (at_dst 9 (by kernel_rfl)) (wpAnyH_done (by kernel_rfl) ?_ _)
              have B9 := Lib.hid (B8.out.trans ((Esp5.below_drewN_1 hgr).mono B8.out.size))
              have XX := Lib.hid (Esp5.below_drewN_1 hgr)
              have ev : vals 9 = .bool rb := hG 9 (by simp)
              clear hG hgr
              simp only [fill, dstAt, List.getElem?_cons_zero, List.getElem?_cons_succ, Option.bind_some, Act.put, List.setIfInBounds_toArray, List.set_cons_zero, List.set_cons_succ]
              rw [ev]
              clear ev
              generalize vals 0 = y0, vals 1 = y1, vals 2 = y2, vals 3 = y3, vals 4 = y4, vals 5 = y5, vals 6 = y6, vals 7 = y7, vals 8 = y8 at *
              generalize w' = w9 at *
              have g19 : (((eg : Nat) : Int) != 0) = false ∧ rb = true ∨ (((eg : Nat) : Int) != 0) = true := by
                by_cases z : eg = 0
                · exact .inl ⟨by simp [z], ER2.out z⟩
                · exact .inr (by simp [z])
              clear XX FX NC ER2
              generalize TT = TT1 at *
              rcases g19 with ⟨g19, rfl⟩ | g19
              all_goals
                go_wp2_with fail
                refine (EspA.awake_any w9 (HT.out.up B9.out)).mono ?_
                rintro e w10 ⟨rfl, hb⟩
                have B10 := Lib.hid (B9.out.trans (hb.mono B9.out.size))
                clear hb
                go_wp2_with fail
                go_ret
                exact ⟨rfl, B10.out⟩
theorem forged_any (sp : Int) (ky sl mc : ByteArray) (es : Bool) (wn : Int) (a1 : Int) (A2 : Option Addr) (n2 c2 : Nat) (l2 : List Int) (a3 a4 a5 : Int) (w : World) (zs : ky.size ≤ 140737488355328 ∧ sl.size ≤ 140737488355328 ∧ mc.size ≤ 140737488355328) (xy1 : 0 ≤ a1 ∧ a1 ≤ 18446744073709551615) (h2 : Holds w w.heap.size A2 n2 c2 l2) (m2 : n2 ≤ 140737488355328) (xy4 : 0 ≤ a4 ∧ a4 ≤ 255) (xy5 : 0 ≤ a5 ∧ a5 ≤ 18446744073709551615) (hT : Tab w) :
    Calls Tryd.prog 4 #[.agg #[.int .i64 sp, .string ky, .string sl, .string mc, .bool es, .int .i64 wn], .int .u64 a1, .slice A2 n2 c2, .int .i64 a3, .int .u8 a4, .int .u64 a5] w fun e w' => e = .returned (.bool true) ∧ Below w.heap.size w w' := by
  obtain ⟨q, rfl⟩ : ∃ q : Nat, a1 = (q : Int) := ⟨a1.toNat, by omega⟩
  obtain ⟨mo, rfl⟩ : ∃ q : Nat, a5 = (q : Int) := ⟨a5.toNat, by omega⟩
  exact forged_q sp ky sl mc es wn q A2 n2 c2 l2 a3 a4 mo w zs (by omega) (by omega) xy4 h2 m2 hT
end Go.Proofs.YtdnkbefpbehllaaDoor.LawForged
