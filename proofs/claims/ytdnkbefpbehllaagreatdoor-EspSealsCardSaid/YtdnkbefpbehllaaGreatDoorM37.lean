/- The document's Seal. -/
import Derived.Test.YtdnkbefpbehllaaGreatDoorM22
import Derived.Test.YtdnkbefpbehllaaGreatDoorM34
import Derived.Test.YtdnkbefpbehllaaGreatDoorM23
set_option linter.unusedVariables false
namespace Go.Proofs.YtdnkbefpbehllaaGreatDoor.EspR3
open Go.RowKit Go.Proofs.YtdnkbefpbehllaaGreatDoor.Sums Go.Proofs.YtdnkbefpbehllaaGreatDoor.Mem Go.Proofs.YtdnkbefpbehllaaGreatDoor.Blk Go.Proofs.YtdnkbefpbehllaaGreatDoor.Free Go.Proofs.YtdnkbefpbehllaaGreatDoor.Steps Go.Proofs.YtdnkbefpbehllaaGreatDoor.Regs Go.Proofs.YtdnkbefpbehllaaGreatDoor.Bits3 Go.Proofs.YtdnkbefpbehllaaGreatDoor.Ints Go.Proofs.YtdnkbefpbehllaaGreatDoor.AesB Go.Proofs.YtdnkbefpbehllaaGreatDoor.PadR Go.Proofs.YtdnkbefpbehllaaGreatDoor.EspD Go.Proofs.YtdnkbefpbehllaaGreatDoor.EspR1
open Go.Proofs.YtdnkbefpbehllaaGreatDoor.CtrD (four four_byt)
open Go.Proofs.YtdnkbefpbehllaaGreatDoor.EspR2 Go.Proofs.YtdnkbefpbehllaaGreatDoor.AesK
open Go.Proofs.YtdnkbefpbehllaaGreatDoor.AesR3 (nats_byt)
theorem ints_app (a b : List Nat) : ints (a ++ b) = ints a ++ ints b := by simp [ints]
theorem holds_nats {w : World} {B n c : Nat} {A : Option Addr} {l : List Int} (h : Holds w B A n c l) : ints (nats l) = l := ints_nats (fun z hz => h.2.2.2.1 z hz)

set_option maxRecDepth 100000 in
set_option maxHeartbeats 2000000 in
theorem seal_no14 (sp : Int) (ky sl mc : ByteArray) (es : Bool) (wn : Int) (q : Nat) (A : Option Addr) (n c : Nat) (x : Int) (w : World) (h : (may sp ky sl mc wn && num es q) = false ∨ x < 0 ∨ 255 < x) :
    Calls Tryz.prog 9 #[.agg #[.int .i64 sp, .string ky, .string sl, .string mc, .bool es, .int .i64 wn], .int .u64 (q : Int), .slice A n c, .int .i64 x] w fun e w' => e = .returned (.tuple #[.slice none 0 0, .int .i64 1]) ∧ Below w.heap.size w w' := by
  have M := Lib.hid (may_ref sp ky sl mc es wn)
  have NU := Lib.hid (number_ref sp ky sl mc es wn q)
  generalize may sp ky sl mc wn = bm at *
  obtain ⟨bn, hbn⟩ : ∃ bn, bn = num es q := ⟨_, rfl⟩
  rw [← hbn] at h NU
  clear hbn
  have K1 := Lib.hid (Blk.new w 23 #[.int .i64 sp, .string ky, .string sl, .string mc, .bool es, .int .i64 wn])
  have B0 := Lib.hid ((Below.refl w.heap.size w).alloc (Nat.le_refl _) (.cells #[.int .i64 sp, .string ky, .string sl, .string mc, .bool es, .int .i64 wn] 23))
  cases bm with
  | false =>
    clear h
    go_enter Tryz.func9, Tryz.ntmps9
    go_wp2_with (refine Loads.wpList_load_w rfl 23 (.tmp 4) rfl w.heap.size rfl 23 #[.int .i64 sp, .string ky, .string sl, .string mc, .bool es, .int .i64 wn] (0, 0) _ (K1.out) Tryz.underlying23 rfl (by kernel_rfl) ?_)
    refine (M.out _).mono ?_
    rintro e w2 ⟨rfl, hb⟩
    have B2 := Lib.hid (B0.out.trans (hb.mono (by simp)))
    clear hb
    go_wp2_with fail
    go_ret2
    exact ⟨rfl, B2.out⟩
  | true =>
    cases bn with
    | false =>
      clear h
      go_enter Tryz.func9, Tryz.ntmps9
      go_wp2_with (refine Loads.wpList_load_w rfl 23 (.tmp 4) rfl w.heap.size rfl 23 #[.int .i64 sp, .string ky, .string sl, .string mc, .bool es, .int .i64 wn] (0, 0) _ (K1.out) Tryz.underlying23 rfl (by kernel_rfl) ?_)
      refine (M.out _).mono ?_
      rintro e w2 ⟨rfl, hb⟩
      have B2 := Lib.hid (B0.out.trans (hb.mono (by simp)))
      have K2 := Lib.hid (Blk.below K1.out hb (Blk.lt K1.out))
      clear hb
      go_wp2_with (refine Loads.wpList_load_w rfl 23 (.tmp 4) rfl w.heap.size rfl 23 #[.int .i64 sp, .string ky, .string sl, .string mc, .bool es, .int .i64 wn] (0, 0) _ (K2.out) Tryz.underlying23 rfl (by kernel_rfl) ?_)
      refine (NU.out _).mono ?_
      rintro e w3 ⟨rfl, hb⟩
      have B3 := Lib.hid (B2.out.trans (hb.mono B2.out.size))
      clear hb
      go_wp2_with fail
      go_ret2
      exact ⟨rfl, B3.out⟩
    | true =>
      rcases h with h | h | h
      · cases h
      · skip
        have g1 : decide (x < 0) = true := decide_eq_true h
        go_enter Tryz.func9, Tryz.ntmps9
        go_wp2_with (refine Loads.wpList_load_w rfl 23 (.tmp 4) rfl w.heap.size rfl 23 #[.int .i64 sp, .string ky, .string sl, .string mc, .bool es, .int .i64 wn] (0, 0) _ (K1.out) Tryz.underlying23 rfl (by kernel_rfl) ?_)
        refine (M.out _).mono ?_
        rintro e w2 ⟨rfl, hb⟩
        have B2 := Lib.hid (B0.out.trans (hb.mono (by simp)))
        have K2 := Lib.hid (Blk.below K1.out hb (Blk.lt K1.out))
        clear hb
        go_wp2_with (refine Loads.wpList_load_w rfl 23 (.tmp 4) rfl w.heap.size rfl 23 #[.int .i64 sp, .string ky, .string sl, .string mc, .bool es, .int .i64 wn] (0, 0) _ (K2.out) Tryz.underlying23 rfl (by kernel_rfl) ?_)
        refine (NU.out _).mono ?_
        rintro e w3 ⟨rfl, hb⟩
        have B3 := Lib.hid (B2.out.trans (hb.mono B2.out.size))
        clear hb
        go_wp2_with fail
        go_ret2
        exact ⟨rfl, B3.out⟩
      · skip
        have g1 : decide (x < 0) = false := decide_eq_false (by omega)
        have g2 : decide (255 < x) = true := decide_eq_true h
        go_enter Tryz.func9, Tryz.ntmps9
        go_wp2_with (refine Loads.wpList_load_w rfl 23 (.tmp 4) rfl w.heap.size rfl 23 #[.int .i64 sp, .string ky, .string sl, .string mc, .bool es, .int .i64 wn] (0, 0) _ (K1.out) Tryz.underlying23 rfl (by kernel_rfl) ?_)
        refine (M.out _).mono ?_
        rintro e w2 ⟨rfl, hb⟩
        have B2 := Lib.hid (B0.out.trans (hb.mono (by simp)))
        have K2 := Lib.hid (Blk.below K1.out hb (Blk.lt K1.out))
        clear hb
        go_wp2_with (refine Loads.wpList_load_w rfl 23 (.tmp 4) rfl w.heap.size rfl 23 #[.int .i64 sp, .string ky, .string sl, .string mc, .bool es, .int .i64 wn] (0, 0) _ (K2.out) Tryz.underlying23 rfl (by kernel_rfl) ?_)
        refine (NU.out _).mono ?_
        rintro e w3 ⟨rfl, hb⟩
        have B3 := Lib.hid (B2.out.trans (hb.mono B2.out.size))
        clear hb
        go_wp2_with fail
        go_ret2
        exact ⟨rfl, B3.out⟩

set_option maxRecDepth 100000 in
set_option maxHeartbeats 4000000 in
theorem seal_yes14 (sp : Int) (ky sl mc : ByteArray) (es : Bool) (wn : Int) (q : Nat) (hq : q < 18446744073709551616) (A : Option Addr) (n c : Nat) (l : List Int) (x : Int) (w : World) (B : Nat) (hh : Holds w B A n c l) (hB : B ≤ w.heap.size) (hn : n ≤ 70000) (hm : may sp ky sl mc wn = true) (hu : num es q = true) (h0 : 0 ≤ x) (h1 : x ≤ 255) :
    Calls Tryz.prog 9 #[.agg #[.int .i64 sp, .string ky, .string sl, .string mc, .bool es, .int .i64 wn], .int .u64 (q : Int), .slice A n c, .int .i64 x] w fun e w' => (65535 < 32 + long n ∧ e = .returned (.tuple #[.slice none 0 0, .int .i64 2]) ∧ Below w.heap.size w w') ∨
      (32 + long n ≤ 65535 ∧ ∃ v, e = .returned (.tuple #[v, .int .i64 0]) ∧ Lies w' v (32 + long n) (ints (sealL sp ky sl mc es wn q l x)) ∧ Below w.heap.size w w') := by
  obtain ⟨m1, m2, m3, m4, m5, m6, m7⟩ := may_facts hm
  have M := Lib.hid (may_ref sp ky sl mc es wn)
  have NU := Lib.hid (number_ref sp ky sl mc es wn q)
  rw [hm] at M
  rw [hu] at NU
  have K1 := Lib.hid (Blk.new w 23 #[.int .i64 sp, .string ky, .string sl, .string mc, .bool es, .int .i64 wn])
  have B0 := Lib.hid ((Below.refl w.heap.size w).alloc (Nat.le_refl _) (.cells #[.int .i64 sp, .string ky, .string sl, .string mc, .bool es, .int .i64 wn] 23))
  have g1 : decide (x < 0) = false := decide_eq_false (by omega)
  have g2 : decide (255 < x) = false := decide_eq_false (by omega)
  have CL := Lib.hid (EspR1.length_ref (n : Int) (by omega))
  have LE : lenI (n : Int) = 32 + long n := by unfold lenI lengthI; rw [if_neg (by omega), if_neg (by omega), Int.toNat_natCast]
  rw [LE] at CL
  have lb : long n ≤ 70010 := by unfold long; omega
  obtain ⟨L, hL⟩ : ∃ L, L = long n := ⟨_, rfl⟩
  rw [← hL] at CL lb ⊢
  obtain ⟨L2, hL2⟩ : ∃ L2, L2 = 32 + L := ⟨_, rfl⟩
  rw [← hL2] at CL ⊢
  have LL := Lib.hid hL
  have LL2 := Lib.hid hL2
  have HH := Lib.hid hh
  have HB := Lib.hid hB
  have HX := Lib.hid (And.intro h0 h1)
  have HN := Lib.hid hn
  have HK := Lib.hid m3
  have HS := Lib.hid m4
  have HM := Lib.hid m5
  have HP := Lib.hid (And.intro m1 m2)
  have CH := Lib.hid (halves_ref q hq)
  have TG := Lib.hid (tag_ref14 sp ky sl mc es wn q hq)
  clear hm hu h0 h1 hh hB hn m1 m2 m3 m4 m5 m6 m7 LE hL hL2 hq
  by_cases big : 65535 < L2
  · have g3 : decide ((65535 : Int) < (L2 : Int)) = true := decide_eq_true (by omega)
    have BG := Lib.hid big
    clear big lb
    go_enter Tryz.func9, Tryz.ntmps9
    go_wp2_with (refine Loads.wpList_load_w rfl 23 (.tmp 4) rfl w.heap.size rfl 23 #[.int .i64 sp, .string ky, .string sl, .string mc, .bool es, .int .i64 wn] (0, 0) _ (K1.out) Tryz.underlying23 rfl (by kernel_rfl) ?_)
    refine (M.out _).mono ?_
    rintro e w2 ⟨rfl, hb⟩
    have B2 := Lib.hid (B0.out.trans (hb.mono (by simp)))
    have K2 := Lib.hid (Blk.below K1.out hb (Blk.lt K1.out))
    clear hb K1
    go_wp2_with (refine Loads.wpList_load_w rfl 23 (.tmp 4) rfl w.heap.size rfl 23 #[.int .i64 sp, .string ky, .string sl, .string mc, .bool es, .int .i64 wn] (0, 0) _ (K2.out) Tryz.underlying23 rfl (by kernel_rfl) ?_)
    refine (NU.out _).mono ?_
    rintro e w3 ⟨rfl, hb⟩
    have B3 := Lib.hid (B2.out.trans (hb.mono B2.out.size))
    have K3 := Lib.hid (Blk.below K2.out hb (Blk.lt K2.out))
    clear hb K2
    go_wp2_with fail
    refine (CL.out _).mono ?_
    rintro e w4 ⟨rfl, rfl⟩
    go_wp2_with fail
    go_ret2
    exact .inl ⟨BG.out, rfl, B3.out⟩
  · have g3 : decide ((65535 : Int) < (L2 : Int)) = false := decide_eq_false (by omega)
    have BG : Hid (L2 ≤ 65535) := Lib.hid (by omega)
    clear big lb
    go_enter Tryz.func9, Tryz.ntmps9
    go_wp2_with (refine Loads.wpList_load_w rfl 23 (.tmp 4) rfl w.heap.size rfl 23 #[.int .i64 sp, .string ky, .string sl, .string mc, .bool es, .int .i64 wn] (0, 0) _ (K1.out) Tryz.underlying23 rfl (by kernel_rfl) ?_)
    refine (M.out _).mono ?_
    rintro e w2 ⟨rfl, hb⟩
    have B2 := Lib.hid (B0.out.trans (hb.mono (by simp)))
    have K2 := Lib.hid (Blk.below K1.out hb (Blk.lt K1.out))
    clear hb K1
    go_wp2_with (refine Loads.wpList_load_w rfl 23 (.tmp 4) rfl w.heap.size rfl 23 #[.int .i64 sp, .string ky, .string sl, .string mc, .bool es, .int .i64 wn] (0, 0) _ (K2.out) Tryz.underlying23 rfl (by kernel_rfl) ?_)
    refine (NU.out _).mono ?_
    rintro e w3 ⟨rfl, hb⟩
    have B3 := Lib.hid (B2.out.trans (hb.mono B2.out.size))
    have K3 := Lib.hid (Blk.below K2.out hb (Blk.lt K2.out))
    clear hb K2
    go_wp2_with fail
    refine (CL.out _).mono ?_
    rintro e w4 ⟨rfl, rfl⟩
    clear CL M NU
    go_wp2_with fail
    refine (CH.out _).mono ?_
    rintro e w4 ⟨A1, A2, rfl, q1, q2, hb⟩
    have H1 := Lib.hid q1
    have H2 := Lib.hid q2
    have B4 := Lib.hid (B3.out.trans (hb.mono B3.out.size))
    have K4 := Lib.hid (Blk.below K3.out hb (Blk.lt K3.out))
    clear hb K3 q1 q2 CH
    go_wp2_with fail
    refine (Both.both_lit (B := w4.heap.size) (Nat.le_refl _) [⟨A1, 4, 4, ints (four (hiN q))⟩, ⟨A2, 4, 4, ints (four (loN q))⟩] _ _ rfl (Both.mem2 H1.out H2.out) _ 2 rfl rfl (by decide) (by show 4 + (4 + 0) ≤ 1048576; omega)).mono ?_
    rintro e w5 ⟨A3, c3, rfl, hh, _, hb⟩
    have H3 : Hid (Holds w5 w5.heap.size A3 8 c3 (ints (ivL q))) := Lib.hid (by
      have := hh
      simp only [Both.flat, List.append_nil] at this
      rw [← ints_app] at this
      exact this)
    have H2b := Lib.hid ((H2.out.below hb).more hb.size)
    have B5 := Lib.hid (B4.out.trans (hb.mono B4.out.size))
    have K5 := Lib.hid (Blk.below K4.out hb (Blk.lt K4.out))
    clear hb K4 hh H1 H2
    go_wp2_with fail
    refine (PadR.seal_ok A n c l x w5 B (HH.out.below (B5.out.mono HB.out)) (Nat.le_trans HB.out B5.out.size) HX.out.1 HX.out.2 (by have := LL.out; have := LL2.out; have := BG.out; unfold long at *; omega)).mono ?_
    rintro e w6 ⟨v6, rfl, o6, hb⟩
    obtain ⟨A6, c6, rfl, hh⟩ := o6.slice
    rw [← LL.out] at hh ⊢
    have H6 := Lib.hid hh
    have H3b := Lib.hid ((H3.out.below hb).more hb.size)
    have H2c := Lib.hid ((H2b.out.below hb).more hb.size)
    have B6 := Lib.hid (B5.out.trans (hb.mono B5.out.size))
    have K6 := Lib.hid (Blk.below K5.out hb (Blk.lt K5.out))
    clear hb K5 hh o6 H3 H2b
    obtain ⟨u1, v1, cv1, o1, b1⟩ := run_bytes_string w6 ky (by rcases HK.out with q | q <;> rw [q] <;> decide)
    obtain ⟨A7, c7, rfl, h7⟩ := o1.slice
    obtain ⟨u2, v2, cv2, o2, b2⟩ := run_bytes_string u1 sl (by rw [HS.out]; decide)
    obtain ⟨A8, c8, rfl, h8⟩ := o2.slice
    have k1 : w6.cell? ⟨w.heap.size, 1, none⟩ = some (.string ky) := K6.out.cell 1
    have K7 := Lib.hid (Blk.below K6.out b1 (Blk.lt K6.out))
    have k2 : u1.cell? ⟨w.heap.size, 2, none⟩ = some (.string sl) := K7.out.cell 2
    have K8 := Lib.hid (Blk.below K7.out b2 (Blk.lt K7.out))
    have b12 := b1.trans (b2.mono b1.size)
    have B8 := Lib.hid (B6.out.trans (b12.mono B6.out.size))
    have H7 := Lib.hid ((h7.below b2).more b2.size)
    have H8 := Lib.hid h8
    have H6b := Lib.hid ((H6.out.below b12).more b12.size)
    have H3c := Lib.hid ((H3b.out.below b12).more b12.size)
    have H2d := Lib.hid ((H2c.out.below b12).more b12.size)
    clear b12 b1 b2 h7 h8 o1 o2 K6 K7 H6 H3b H2c
    go_wp2_with fail
    have S4 := HS.out
    have TR := CtrT.turn_ref A7 ky.size c7 (nums ky) A8 c8 (nums sl) A3 c3 (ints (ivL q)) A6 L c6 (sealed l x) u2 u2.heap.size H7.out (by have := H8.out; rw [S4] at this; exact this) H3c.out H6b.out (Nat.le_refl _) HK.out (by have := BG.out; have := LL2.out; omega)
    rw [nats_ints, ← S4] at TR
    refine TR.mono ?_
    rintro e w7 ⟨g7, rfl, _, row, hb⟩
    have LT : (turnL ky sl (ivL q) (nats (sealed l x))).length = L := by rw [turnL_len, nats_length, sealed_len, HH.out.1, ← LL.out]
    have H9 : Hid (Holds w7 w7.heap.size (some ⟨g7, 0, none⟩) L L (ints (turnL ky sl (ivL q) (nats (sealed l x))))) := Lib.hid (by
      have z := Aes9.BRow.holds row (CtrD.trn_byt (keys_byt (nats_byt (nums_bytes ky))) (nats_byt (nums_bytes sl)) (ivL_byt q) (nats_byt H6b.out.2.2.2.1)) (by
        have e : (CtrD.trn (keys (nats (nums ky))) (nats (nums sl)) (ivL q) (nats (sealed l x))).length = L := LT
        rw [e]; have := BG.out; have := LL2.out; omega)
      have e : (CtrD.trn (keys (nats (nums ky))) (nats (nums sl)) (ivL q) (nats (sealed l x))).length = L := LT
      rw [e] at z
      exact z)
    have H3d := Lib.hid ((H3c.out.below hb).more hb.size)
    have H2e := Lib.hid ((H2d.out.below hb).more hb.size)
    have B9 := Lib.hid (B8.out.trans (hb.mono B8.out.size))
    have K9 := Lib.hid (Blk.below K8.out hb (Blk.lt K8.out))
    obtain ⟨sn, rfl⟩ : ∃ sn : Nat, sp = (sn : Int) := ⟨sp.toNat, by have := HP.out; omega⟩
    have k0 : w7.cell? ⟨w.heap.size, 0, none⟩ = some (.int .i64 (sn : Int)) := K9.out.cell 0
    have C4 := Lib.hid (Ctr1.four_ref sn (by have := HP.out; omega))
    clear hb row TR LT K8 H3c H2d H6b H7 H8 cv1 cv2 k1 k2 S4
    go_wp2_with fail
    refine (C4.out _).mono ?_
    rintro e w8 ⟨A10, rfl, q1, hb⟩
    have H10 := Lib.hid q1
    have H9b := Lib.hid ((H9.out.below hb).more hb.size)
    have H3e := Lib.hid ((H3d.out.below hb).more hb.size)
    have H2f := Lib.hid ((H2e.out.below hb).more hb.size)
    have B10 := Lib.hid (B9.out.trans (hb.mono B9.out.size))
    have K10 := Lib.hid (Blk.below K9.out hb (Blk.lt K9.out))
    clear hb q1 K9 H9 H3d H2e k0 C4
    go_wp2_with fail
    refine (Both.both_lit (B := w8.heap.size) (Nat.le_refl _) [⟨A10, 4, 4, ints (four sn)⟩, ⟨A2, 4, 4, ints (four (loN q))⟩, ⟨A3, 8, c3, ints (ivL q)⟩, ⟨some ⟨g7, 0, none⟩, L, L, ints (turnL ky sl (ivL q) (nats (sealed l x)))⟩] _ _ rfl (mem4 H10.out H2f.out H3e.out H9b.out) _ 4 rfl rfl (by decide) (by show 4 + (4 + (8 + (L + 0))) ≤ 1048576; have := BG.out; have := LL2.out; omega)).mono ?_
    rintro e w9 ⟨A11, c11, rfl, hh, _, hb⟩
    obtain ⟨FR, hFR⟩ : ∃ FR, FR = frontL (sn : Int) ky sl q l x := ⟨_, rfl⟩
    have TE : Both.total [⟨A10, 4, 4, ints (four sn)⟩, ⟨A2, 4, 4, ints (four (loN q))⟩, ⟨A3, 8, c3, ints (ivL q)⟩, ⟨some ⟨g7, 0, none⟩, L, L, ints (turnL ky sl (ivL q) (nats (sealed l x)))⟩] = 16 + L := by simp only [Both.total]; omega
    have H11 : Hid (Holds w9 w9.heap.size A11 (16 + L) c11 (ints FR)) := Lib.hid (by
      have z := hh
      simp only [Both.flat, List.append_nil] at z
      rw [← ints_app, ← ints_app, ← ints_app, TE] at z
      rw [hFR]
      exact z)
    rw [TE]
    have SE : Hid (sealL (sn : Int) ky sl mc es wn q l x = FR ++ tagL mc es q FR) := Lib.hid (by rw [hFR]; rfl)
    have B11 := Lib.hid (B10.out.trans (hb.mono B10.out.size))
    have K11 := Lib.hid (Blk.below K10.out hb (Blk.lt K10.out))
    clear hb hh K10 H10 H2f H3e H9b hFR TE
    have TG2 := Lib.hid (TG.out A11 (16 + L) c11 (ints FR) w9 w9.heap.size H11.out (Nat.le_refl _) (by have := BG.out; have := LL2.out; omega) HM.out)
    rw [nats_ints] at TG2
    have TB : Hid (Byt (tagL mc es q FR)) := Lib.hid (tagL_byt _ _ _ _)
    have TN := Lib.hid (tagL_len mc es q FR)
    generalize tagL mc es q FR = TT at *
    go_wp2_with (refine Loads.wpList_load_w rfl 23 (.tmp 4) rfl w.heap.size rfl 23 #[.int .i64 (sn : Int), .string ky, .string sl, .string mc, .bool es, .int .i64 wn] (0, 0) _ (K11.out) Tryz.underlying23 rfl (by kernel_rfl) ?_)
    refine TG2.out.mono ?_
    rintro e w10 ⟨rfl, hb⟩
    have H11b := Lib.hid ((H11.out.below hb).more hb.size)
    have B12 := Lib.hid (B11.out.trans (hb.mono B11.out.size))
    clear hb H11 K11 TG TG2
    have NS : Hid (nums (strOfNums (ints TT)) = ints TT) := Lib.hid (nums_str (ints_bytes TB.out))
    have SZ : (strOfNums (ints TT)).size = 16 := by rw [← nums_len, NS.out]; simp [ints, TN.out]
    obtain ⟨u3, v3, cv3, o3, b3⟩ := run_bytes_string w10 (strOfNums (ints TT)) (by rw [SZ]; decide)
    rw [SZ, NS.out] at o3
    obtain ⟨A12, c12, rfl, h12⟩ := o3.slice
    have H12 := Lib.hid h12
    have H11c := Lib.hid ((H11b.out.below b3).more b3.size)
    have B13 := Lib.hid (B12.out.trans (b3.mono B12.out.size))
    clear o3 h12 b3 SZ H11b
    generalize strOfNums (ints TT) = sx at *
    go_wp2_with fail
    refine (Both.both_lit (B := u3.heap.size) (Nat.le_refl _) [⟨A11, 16 + L, c11, ints FR⟩, ⟨A12, 16, c12, ints TT⟩] _ _ rfl (Both.mem2 H11c.out H12.out) _ 2 rfl rfl (by decide) (by show (16 + L) + (16 + 0) ≤ 1048576; have := BG.out; have := LL2.out; omega)).mono ?_
    rintro e w11 ⟨A13, c13, rfl, hh, _, hb⟩
    have H13 : Hid (Holds w11 w11.heap.size A13 L2 c13 (ints (sealL (sn : Int) ky sl mc es wn q l x))) := Lib.hid (by
      have z := hh
      simp only [Both.flat, List.append_nil] at z
      rw [← ints_app, ← SE.out] at z
      have e : Both.total [⟨A11, 16 + L, c11, ints FR⟩, ⟨A12, 16, c12, ints TT⟩] = L2 := by simp only [Both.total]; have := LL2.out; omega
      rw [e] at z
      exact z)
    have TE : Both.total [⟨A11, 16 + L, c11, ints FR⟩, ⟨A12, 16, c12, ints TT⟩] = L2 := by simp only [Both.total]; have := LL2.out; omega
    rw [TE]
    have B14 := Lib.hid (B13.out.trans (hb.mono B13.out.size))
    clear hb hh TE
    go_wp2_with fail
    go_ret2
    exact .inr ⟨BG.out, _, rfl, ⟨_, _, rfl, H13.out⟩, B14.out⟩
end Go.Proofs.YtdnkbefpbehllaaGreatDoor.EspR3

