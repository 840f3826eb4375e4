/- Contracts of the code: Bytes. -/
import Derived.Test.YtadjkidjkgnkoaaSeg4
set_option linter.unusedVariables false
namespace Go.Proofs.Ytadjkidjkgnkoaa.Seg5
open Go.RowKit Go.Sort Go.Proofs.Ytadjkidjkgnkoaa.Sums Go.Proofs.Ytadjkidjkgnkoaa.Words Go.Proofs.Ytadjkidjkgnkoaa.Mem Go.Proofs.Ytadjkidjkgnkoaa.Ahead Go.Proofs.Ytadjkidjkgnkoaa.SegD Go.Proofs.Ytadjkidjkgnkoaa.Blk Go.Proofs.Ytadjkidjkgnkoaa.Bits Go.Proofs.Ytadjkidjkgnkoaa.InetSum Go.Proofs.Ytadjkidjkgnkoaa.Steps Go.Proofs.Ytadjkidjkgnkoaa.Free Go.Proofs.Ytadjkidjkgnkoaa.Cut
open Go.Proofs.Ytadjkidjkgnkoaa.Seg1 Go.Proofs.Ytadjkidjkgnkoaa.Seg2 Go.Proofs.Ytadjkidjkgnkoaa.Seg3 Go.Proofs.Ytadjkidjkgnkoaa.Seg4 Go.Proofs.Ytadjkidjkgnkoaa.Com

set_option maxHeartbeats 1000000 in
theorem bytes_err (p : Sg) (A : Option Addr) (n c : Nat) (s d : ByteArray) (w : World) (hz : p.opt.size ≤ 1048576) (hn : n ≤ 1048576) (he : p.err s d n ≠ 0) :
    Calls Try.prog 10 #[.agg #[.int .i64 p.src, .int .i64 p.dst, .int .i64 p.seq, .int .i64 p.ack, .int .i64 p.flags, .int .i64 p.window, .int .i64 p.urgent, .string p.opt, .slice A n c], .string s, .string d] w fun e w' => e = .returned (.tuple #[.slice none 0 0, .int .i64 (p.err s d n)]) ∧ Below w.heap.size w w' := by
  have B0 := Lib.hid ((Below.refl w.heap.size w).alloc (Nat.le_refl _) (.cells #[.int .i64 p.src, .int .i64 p.dst, .int .i64 p.seq, .int .i64 p.ack, .int .i64 p.flags, .int .i64 p.window, .int .i64 p.urgent, .string p.opt, .slice A n c] 24))
  have K0 := Lib.hid (Blk.new w 24 #[.int .i64 p.src, .int .i64 p.dst, .int .i64 p.seq, .int .i64 p.ack, .int .i64 p.flags, .int .i64 p.window, .int .i64 p.urgent, .string p.opt, .slice A n c])
  have P := Lib.hid (paired_any s d (w.alloc (.cells #[.int .i64 p.src, .int .i64 p.dst, .int .i64 p.seq, .int .i64 p.ack, .int .i64 p.flags, .int .i64 p.window, .int .i64 p.urgent, .string p.opt, .slice A n c] 24)))
  have E : Hid (p.err s d n = if paired s d = true then p.chk n else 1) := Lib.hid rfl
  have N := Lib.hid he
  clear he
  generalize paired s d = z at *
  cases z with
  | false =>
    have F : Hid (p.err s d n = 1) := Lib.hid (by rw [E.out]; rfl)
    go_enter Try.func10, Try.ntmps10
    go_wp2_with fail
    refine P.out.mono ?_
    rintro e w1 ⟨rfl, hb⟩
    go_wp2_with fail
    go_ret2
    exact ⟨by rw [F.out]; rfl, B0.out.trans (hb.mono B0.out.size)⟩
  | true =>
    have F : Hid (p.err s d n = p.chk n) := Lib.hid (by rw [E.out]; rfl)
    have C := Lib.hid (fun W => check_any p A n c W hz hn)
    rw [F.out] at N
    generalize p.chk n = k at *
    have q : (k != 0) = true := by simpa using N.out
    go_enter Try.func10, Try.ntmps10
    go_wp2_with fail
    refine P.out.mono ?_
    rintro e w1 ⟨rfl, hb⟩
    have B1 := Lib.hid (B0.out.trans (hb.mono B0.out.size))
    have K1 := Lib.hid (K0.out.below hb K0.out.lt)
    clear hb
    go_wp2_with (refine Loads.wpList_load_w rfl 24 (.tmp 3) rfl w.heap.size rfl 24 #[.int .i64 p.src, .int .i64 p.dst, .int .i64 p.seq, .int .i64 p.ack, .int .i64 p.flags, .int .i64 p.window, .int .i64 p.urgent, .string p.opt, .slice A n c] (0, 0) _ K1.out (Try.underlying24) rfl (by kernel_rfl) ?_)
    refine (C.out _).mono ?_
    rintro e w2 ⟨rfl, hb⟩
    have B2 := Lib.hid (B1.out.trans (hb.mono B1.out.size))
    clear hb
    go_wp2_with fail
    go_ret2
    exact ⟨by rw [F.out]; rfl, B2.out⟩

theorem raw_set {p : Sg} {k K : Int} {l : List Int} (k0 : 0 ≤ K) (k1 : K ≤ 65535) : ((p.raw k l).set 16 (K / 256)).set 17 (K % 256) = p.raw K l := rfl

set_option maxHeartbeats 1000000 in
set_option maxRecDepth 100000 in
theorem bytes_ok (p : Sg) (A : Option Addr) (n c : Nat) (l : List Int) (s d : ByteArray) (w : World) (B : Nat) (h : Holds w B A n c l) (hB : B ≤ w.heap.size) (he : p.err s d n = 0) :
    Calls Try.prog 10 #[.agg #[.int .i64 p.src, .int .i64 p.dst, .int .i64 p.seq, .int .i64 p.ack, .int .i64 p.flags, .int .i64 p.window, .int .i64 p.urgent, .string p.opt, .slice A n c], .string s, .string d] w fun e w' => ∃ v, e = .returned (.tuple #[v, .int .i64 0]) ∧ Owns w' w.heap.size v (20 + p.opt.size + n) (p.bytes s d l) ∧ Below w.heap.size w w' := by
  obtain ⟨hp, hc⟩ := Sg.err_zero he
  obtain ⟨V, hn⟩ := Sg.chk_zero hc
  have hz := V.z
  have B0 := Lib.hid ((Below.refl w.heap.size w).alloc (Nat.le_refl _) (.cells #[.int .i64 p.src, .int .i64 p.dst, .int .i64 p.seq, .int .i64 p.ack, .int .i64 p.flags, .int .i64 p.window, .int .i64 p.urgent, .string p.opt, .slice A n c] 24))
  have K0 := Lib.hid (Blk.new w 24 #[.int .i64 p.src, .int .i64 p.dst, .int .i64 p.seq, .int .i64 p.ack, .int .i64 p.flags, .int .i64 p.window, .int .i64 p.urgent, .string p.opt, .slice A n c])
  have P := Lib.hid (paired_any s d (w.alloc (.cells #[.int .i64 p.src, .int .i64 p.dst, .int .i64 p.seq, .int .i64 p.ack, .int .i64 p.flags, .int .i64 p.window, .int .i64 p.urgent, .string p.opt, .slice A n c] 24)))
  rw [hp] at P
  have C := Lib.hid (fun W => check_any p A n c W (by omega) (by omega))
  rw [hc] at C
  have H := Lib.hid h
  have HP := Lib.hid hp
  have VV := Lib.hid V
  have ck := p.sum_in s d l
  have EB : Hid (p.bytes s d l = p.raw (p.sum s d l) l) := Lib.hid rfl
  have ES : Hid (65535 - whole s d 6 (p.raw 0 l) = p.sum s d l) := Lib.hid rfl
  have hw := whole_in s d 6 (p.raw 0 l)
  have e0 : IntKind.i64.wrap (65535 - whole s d 6 (p.raw 0 l)) = p.sum s d l := IntWalk.i64_in _ (by omega)
  generalize p.sum s d l = K at *
  have e1 : IntKind.u8.wrap (K / 256) = K / 256 := by rw [IntKind.wrap_u8]; omega
  have e2 : IntKind.u8.wrap K = K % 256 := by rw [IntKind.wrap_u8]
  have W6 := Lib.hid e0
  clear h hp he hc V
  go_enter Try.func10, Try.ntmps10
  go_wp2_with fail
  refine P.out.mono ?_
  rintro e w1 ⟨rfl, hb⟩
  have B1 := Lib.hid (B0.out.trans (hb.mono B0.out.size))
  have K1 := Lib.hid (K0.out.below hb K0.out.lt)
  clear hb
  go_wp2_with (refine Loads.wpList_load_w rfl 24 (.tmp 3) rfl w.heap.size rfl 24 #[.int .i64 p.src, .int .i64 p.dst, .int .i64 p.seq, .int .i64 p.ack, .int .i64 p.flags, .int .i64 p.window, .int .i64 p.urgent, .string p.opt, .slice A n c] (0, 0) _ K1.out (Try.underlying24) rfl (by kernel_rfl) ?_)
  refine (C.out _).mono ?_
  rintro e w2 ⟨rfl, hb⟩
  have B2 := Lib.hid (B1.out.trans (hb.mono B1.out.size))
  have K2 := Lib.hid (K1.out.below hb K1.out.lt)
  clear hb
  go_wp2_with (refine Loads.wpList_load_w rfl 24 (.tmp 3) rfl w.heap.size rfl 24 #[.int .i64 p.src, .int .i64 p.dst, .int .i64 p.seq, .int .i64 p.ack, .int .i64 p.flags, .int .i64 p.window, .int .i64 p.urgent, .string p.opt, .slice A n c] (0, 0) _ K2.out (Try.underlying24) rfl (by kernel_rfl) ?_)
  refine (unsummed_any p A n c l w2 B (H.out.below (B2.out.mono hB)) (Nat.le_trans hB B2.out.size) VV.out hn).mono ?_
  rintro e w3 ⟨v, rfl, o3, hb⟩
  have B3 := Lib.hid (B2.out.trans (hb.mono B2.out.size))
  have hb2 := B2.out.size
  obtain ⟨A3, c3, rfl, h3⟩ := o3.slice
  clear hb
  go_wp2_with fail
  refine (sum_code s d A3 _ c3 _ w3 w3.heap.size h3 (Nat.le_refl _) (by omega) HP.out).mono ?_
  rintro e w4 ⟨rfl, hb⟩
  have B4 := Lib.hid (B3.out.trans (hb.mono B3.out.size))
  have o4 := o3.below hb (Nat.le_refl _)
  obtain ⟨g, rfl, hg1, hg2⟩ := o4.form (by omega)
  obtain ⟨z6, c6⟩ := o4.there 16 (by omega)
  obtain ⟨z7, c7⟩ := o4.there 17 (by omega)
  have f6 := o4.free 16 (by omega)
  have f7 := o4.free 17 (by omega)
  have hnc := h3.2.1
  have hcm := h3.2.2.1
  unfold maxLen at hcm
  have o5 := Lib.hid (o4.set 16 (K / 256) (by omega) (by omega))
  have o6 := Lib.hid (o5.out.set 17 (K % 256) (by omega) (by omega))
  have B6 := Lib.hid ((B4.out.setCell (p := ⟨g, 16, none⟩) (by show w.heap.size ≤ g; omega) (.int .u8 (K / 256))).setCell (p := ⟨g, 17, none⟩) (by show w.heap.size ≤ g; omega) (.int .u8 (K % 256)))
  obtain ⟨N, hN⟩ : ∃ N, N = 20 + p.opt.size + n := ⟨_, rfl⟩
  rw [← hN] at o6 ⊢
  have NH := Lib.hid hN
  have i6 : 16 < N := by omega
  have i7 : 17 < N := by omega
  have i6' : (16 : Int) < (N : Int) := by omega
  have i7' : (17 : Int) < (N : Int) := by omega
  clear hb o3 o4 h3 hN
  go_wp2_with fail
  go_ret2
  have o7 := o6.out.mono hb2
  rw [raw_set ck.1 ck.2] at o7
  refine ⟨_, rfl, ?_, B6.out⟩
  rw [EB.out, ← NH.out]
  exact o7
end Go.Proofs.Ytadjkidjkgnkoaa.Seg5
