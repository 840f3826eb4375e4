/- The law SegBack. -/
import Derived.Test.YtadjkidjkgnkoaaLawLays
set_option linter.unusedVariables false
namespace Go.Proofs.Ytadjkidjkgnkoaa.LawBack
open Go.RowKit Go.Sort Go.Proofs.Ytadjkidjkgnkoaa.Sums Go.Proofs.Ytadjkidjkgnkoaa.Words Go.Proofs.Ytadjkidjkgnkoaa.Mem Go.Proofs.Ytadjkidjkgnkoaa.Ahead Go.Proofs.Ytadjkidjkgnkoaa.SegD Go.Proofs.Ytadjkidjkgnkoaa.Blk Go.Proofs.Ytadjkidjkgnkoaa.Bits Go.Proofs.Ytadjkidjkgnkoaa.InetSum Go.Proofs.Ytadjkidjkgnkoaa.Steps Go.Proofs.Ytadjkidjkgnkoaa.Free Go.Proofs.Ytadjkidjkgnkoaa.Cut
open Go.Proofs.Ytadjkidjkgnkoaa.Com Go.Proofs.Ytadjkidjkgnkoaa.Seg1 Go.Proofs.Ytadjkidjkgnkoaa.Seg3 Go.Proofs.Ytadjkidjkgnkoaa.Seg5 Go.Proofs.Ytadjkidjkgnkoaa.Seg6 Go.Proofs.Ytadjkidjkgnkoaa.SegA Go.Proofs.Ytadjkidjkgnkoaa.LawParses
open Go.Proofs.Ytadjkidjkgnkoaa.Regs (cell_getD)

/-! ### Plain facts -/
/-- Two encodings that differ in their checks alone. -/
theorem raw_but (p : Sg) (k m : Int) (l : List Int) (i : Nat) (h16 : i ≠ 16) (h17 : i ≠ 17) : (p.raw k l).getD i 0 = (p.raw m l).getD i 0 := by
  rcases Nat.lt_or_ge i 16 with h | h
  · rcases (show i = 0 ∨ i = 1 ∨ i = 2 ∨ i = 3 ∨ i = 4 ∨ i = 5 ∨ i = 6 ∨ i = 7 ∨ i = 8 ∨ i = 9 ∨ i = 10 ∨ i = 11 ∨ i = 12 ∨ i = 13 ∨ i = 14 ∨ i = 15 by omega) with rfl | rfl | rfl | rfl | rfl | rfl | rfl | rfl | rfl | rfl | rfl | rfl | rfl | rfl | rfl | rfl <;> rfl
  · obtain ⟨j, rfl⟩ : ∃ j, i = j + 18 := ⟨i - 18, by omega⟩
    rfl
/-- What is read of bytes and laid down again. -/
theorem read_again {l : List Int} {s d : ByteArray} (hl : Bytes l) (h : perr l s d = 0) : (∀ i, i ≠ 16 → i ≠ 17 → ((sgOf l).bytes s d (l.drop (hdOf l))).getD i 0 = l.getD i 0) ∧
    (w16 l 16 = w16 ((sgOf l).bytes s d (l.drop (hdOf l))) 16 ∨ (w16 l 16 = 65535 ∧ w16 ((sgOf l).bytes s d (l.drop (hdOf l))) 16 = 0)) := by
  have rr := read_raw hl h
  have rb := read_bytes hl h
  have e := rb.1
  refine ⟨fun i h1 h2 => ?_, ?_⟩
  · rw [e, raw_but _ _ (w16 l 16) _ i h1 h2, rr]
  · rw [e, (raw_get _ _ _).2.2.2.2.2.1]
    exact rb.2
theorem read_err {l : List Int} {s d : ByteArray} {n4 : Nat} (hl : Bytes l) (h : perr l s d = 0) (hn : n4 = l.length - hdOf l) : (sgOf l).err s d n4 = 0 ∧ 20 + (sgOf l).opt.size + n4 = l.length ∧ 20 ≤ l.length ∧ l.length ≤ 65535 := by
  have z := perr_zero h
  obtain ⟨V, h1, h2⟩ := read_valid hl h
  exact ⟨Sg.err_make z.1 (Sg.chk_make V (by omega)), by omega, z.2.1, z.2.2.2.1⟩

set_option maxRecDepth 100000 in
theorem back_no (p : Sg) (A : Option Addr) (n c : Nat) (A2 : Option Addr) (n2 c2 : Nat) (s d : ByteArray) (w : World) (h0 : p.opt.size ≤ 140737488355328) (h1 : s.size ≤ 140737488355328) (h2 : d.size ≤ 140737488355328) (h3 : n ≤ 140737488355328) (hf : fewB p n = false ∨ (fewB p n = true ∧ (3000 < n2 ∨ (n2 ≤ 3000 ∧ 300 < s.size + d.size)))) :
    Calls Try.prog 6 #[.agg #[.int .i64 p.src, .int .i64 p.dst, .int .i64 p.seq, .int .i64 p.ack, .int .i64 p.flags, .int .i64 p.window, .int .i64 p.urgent, .string p.opt, .slice A n c], .slice A2 n2 c2, .string s, .string d] w (Yes w) := by
  have B0 := Lib.hid ((Below.refl w.heap.size w).alloc (Nat.le_refl _) (.cells #[.int .i64 p.src, .int .i64 p.dst, .int .i64 p.seq, .int .i64 p.ack, .int .i64 p.flags, .int .i64 p.window, .int .i64 p.urgent, .string p.opt, .slice A n c] 24))
  have P0 := Lib.hid (Blk.new w 24 #[.int .i64 p.src, .int .i64 p.dst, .int .i64 p.seq, .int .i64 p.ack, .int .i64 p.flags, .int .i64 p.window, .int .i64 p.urgent, .string p.opt, .slice A n c])
  have F := Lib.hid (fun W => few_any p A n c W h0 h3)
  rcases hf with hf | ⟨hf, h4 | ⟨h4, hs⟩⟩
  · rw [hf] at F
    clear hf
    go_enter Try.func6, Try.ntmps6
    go_wp2_with (first
      | (refine Loads.wpList_load_w rfl 24 (.tmp 4) rfl w.heap.size rfl 24 #[.int .i64 p.src, .int .i64 p.dst, .int .i64 p.seq, .int .i64 p.ack, .int .i64 p.flags, .int .i64 p.window, .int .i64 p.urgent, .string p.opt, .slice A n c] (0, 0) _ P0.out (Try.underlying24) rfl (by kernel_rfl) ?_))
    refine (F.out _).mono ?_
    rintro e w1 ⟨rfl, hb⟩
    have B1 := Lib.hid (B0.out.trans (hb.mono B0.out.size))
    clear hb
    go_wp2_with fail
    go_ret
    exact ⟨rfl, B1.out⟩
  · rw [hf] at F
    have b4 : ((3000 : Int) < (n2 : Int)) = True := eq_true (by omega)
    clear h4
    clear hf
    go_enter Try.func6, Try.ntmps6
    go_wp2_with (first
      | (refine Loads.wpList_load_w rfl 24 (.tmp 4) rfl w.heap.size rfl 24 #[.int .i64 p.src, .int .i64 p.dst, .int .i64 p.seq, .int .i64 p.ack, .int .i64 p.flags, .int .i64 p.window, .int .i64 p.urgent, .string p.opt, .slice A n c] (0, 0) _ P0.out (Try.underlying24) rfl (by kernel_rfl) ?_))
    refine (F.out _).mono ?_
    rintro e w1 ⟨rfl, hb⟩
    have B1 := Lib.hid (B0.out.trans (hb.mono B0.out.size))
    clear hb
    go_wp2_with fail
    go_ret
    exact ⟨rfl, B1.out⟩
  · rw [hf] at F
    have b4 : ((3000 : Int) < (n2 : Int)) = False := eq_false (by omega)
    have b5 : ((300 : Int) < (s.size : Int) + (d.size : Int)) = True := eq_true (by omega)
    clear h4 hs
    clear hf
    go_enter Try.func6, Try.ntmps6
    go_wp2_with (first
      | (refine Loads.wpList_load_w rfl 24 (.tmp 4) rfl w.heap.size rfl 24 #[.int .i64 p.src, .int .i64 p.dst, .int .i64 p.seq, .int .i64 p.ack, .int .i64 p.flags, .int .i64 p.window, .int .i64 p.urgent, .string p.opt, .slice A n c] (0, 0) _ P0.out (Try.underlying24) rfl (by kernel_rfl) ?_))
    refine (F.out _).mono ?_
    rintro e w1 ⟨rfl, hb⟩
    have B1 := Lib.hid (B0.out.trans (hb.mono B0.out.size))
    clear hb
    go_wp2_with fail
    go_ret
    exact ⟨rfl, B1.out⟩

set_option maxHeartbeats 4000000 in
set_option maxRecDepth 100000 in
theorem back_err (p : Sg) (A : Option Addr) (n c : Nat) (l : List Int) (A2 : Option Addr) (n2 c2 : Nat) (l2 : List Int) (s d : ByteArray) (w : World) (h : Holds w w.heap.size A n c l) (h2 : Holds w w.heap.size A2 n2 c2 l2) (h0 : p.opt.size ≤ 140737488355328) (h3 : n ≤ 140737488355328) (hf : fewB p n = true) (hs : s.size + d.size ≤ 300) (h4 : n2 ≤ 3000) (he : p.err s d n ≠ 0) :
    Calls Try.prog 6 #[.agg #[.int .i64 p.src, .int .i64 p.dst, .int .i64 p.seq, .int .i64 p.ack, .int .i64 p.flags, .int .i64 p.window, .int .i64 p.urgent, .string p.opt, .slice A n c], .slice A2 n2 c2, .string s, .string d] w (Yes w) := by
  have B0 := Lib.hid ((Below.refl w.heap.size w).alloc (Nat.le_refl _) (.cells #[.int .i64 p.src, .int .i64 p.dst, .int .i64 p.seq, .int .i64 p.ack, .int .i64 p.flags, .int .i64 p.window, .int .i64 p.urgent, .string p.opt, .slice A n c] 24))
  have P0 := Lib.hid (Blk.new w 24 #[.int .i64 p.src, .int .i64 p.dst, .int .i64 p.seq, .int .i64 p.ack, .int .i64 p.flags, .int .i64 p.window, .int .i64 p.urgent, .string p.opt, .slice A n c])
  have F := Lib.hid (fun W => few_any p A n c W h0 h3)
  have fw := few_true hf
  have n66 := fw.2
  have z66 := fw.1
  rw [hf] at F
  have HE := Lib.hid he
  have HL := Lib.hid h
  have H2 := Lib.hid h2
  have b4 : ((3000 : Int) < (n2 : Int)) = False := eq_false (by omega)
  have b5 : ((300 : Int) < (s.size : Int) + (d.size : Int)) = False := eq_false (by omega)
  clear hf h he h2 fw
  go_enter Try.func6, Try.ntmps6
  go_wp2_with (first
    | (refine Loads.wpList_load_w rfl 24 (.tmp 4) rfl w.heap.size rfl 24 #[.int .i64 p.src, .int .i64 p.dst, .int .i64 p.seq, .int .i64 p.ack, .int .i64 p.flags, .int .i64 p.window, .int .i64 p.urgent, .string p.opt, .slice A n c] (0, 0) _ P0.out (Try.underlying24) rfl (by kernel_rfl) ?_))
  refine (F.out _).mono ?_
  rintro e w1 ⟨rfl, hb⟩
  have B1 := Lib.hid (B0.out.trans (hb.mono B0.out.size))
  have P1 := Lib.hid (P0.out.below hb P0.out.lt)
  clear hb P0 F B0
  go_wp2_with (first
    | (refine Loads.wpList_load_w rfl 24 (.tmp 4) rfl w.heap.size rfl 24 #[.int .i64 p.src, .int .i64 p.dst, .int .i64 p.seq, .int .i64 p.ack, .int .i64 p.flags, .int .i64 p.window, .int .i64 p.urgent, .string p.opt, .slice A n c] (0, 0) _ P1.out (Try.underlying24) rfl (by kernel_rfl) ?_))
  have h0 : (p.err s d n == 0) = false := by rw [beq_eq_false_iff_ne]; exact HE.out
  refine (bytes_err p A n c s d w1 (by omega) (by omega) HE.out).mono ?_
  rintro e w2 ⟨rfl, hb⟩
  have B2 := Lib.hid (B1.out.trans (hb.mono B1.out.size))
  clear hb P1
  generalize p.err s d n = pe0 at *
  go_wp2_with fail
  refine (parse_any s d A2 n2 c2 l2 w2 w.heap.size (H2.out.below B2.out) B2.out.size (by omega)).mono ?_
  rintro e wp ⟨gp, hb⟩
  have BP := Lib.hid (B2.out.trans (hb.mono B2.out.size))
  have hsb := B2.out.size
  have hbp := hb.size
  clear hb
  rcases gp with ⟨pz, A4, n4, c4, rfl, o4⟩ | ⟨pz, rfl⟩
  · have l2n : l2.length = n2 := H2.out.1
    have RA := Lib.hid (read_again H2.out.2.2.2.1 pz)
    have n4e : n4 = l2.length - hdOf l2 := by have := o4.len; rw [List.length_drop] at this; omega
    have RE := read_err H2.out.2.2.2.1 pz n4e
    obtain ⟨q, hq⟩ : ∃ q, q = sgOf l2 := ⟨_, rfl⟩
    rw [← hq] at RA RE ⊢
    have EH := Lib.hid RE.1
    have nn : 20 + q.opt.size + n4 = n2 := by omega
    have n20 : 20 ≤ n2 := by omega
    have n4l : n4 ≤ 3000 := by omega
    have NN := Lib.hid nn
    have O4 := Lib.hid o4.holds
    obtain ⟨dl, hdl⟩ : ∃ dl, dl = l2.drop (hdOf l2) := ⟨_, rfl⟩
    rw [← hdl] at RA O4
    clear o4 hq hdl pz n4e l2n RE nn
    have PV := Lib.hid (Blk.new wp 24 #[.int .i64 q.src, .int .i64 q.dst, .int .i64 q.seq, .int .i64 q.ack, .int .i64 q.flags, .int .i64 q.window, .int .i64 q.urgent, .string q.opt, .slice A4 n4 c4])
    have BV := Lib.hid (BP.out.alloc BP.out.size (.cells #[.int .i64 q.src, .int .i64 q.dst, .int .i64 q.seq, .int .i64 q.ack, .int .i64 q.flags, .int .i64 q.window, .int .i64 q.urgent, .string q.opt, .slice A4 n4 c4] 24))
    have CV := Lib.hid ((Below.refl _ wp).alloc (Nat.le_refl _) (.cells #[.int .i64 q.src, .int .i64 q.dst, .int .i64 q.seq, .int .i64 q.ack, .int .i64 q.flags, .int .i64 q.window, .int .i64 q.urgent, .string q.opt, .slice A4 n4 c4] 24))
    go_wp2_with (first
      | (refine Loads.wpList_load_w rfl 24 (.tmp 15) rfl wp.heap.size rfl 24 #[.int .i64 q.src, .int .i64 q.dst, .int .i64 q.seq, .int .i64 q.ack, .int .i64 q.flags, .int .i64 q.window, .int .i64 q.urgent, .string q.opt, .slice A4 n4 c4] (0, 0) _ PV.out (Try.underlying24) rfl (by kernel_rfl) ?_))
    refine (bytes_ok q A4 n4 c4 dl s d _ _ ((O4.out.below CV.out).more CV.out.size) (Nat.le_refl _) EH.out).mono ?_
    rintro e wx ⟨vx, rfl, ox, hb⟩
    have BX := Lib.hid (BV.out.trans (hb.mono BV.out.size))
    rw [NN.out] at ox
    obtain ⟨L5, hL5⟩ : ∃ L5, L5 = q.bytes s d dl := ⟨_, rfl⟩
    rw [← hL5] at ox RA
    obtain ⟨A5, c5, rfl, h5⟩ := ox.slice
    have H5 := Lib.hid h5
    clear hb ox h5 PV BV CV O4 EH BP hL5 NN
    obtain ⟨b2, o2, rfl, _⟩ := H2.out.2.2.2.2 (by omega)
    obtain ⟨b5, o5, rfl, _⟩ := H5.out.2.2.2.2 (by omega)
    have n3k : n2 ≤ 3000 := h4
    have g20 : decide ((n2 : Int) < 20) = false := decide_eq_false (by omega)
    have g20' : decide (n2 < 20) = false := decide_eq_false (by omega)
    have gnn : ((n2 : Int) != (n2 : Int)) = false := by simp
    go_wp2_with fail
    clear g20 g20' gnn
    go_loopw [19] (fun i wr => ∃ k : Nat, i = .int .i64 (k : Int) ∧ k ≤ n2 ∧ Hid (Below wx.heap.size wx wr)) (fun i _ => n2 - (intOf i).toNat)
    case atStart => exact ⟨0, rfl, by omega, Lib.hid (Below.refl _ _)⟩
    case round =>
      obtain ⟨k, rfl, hk, HB⟩ := hrel
      have hbx := BX.out.size
      have H2r := Lib.hid (H2.out.below (BX.out.trans (HB.out.mono hbx)))
      have H5r := Lib.hid (H5.out.below HB.out)
      by_cases hlt : k < n2
      · by_cases k16 : k = 16
        · subst k16
          go_wp2_with fail
          go_quiet (fail)
          go_wp2_with fail
          go_roundw
          case rel => exact ⟨17, by go_num, by omega, Lib.hid (below_drewN HB.out nq)⟩
          case measure => simp [intOf]; omega
        · by_cases k17 : k = 17
          · subst k17
            go_wp2_with fail
            go_quiet (fail)
            go_wp2_with fail
            go_roundw
            case rel => exact ⟨18, by go_num, by omega, Lib.hid (below_drewN HB.out nq)⟩
            case measure => simp [intOf]; omega
          · have c2k := cell_getD H2r.out k hlt
            have c5k := cell_getD H5r.out k hlt
            rw [RA.out.1 k k16 k17] at c5k
            have g16 : ((k : Int) != 16) = true := by rw [bne_iff_ne]; omega
            have g17 : ((k : Int) != 17) = true := by rw [bne_iff_ne]; omega
            generalize l2.getD k 0 = y0 at *
            have e1 : IntKind.i64.wrap ((k : Int) + 1) = (k : Int) + 1 := IntWalk.i64_in _ (by omega)
            clear k16 k17
            go_wp2_with fail
            go_quiet (fail)
            go_wp2_with fail
            go_roundw
            case rel => exact ⟨k + 1, by go_num, by omega, Lib.hid (below_drewN HB.out nq)⟩
            case measure => simp [intOf]; omega
      · obtain rfl : k = n2 := by omega
        have BW := Lib.hid (BX.out.trans (HB.out.mono hbx))
        have c6 := cell_getD H2r.out 16 (by omega)
        have c7 := cell_getD H2r.out 17 (by omega)
        have d6 := cell_getD H5r.out 16 (by omega)
        have d7 := cell_getD H5r.out 17 (by omega)
        have i6 : 16 < k := by omega
        have i7 : 17 < k := by omega
        have i6' : (16 : Int) < (k : Int) := by omega
        have i7' : (17 : Int) < (k : Int) := by omega
        have y6 := getD_in H2.out.2.2.2.1 16
        have y7 := getD_in H2.out.2.2.2.1 17
        have z6 := getD_in H5.out.2.2.2.1 16
        have z7 := getD_in H5.out.2.2.2.1 17
        have X : w16 l2 16 = 256 * l2.getD 16 0 + l2.getD 17 0 := rfl
        have Y : w16 L5 16 = 256 * L5.getD 16 0 + L5.getD 17 0 := rfl
        have R2 := RA.out.2
        rw [X, Y] at R2
        have RR := Lib.hid R2
        clear X Y R2 RA H2r H5r HB H5
        generalize l2.getD 16 0 = u6 at *
        generalize l2.getD 17 0 = u7 at *
        generalize L5.getD 16 0 = v6 at *
        generalize L5.getD 17 0 = v7 at *
        have e1 : IntKind.i64.wrap (256 * u6) = 256 * u6 := IntWalk.i64_in _ (by omega)
        have e2 : IntKind.i64.wrap (256 * u6 + u7) = 256 * u6 + u7 := IntWalk.i64_in _ (by omega)
        have e3 : IntKind.i64.wrap u6 = u6 := IntWalk.i64_in _ (by omega)
        have e4 : IntKind.i64.wrap u7 = u7 := IntWalk.i64_in _ (by omega)
        have f1 : IntKind.i64.wrap (256 * v6) = 256 * v6 := IntWalk.i64_in _ (by omega)
        have f2 : IntKind.i64.wrap (256 * v6 + v7) = 256 * v6 + v7 := IntWalk.i64_in _ (by omega)
        have f3 : IntKind.i64.wrap v6 = v6 := IntWalk.i64_in _ (by omega)
        have f4 : IntKind.i64.wrap v7 = v7 := IntWalk.i64_in _ (by omega)
        go_wp2_with fail
        go_quiet (fail)
        have BW1 : Hid (Below w.heap.size w (wr.drewN nq)) := Lib.hid (below_drewN BW.out nq)
        have d6' : (wr.drewN nq).cell? ⟨b5, o5 + 16, none⟩ = some (.int .u8 v6) := d6
        have d7' : (wr.drewN nq).cell? ⟨b5, o5 + 17, none⟩ = some (.int .u8 v7) := d7
        clear BW c6 c7 d6 d7
        generalize wr.drewN nq = wy at *
        clear e1 e2 e3 e4
        go_wp2_with fail
        go_quiet (fail)
        have BW2 : Hid (Below w.heap.size w (wy.drewN nq)) := Lib.hid (below_drewN BW1.out nq)
        clear BW1 d6' d7' f1 f2 f3 f4
        generalize wy.drewN nq = wz at *
        go_wp2_with fail
        refine (awake_any _).mono ?_
        rintro e wv ⟨rfl, hb⟩
        have BZ := Lib.hid (BW2.out.trans (hb.mono BW2.out.size))
        clear hb BW2
        obtain ⟨X0, hX⟩ : ∃ X0, X0 = 256 * u6 + u7 := ⟨_, rfl⟩
        obtain ⟨Y0, hY⟩ : ∃ Y0, Y0 = 256 * v6 + v7 := ⟨_, rfl⟩
        rw [← hX, ← hY] at RR ⊢
        clear hX hY y6 y7 z6 z7
        by_cases xy : X0 = Y0
        · have g0 : (X0 == Y0) = true := beq_iff_eq.2 xy
          clear RR xy
          go_wp2_with fail
          go_ret
          exact ⟨rfl, BZ.out⟩
        · have g0 : (X0 == Y0) = false := beq_eq_false_iff_ne.2 xy
          have r := RR.out.resolve_left xy
          obtain ⟨r1, r2⟩ := r
          subst r1 r2
          clear RR xy
          go_wp2_with fail
          go_ret
          exact ⟨rfl, BZ.out⟩
  · obtain ⟨pe, hpe⟩ : ∃ pe, pe = perr l2 s d := ⟨_, rfl⟩
    have q : (pe != 0) = true := by rw [bne_iff_ne, hpe]; exact pz
    rw [← hpe]
    clear hpe pz
    have PV := Lib.hid (Blk.new wp 24 #[.int .i64 0, .int .i64 0, .int .i64 0, .int .i64 0, .int .i64 0, .int .i64 0, .int .i64 0, .string ⟨#[]⟩, .slice none 0 0])
    have BV := Lib.hid (BP.out.alloc BP.out.size (.cells #[.int .i64 0, .int .i64 0, .int .i64 0, .int .i64 0, .int .i64 0, .int .i64 0, .int .i64 0, .string ⟨#[]⟩, .slice none 0 0] 24))
    go_wp2_with fail
    refine (awake_any _).mono ?_
    rintro e wy ⟨rfl, hb⟩
    have BY := Lib.hid (BV.out.trans (hb.mono BV.out.size))
    have PY := Lib.hid (PV.out.below hb PV.out.lt)
    have SY := Lib.hid (same_yes Sg.zero none 0 0 none 0 0 [] 0 wy (Holds.nil _ _ _) (Holds.nil _ _ _) (Nat.zero_le _))
    clear hb PV BV BP
    go_wp2_with (first
      | (refine Loads.wpList_load_w rfl 24 (.tmp 15) rfl wp.heap.size rfl 24 #[.int .i64 0, .int .i64 0, .int .i64 0, .int .i64 0, .int .i64 0, .int .i64 0, .int .i64 0, .string ⟨#[]⟩, .slice none 0 0] (0, 0) _ PY.out (Try.underlying24) rfl (by kernel_rfl) ?_))
    refine SY.out.mono ?_
    rintro e wz ⟨rfl, hb⟩
    have BZ := Lib.hid (BY.out.trans (hb.mono BY.out.size))
    clear hb
    go_wp2_with fail
    go_ret
    exact ⟨rfl, BZ.out⟩

set_option maxHeartbeats 4000000 in
set_option maxRecDepth 100000 in
theorem back_ok (p : Sg) (A : Option Addr) (n c : Nat) (l : List Int) (A2 : Option Addr) (n2 c2 : Nat) (l2 : List Int) (s d : ByteArray) (w : World) (h : Holds w w.heap.size A n c l) (h2 : Holds w w.heap.size A2 n2 c2 l2) (h0 : p.opt.size ≤ 140737488355328) (h3 : n ≤ 140737488355328) (hf : fewB p n = true) (hs : s.size + d.size ≤ 300) (h4 : n2 ≤ 3000) (he : p.err s d n = 0) :
    Calls Try.prog 6 #[.agg #[.int .i64 p.src, .int .i64 p.dst, .int .i64 p.seq, .int .i64 p.ack, .int .i64 p.flags, .int .i64 p.window, .int .i64 p.urgent, .string p.opt, .slice A n c], .slice A2 n2 c2, .string s, .string d] w (Yes w) := by
  have B0 := Lib.hid ((Below.refl w.heap.size w).alloc (Nat.le_refl _) (.cells #[.int .i64 p.src, .int .i64 p.dst, .int .i64 p.seq, .int .i64 p.ack, .int .i64 p.flags, .int .i64 p.window, .int .i64 p.urgent, .string p.opt, .slice A n c] 24))
  have P0 := Lib.hid (Blk.new w 24 #[.int .i64 p.src, .int .i64 p.dst, .int .i64 p.seq, .int .i64 p.ack, .int .i64 p.flags, .int .i64 p.window, .int .i64 p.urgent, .string p.opt, .slice A n c])
  have F := Lib.hid (fun W => few_any p A n c W h0 h3)
  have fw := few_true hf
  have n66 := fw.2
  have z66 := fw.1
  rw [hf] at F
  have HE := Lib.hid he
  have HL := Lib.hid h
  have H2 := Lib.hid h2
  have b4 : ((3000 : Int) < (n2 : Int)) = False := eq_false (by omega)
  have b5 : ((300 : Int) < (s.size : Int) + (d.size : Int)) = False := eq_false (by omega)
  clear hf h he h2 fw
  go_enter Try.func6, Try.ntmps6
  go_wp2_with (first
    | (refine Loads.wpList_load_w rfl 24 (.tmp 4) rfl w.heap.size rfl 24 #[.int .i64 p.src, .int .i64 p.dst, .int .i64 p.seq, .int .i64 p.ack, .int .i64 p.flags, .int .i64 p.window, .int .i64 p.urgent, .string p.opt, .slice A n c] (0, 0) _ P0.out (Try.underlying24) rfl (by kernel_rfl) ?_))
  refine (F.out _).mono ?_
  rintro e w1 ⟨rfl, hb⟩
  have B1 := Lib.hid (B0.out.trans (hb.mono B0.out.size))
  have P1 := Lib.hid (P0.out.below hb P0.out.lt)
  clear hb P0 F B0
  go_wp2_with (first
    | (refine Loads.wpList_load_w rfl 24 (.tmp 4) rfl w.heap.size rfl 24 #[.int .i64 p.src, .int .i64 p.dst, .int .i64 p.seq, .int .i64 p.ack, .int .i64 p.flags, .int .i64 p.window, .int .i64 p.urgent, .string p.opt, .slice A n c] (0, 0) _ P1.out (Try.underlying24) rfl (by kernel_rfl) ?_))
  have EZ := Sg.err_zero HE.out
  have VZ := Sg.chk_zero EZ.2
  have LN := HL.out.1
  have PE := bytes_perr VZ.1 EZ.1 HL.out.2.2.2.1 (by omega)
  have PC := perr_comm (s := s) (d := d) (l := p.bytes s d l) (bytes_bytes VZ.1 s d HL.out.2.2.2.1) (by rw [bytes_len]; omega)
  have PEH := Lib.hid PE
  have PEC := Lib.hid (PC.symm.trans PE)
  have SGH : Hid (sgOf (p.bytes s d l) = p) := Lib.hid (raw_sg VZ.1 _ _)
  have SDH : Hid ((p.bytes s d l).drop (hdOf (p.bytes s d l)) = l) := Lib.hid (raw_data VZ.1 _ _)
  have NB : 20 + p.opt.size + n ≤ 65535 := VZ.2
  clear EZ VZ PE PC LN
  refine (bytes_ok p A n c l s d w1 w.heap.size (HL.out.below B1.out) B1.out.size HE.out).mono ?_
  rintro e w2 ⟨v2, rfl, ov, hb⟩
  have B2 := Lib.hid (B1.out.trans (hb.mono B1.out.size))
  have P2 := Lib.hid (P1.out.below hb P1.out.lt)
  obtain ⟨N, hN⟩ : ∃ N, N = 20 + p.opt.size + n := ⟨_, rfl⟩
  rw [← hN] at ov NB
  obtain ⟨LB, hLB⟩ : ∃ LB, LB = p.bytes s d l := ⟨_, rfl⟩
  rw [← hLB] at ov PEH PEC SGH SDH
  obtain ⟨Ab, cb, rfl, hv⟩ := ov.slice
  have HV := Lib.hid hv
  clear hb P1 ov hv hN hLB
  go_wp2_with fail
  refine (parse_any s d Ab N cb LB w2 w2.heap.size HV.out (Nat.le_refl _) (by omega)).mono ?_
  rintro e w3 ⟨g3, hb⟩
  have B3 := Lib.hid (B2.out.trans (hb.mono B2.out.size))
  have P3 := Lib.hid (P2.out.below hb P2.out.lt)
  have C3 := Lib.hid hb
  clear hb
  rcases g3 with ⟨_, A6, n6, c6, rfl, o6⟩ | ⟨q3, _⟩
  case inr => exact absurd PEH.out q3
  rw [SGH.out]
  rw [SDH.out] at o6
  obtain rfl : n6 = n := by have a := o6.len; have b := HL.out.1; omega
  have H6 := Lib.hid o6.holds
  clear o6
  have Q3 := Lib.hid (Blk.new w3 24 #[.int .i64 p.src, .int .i64 p.dst, .int .i64 p.seq, .int .i64 p.ack, .int .i64 p.flags, .int .i64 p.window, .int .i64 p.urgent, .string p.opt, .slice A6 n6 c6])
  have B3a := Lib.hid (B3.out.alloc B3.out.size (.cells #[.int .i64 p.src, .int .i64 p.dst, .int .i64 p.seq, .int .i64 p.ack, .int .i64 p.flags, .int .i64 p.window, .int .i64 p.urgent, .string p.opt, .slice A6 n6 c6] 24))
  have P3a := Lib.hid (P3.out.alloc (.cells #[.int .i64 p.src, .int .i64 p.dst, .int .i64 p.seq, .int .i64 p.ack, .int .i64 p.flags, .int .i64 p.window, .int .i64 p.urgent, .string p.opt, .slice A6 n6 c6] 24))
  have C3a := Lib.hid (C3.out.alloc C3.out.size (.cells #[.int .i64 p.src, .int .i64 p.dst, .int .i64 p.seq, .int .i64 p.ack, .int .i64 p.flags, .int .i64 p.window, .int .i64 p.urgent, .string p.opt, .slice A6 n6 c6] 24))
  have D3a := Lib.hid ((Below.refl _ w3).alloc (Nat.le_refl _) (.cells #[.int .i64 p.src, .int .i64 p.dst, .int .i64 p.seq, .int .i64 p.ack, .int .i64 p.flags, .int .i64 p.window, .int .i64 p.urgent, .string p.opt, .slice A6 n6 c6] 24))
  go_wp2_with fail
  refine (parse_any d s Ab N cb LB _ w2.heap.size (HV.out.below C3a.out) C3a.out.size (by omega)).mono ?_
  rintro e w4 ⟨g4, hb⟩
  have B4 := Lib.hid (B3a.out.trans (hb.mono B3a.out.size))
  have P4 := Lib.hid (P3a.out.below hb P3a.out.lt)
  have Q4 := Lib.hid (Q3.out.below hb Q3.out.lt)
  have D4 := Lib.hid (D3a.out.trans (hb.mono D3a.out.size))
  clear hb B3a P3a C3a D3a Q3 P3 B3 C3 P2
  rcases g4 with ⟨_, A7, n7, c7, rfl, o7⟩ | ⟨q4, _⟩
  case inr => exact absurd PEC.out q4
  rw [SGH.out]
  rw [SDH.out] at o7
  obtain rfl : n7 = n6 := by have a := o7.len; have b := HL.out.1; omega
  have H7 := Lib.hid o7.holds
  clear o7
  have R4 := Lib.hid (Blk.new w4 24 #[.int .i64 p.src, .int .i64 p.dst, .int .i64 p.seq, .int .i64 p.ack, .int .i64 p.flags, .int .i64 p.window, .int .i64 p.urgent, .string p.opt, .slice A7 n7 c7])
  have B5 := Lib.hid (B4.out.alloc B4.out.size (.cells #[.int .i64 p.src, .int .i64 p.dst, .int .i64 p.seq, .int .i64 p.ack, .int .i64 p.flags, .int .i64 p.window, .int .i64 p.urgent, .string p.opt, .slice A7 n7 c7] 24))
  have P5 := Lib.hid (P4.out.alloc (.cells #[.int .i64 p.src, .int .i64 p.dst, .int .i64 p.seq, .int .i64 p.ack, .int .i64 p.flags, .int .i64 p.window, .int .i64 p.urgent, .string p.opt, .slice A7 n7 c7] 24))
  have Q5 := Lib.hid (Q4.out.alloc (.cells #[.int .i64 p.src, .int .i64 p.dst, .int .i64 p.seq, .int .i64 p.ack, .int .i64 p.flags, .int .i64 p.window, .int .i64 p.urgent, .string p.opt, .slice A7 n7 c7] 24))
  have E5 := Lib.hid ((Below.refl _ w4).alloc (Nat.le_refl _) (.cells #[.int .i64 p.src, .int .i64 p.dst, .int .i64 p.seq, .int .i64 p.ack, .int .i64 p.flags, .int .i64 p.window, .int .i64 p.urgent, .string p.opt, .slice A7 n7 c7] 24))
  have D5 := Lib.hid (D4.out.trans (E5.out.mono D4.out.size))
  clear P4 Q4 D4 B4
  have hz5 : (w4.alloc (.cells #[.int .i64 p.src, .int .i64 p.dst, .int .i64 p.seq, .int .i64 p.ack, .int .i64 p.flags, .int .i64 p.window, .int .i64 p.urgent, .string p.opt, .slice A7 n7 c7] 24)).heap.size = w4.heap.size + 1 := by simp
  have SY1 := Lib.hid (fun W (bel : Below (w4.alloc (.cells #[.int .i64 p.src, .int .i64 p.dst, .int .i64 p.seq, .int .i64 p.ack, .int .i64 p.flags, .int .i64 p.window, .int .i64 p.urgent, .string p.opt, .slice A7 n7 c7] 24)).heap.size (w4.alloc (.cells #[.int .i64 p.src, .int .i64 p.dst, .int .i64 p.seq, .int .i64 p.ack, .int .i64 p.flags, .int .i64 p.window, .int .i64 p.urgent, .string p.opt, .slice A7 n7 c7] 24)) W) => same_yes p A n7 c A6 n7 c6 l W.heap.size W ((HL.out.below (B5.out.trans (bel.mono B5.out.size))).more (Nat.le_trans B5.out.size bel.size)) ((H6.out.below (D5.out.trans (bel.mono D5.out.size))).more (Nat.le_trans D5.out.size bel.size)) (Nat.le_refl _))
  have SY2 := Lib.hid (fun W (bel : Below (w4.alloc (.cells #[.int .i64 p.src, .int .i64 p.dst, .int .i64 p.seq, .int .i64 p.ack, .int .i64 p.flags, .int .i64 p.window, .int .i64 p.urgent, .string p.opt, .slice A7 n7 c7] 24)).heap.size (w4.alloc (.cells #[.int .i64 p.src, .int .i64 p.dst, .int .i64 p.seq, .int .i64 p.ack, .int .i64 p.flags, .int .i64 p.window, .int .i64 p.urgent, .string p.opt, .slice A7 n7 c7] 24)) W) => same_yes p A n7 c A7 n7 c7 l W.heap.size W ((HL.out.below (B5.out.trans (bel.mono B5.out.size))).more (Nat.le_trans B5.out.size bel.size)) ((H7.out.below (E5.out.trans (bel.mono E5.out.size))).more (Nat.le_trans E5.out.size bel.size)) (Nat.le_refl _))
  clear H6 H7 D5 E5
  go_wp2_with (first
    | (refine Loads.wpList_load_w rfl 24 (.tmp 4) rfl w.heap.size rfl 24 #[.int .i64 p.src, .int .i64 p.dst, .int .i64 p.seq, .int .i64 p.ack, .int .i64 p.flags, .int .i64 p.window, .int .i64 p.urgent, .string p.opt, .slice A n7 c] (0, 0) _ P5.out (Try.underlying24) rfl (by kernel_rfl) ?_)
    | (refine Loads.wpList_load_w rfl 24 (.tmp 11) rfl w3.heap.size rfl 24 #[.int .i64 p.src, .int .i64 p.dst, .int .i64 p.seq, .int .i64 p.ack, .int .i64 p.flags, .int .i64 p.window, .int .i64 p.urgent, .string p.opt, .slice A6 n7 c6] (0, 0) _ Q5.out (Try.underlying24) rfl (by kernel_rfl) ?_))
  refine (SY1.out _ (Below.refl _ _)).mono ?_
  rintro e w6 ⟨rfl, hb⟩
  have SY3 := Lib.hid (SY2.out w6 hb)
  have B6 := Lib.hid (B5.out.trans (hb.mono B5.out.size))
  have P6 := Lib.hid (P5.out.below hb P5.out.lt)
  have R6 := Lib.hid (R4.out.below hb R4.out.lt)
  clear hb SY1 SY2 P5 Q5 R4 B5
  go_wp2_with (first
    | (refine Loads.wpList_load_w rfl 24 (.tmp 4) rfl w.heap.size rfl 24 #[.int .i64 p.src, .int .i64 p.dst, .int .i64 p.seq, .int .i64 p.ack, .int .i64 p.flags, .int .i64 p.window, .int .i64 p.urgent, .string p.opt, .slice A n7 c] (0, 0) _ P6.out (Try.underlying24) rfl (by kernel_rfl) ?_)
    | (refine Loads.wpList_load_w rfl 24 (.tmp 13) rfl w4.heap.size rfl 24 #[.int .i64 p.src, .int .i64 p.dst, .int .i64 p.seq, .int .i64 p.ack, .int .i64 p.flags, .int .i64 p.window, .int .i64 p.urgent, .string p.opt, .slice A7 n7 c7] (0, 0) _ R6.out (Try.underlying24) rfl (by kernel_rfl) ?_))
  refine SY3.out.mono ?_
  rintro e w7 ⟨rfl, hb⟩
  have B7 := Lib.hid (B6.out.trans (hb.mono B6.out.size))
  clear hb SY3 P6 R6 B6 hz5 PEH PEC SGH SDH HV
  go_wp2_with fail
  refine (parse_any s d A2 n2 c2 l2 w7 w.heap.size (H2.out.below B7.out) B7.out.size (by omega)).mono ?_
  rintro e wp ⟨gp, hb⟩
  have BP := Lib.hid (B7.out.trans (hb.mono B7.out.size))
  have hsb := B7.out.size
  have hbp := hb.size
  clear hb
  rcases gp with ⟨pz, A4, n4, c4, rfl, o4⟩ | ⟨pz, rfl⟩
  · have l2n : l2.length = n2 := H2.out.1
    have RA := Lib.hid (read_again H2.out.2.2.2.1 pz)
    have n4e : n4 = l2.length - hdOf l2 := by have := o4.len; rw [List.length_drop] at this; omega
    have RE := read_err H2.out.2.2.2.1 pz n4e
    obtain ⟨q, hq⟩ : ∃ q, q = sgOf l2 := ⟨_, rfl⟩
    rw [← hq] at RA RE ⊢
    have EH := Lib.hid RE.1
    have nn : 20 + q.opt.size + n4 = n2 := by omega
    have n20 : 20 ≤ n2 := by omega
    have n4l : n4 ≤ 3000 := by omega
    have NN := Lib.hid nn
    have O4 := Lib.hid o4.holds
    obtain ⟨dl, hdl⟩ : ∃ dl, dl = l2.drop (hdOf l2) := ⟨_, rfl⟩
    rw [← hdl] at RA O4
    clear o4 hq hdl pz n4e l2n RE nn
    have PV := Lib.hid (Blk.new wp 24 #[.int .i64 q.src, .int .i64 q.dst, .int .i64 q.seq, .int .i64 q.ack, .int .i64 q.flags, .int .i64 q.window, .int .i64 q.urgent, .string q.opt, .slice A4 n4 c4])
    have BV := Lib.hid (BP.out.alloc BP.out.size (.cells #[.int .i64 q.src, .int .i64 q.dst, .int .i64 q.seq, .int .i64 q.ack, .int .i64 q.flags, .int .i64 q.window, .int .i64 q.urgent, .string q.opt, .slice A4 n4 c4] 24))
    have CV := Lib.hid ((Below.refl _ wp).alloc (Nat.le_refl _) (.cells #[.int .i64 q.src, .int .i64 q.dst, .int .i64 q.seq, .int .i64 q.ack, .int .i64 q.flags, .int .i64 q.window, .int .i64 q.urgent, .string q.opt, .slice A4 n4 c4] 24))
    go_wp2_with (first
      | (refine Loads.wpList_load_w rfl 24 (.tmp 15) rfl wp.heap.size rfl 24 #[.int .i64 q.src, .int .i64 q.dst, .int .i64 q.seq, .int .i64 q.ack, .int .i64 q.flags, .int .i64 q.window, .int .i64 q.urgent, .string q.opt, .slice A4 n4 c4] (0, 0) _ PV.out (Try.underlying24) rfl (by kernel_rfl) ?_))
    refine (bytes_ok q A4 n4 c4 dl s d _ _ ((O4.out.below CV.out).more CV.out.size) (Nat.le_refl _) EH.out).mono ?_
    rintro e wx ⟨vx, rfl, ox, hb⟩
    have BX := Lib.hid (BV.out.trans (hb.mono BV.out.size))
    rw [NN.out] at ox
    obtain ⟨L5, hL5⟩ : ∃ L5, L5 = q.bytes s d dl := ⟨_, rfl⟩
    rw [← hL5] at ox RA
    obtain ⟨A5, c5, rfl, h5⟩ := ox.slice
    have H5 := Lib.hid h5
    clear hb ox h5 PV BV CV O4 EH BP hL5 NN
    obtain ⟨b2, o2, rfl, _⟩ := H2.out.2.2.2.2 (by omega)
    obtain ⟨b5, o5, rfl, _⟩ := H5.out.2.2.2.2 (by omega)
    have n3k : n2 ≤ 3000 := h4
    have g20 : decide ((n2 : Int) < 20) = false := decide_eq_false (by omega)
    have g20' : decide (n2 < 20) = false := decide_eq_false (by omega)
    have gnn : ((n2 : Int) != (n2 : Int)) = false := by simp
    go_wp2_with fail
    clear g20 g20' gnn
    go_loopw [19] (fun i wr => ∃ k : Nat, i = .int .i64 (k : Int) ∧ k ≤ n2 ∧ Hid (Below wx.heap.size wx wr)) (fun i _ => n2 - (intOf i).toNat)
    case atStart => exact ⟨0, rfl, by omega, Lib.hid (Below.refl _ _)⟩
    case round =>
      obtain ⟨k, rfl, hk, HB⟩ := hrel
      have hbx := BX.out.size
      have H2r := Lib.hid (H2.out.below (BX.out.trans (HB.out.mono hbx)))
      have H5r := Lib.hid (H5.out.below HB.out)
      by_cases hlt : k < n2
      · by_cases k16 : k = 16
        · subst k16
          go_wp2_with fail
          go_quiet (fail)
          go_wp2_with fail
          go_roundw
          case rel => exact ⟨17, by go_num, by omega, Lib.hid (below_drewN HB.out nq)⟩
          case measure => simp [intOf]; omega
        · by_cases k17 : k = 17
          · subst k17
            go_wp2_with fail
            go_quiet (fail)
            go_wp2_with fail
            go_roundw
            case rel => exact ⟨18, by go_num, by omega, Lib.hid (below_drewN HB.out nq)⟩
            case measure => simp [intOf]; omega
          · have c2k := cell_getD H2r.out k hlt
            have c5k := cell_getD H5r.out k hlt
            rw [RA.out.1 k k16 k17] at c5k
            have g16 : ((k : Int) != 16) = true := by rw [bne_iff_ne]; omega
            have g17 : ((k : Int) != 17) = true := by rw [bne_iff_ne]; omega
            generalize l2.getD k 0 = y0 at *
            have e1 : IntKind.i64.wrap ((k : Int) + 1) = (k : Int) + 1 := IntWalk.i64_in _ (by omega)
            clear k16 k17
            go_wp2_with fail
            go_quiet (fail)
            go_wp2_with fail
            go_roundw
            case rel => exact ⟨k + 1, by go_num, by omega, Lib.hid (below_drewN HB.out nq)⟩
            case measure => simp [intOf]; omega
      · obtain rfl : k = n2 := by omega
        have BW := Lib.hid (BX.out.trans (HB.out.mono hbx))
        have c6 := cell_getD H2r.out 16 (by omega)
        have c7 := cell_getD H2r.out 17 (by omega)
        have d6 := cell_getD H5r.out 16 (by omega)
        have d7 := cell_getD H5r.out 17 (by omega)
        have i6 : 16 < k := by omega
        have i7 : 17 < k := by omega
        have i6' : (16 : Int) < (k : Int) := by omega
        have i7' : (17 : Int) < (k : Int) := by omega
        have y6 := getD_in H2.out.2.2.2.1 16
        have y7 := getD_in H2.out.2.2.2.1 17
        have z6 := getD_in H5.out.2.2.2.1 16
        have z7 := getD_in H5.out.2.2.2.1 17
        have X : w16 l2 16 = 256 * l2.getD 16 0 + l2.getD 17 0 := rfl
        have Y : w16 L5 16 = 256 * L5.getD 16 0 + L5.getD 17 0 := rfl
        have R2 := RA.out.2
        rw [X, Y] at R2
        have RR := Lib.hid R2
        clear X Y R2 RA H2r H5r HB H5
        generalize l2.getD 16 0 = u6 at *
        generalize l2.getD 17 0 = u7 at *
        generalize L5.getD 16 0 = v6 at *
        generalize L5.getD 17 0 = v7 at *
        have e1 : IntKind.i64.wrap (256 * u6) = 256 * u6 := IntWalk.i64_in _ (by omega)
        have e2 : IntKind.i64.wrap (256 * u6 + u7) = 256 * u6 + u7 := IntWalk.i64_in _ (by omega)
        have e3 : IntKind.i64.wrap u6 = u6 := IntWalk.i64_in _ (by omega)
        have e4 : IntKind.i64.wrap u7 = u7 := IntWalk.i64_in _ (by omega)
        have f1 : IntKind.i64.wrap (256 * v6) = 256 * v6 := IntWalk.i64_in _ (by omega)
        have f2 : IntKind.i64.wrap (256 * v6 + v7) = 256 * v6 + v7 := IntWalk.i64_in _ (by omega)
        have f3 : IntKind.i64.wrap v6 = v6 := IntWalk.i64_in _ (by omega)
        have f4 : IntKind.i64.wrap v7 = v7 := IntWalk.i64_in _ (by omega)
        go_wp2_with fail
        go_quiet (fail)
        have BW1 : Hid (Below w.heap.size w (wr.drewN nq)) := Lib.hid (below_drewN BW.out nq)
        have d6' : (wr.drewN nq).cell? ⟨b5, o5 + 16, none⟩ = some (.int .u8 v6) := d6
        have d7' : (wr.drewN nq).cell? ⟨b5, o5 + 17, none⟩ = some (.int .u8 v7) := d7
        clear BW c6 c7 d6 d7
        generalize wr.drewN nq = wy at *
        clear e1 e2 e3 e4
        go_wp2_with fail
        go_quiet (fail)
        have BW2 : Hid (Below w.heap.size w (wy.drewN nq)) := Lib.hid (below_drewN BW1.out nq)
        clear BW1 d6' d7' f1 f2 f3 f4
        generalize wy.drewN nq = wz at *
        go_wp2_with fail
        refine (awake_any _).mono ?_
        rintro e wv ⟨rfl, hb⟩
        have BZ := Lib.hid (BW2.out.trans (hb.mono BW2.out.size))
        clear hb BW2
        obtain ⟨X0, hX⟩ : ∃ X0, X0 = 256 * u6 + u7 := ⟨_, rfl⟩
        obtain ⟨Y0, hY⟩ : ∃ Y0, Y0 = 256 * v6 + v7 := ⟨_, rfl⟩
        rw [← hX, ← hY] at RR ⊢
        clear hX hY y6 y7 z6 z7
        by_cases xy : X0 = Y0
        · have g0 : (X0 == Y0) = true := beq_iff_eq.2 xy
          clear RR xy
          go_wp2_with fail
          go_ret
          exact ⟨rfl, BZ.out⟩
        · have g0 : (X0 == Y0) = false := beq_eq_false_iff_ne.2 xy
          have r := RR.out.resolve_left xy
          obtain ⟨r1, r2⟩ := r
          subst r1 r2
          clear RR xy
          go_wp2_with fail
          go_ret
          exact ⟨rfl, BZ.out⟩
  · obtain ⟨pe, hpe⟩ : ∃ pe, pe = perr l2 s d := ⟨_, rfl⟩
    have q : (pe != 0) = true := by rw [bne_iff_ne, hpe]; exact pz
    rw [← hpe]
    clear hpe pz
    have PV := Lib.hid (Blk.new wp 24 #[.int .i64 0, .int .i64 0, .int .i64 0, .int .i64 0, .int .i64 0, .int .i64 0, .int .i64 0, .string ⟨#[]⟩, .slice none 0 0])
    have BV := Lib.hid (BP.out.alloc BP.out.size (.cells #[.int .i64 0, .int .i64 0, .int .i64 0, .int .i64 0, .int .i64 0, .int .i64 0, .int .i64 0, .string ⟨#[]⟩, .slice none 0 0] 24))
    go_wp2_with fail
    refine (awake_any _).mono ?_
    rintro e wy ⟨rfl, hb⟩
    have BY := Lib.hid (BV.out.trans (hb.mono BV.out.size))
    have PY := Lib.hid (PV.out.below hb PV.out.lt)
    have SY := Lib.hid (same_yes Sg.zero none 0 0 none 0 0 [] 0 wy (Holds.nil _ _ _) (Holds.nil _ _ _) (Nat.zero_le _))
    clear hb PV BV BP
    go_wp2_with (first
      | (refine Loads.wpList_load_w rfl 24 (.tmp 15) rfl wp.heap.size rfl 24 #[.int .i64 0, .int .i64 0, .int .i64 0, .int .i64 0, .int .i64 0, .int .i64 0, .int .i64 0, .string ⟨#[]⟩, .slice none 0 0] (0, 0) _ PY.out (Try.underlying24) rfl (by kernel_rfl) ?_))
    refine SY.out.mono ?_
    rintro e wz ⟨rfl, hb⟩
    have BZ := Lib.hid (BY.out.trans (hb.mono BY.out.size))
    clear hb
    go_wp2_with fail
    go_ret
    exact ⟨rfl, BZ.out⟩

theorem back_any (p : Sg) (A : Option Addr) (n c : Nat) (l : List Int) (A2 : Option Addr) (n2 c2 : Nat) (l2 : List Int) (s d : ByteArray) (w : World) (h : Holds w w.heap.size A n c l) (h2 : Holds w w.heap.size A2 n2 c2 l2) (h0 : p.opt.size ≤ 140737488355328) (h1 : s.size ≤ 140737488355328) (h2' : d.size ≤ 140737488355328) (h3 : n ≤ 140737488355328) :
    Calls Try.prog 6 #[.agg #[.int .i64 p.src, .int .i64 p.dst, .int .i64 p.seq, .int .i64 p.ack, .int .i64 p.flags, .int .i64 p.window, .int .i64 p.urgent, .string p.opt, .slice A n c], .slice A2 n2 c2, .string s, .string d] w (Yes w) := by
  cases hf : fewB p n with
  | false => exact back_no p A n c A2 n2 c2 s d w h0 h1 h2' h3 (.inl hf)
  | true =>
    by_cases h4 : 3000 < n2
    · exact back_no p A n c A2 n2 c2 s d w h0 h1 h2' h3 (.inr ⟨hf, .inl h4⟩)
    · by_cases hs : 300 < s.size + d.size
      · exact back_no p A n c A2 n2 c2 s d w h0 h1 h2' h3 (.inr ⟨hf, .inr ⟨by omega, hs⟩⟩)
      · by_cases he : p.err s d n = 0
        · exact back_ok p A n c l A2 n2 c2 l2 s d w h h2 h0 h3 hf (by omega) (by omega) he
        · exact back_err p A n c l A2 n2 c2 l2 s d w h h2 h0 h3 hf (by omega) (by omega) he
end Go.Proofs.Ytadjkidjkgnkoaa.LawBack
