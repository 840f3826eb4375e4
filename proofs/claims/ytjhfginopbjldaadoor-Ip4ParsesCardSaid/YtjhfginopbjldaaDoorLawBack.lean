/- The law Ip4Back: laid down and read; read and laid down. -/
import Derived.Test.YtjhfginopbjldaaDoorHeadsOk
set_option linter.unusedVariables false
namespace Go.Proofs.YtjhfginopbjldaaDoor.LawBack
open Go.RowKit Go.Proofs.YtjhfginopbjldaaDoor.Sums Go.Proofs.YtjhfginopbjldaaDoor.Mem Go.Proofs.YtjhfginopbjldaaDoor.Blk Go.Proofs.YtjhfginopbjldaaDoor.Pkt Go.Proofs.YtjhfginopbjldaaDoor.Check Go.Proofs.YtjhfginopbjldaaDoor.Decode Go.Proofs.YtjhfginopbjldaaDoor.ParseCode Go.Proofs.YtjhfginopbjldaaDoor.BytesCode Go.Proofs.YtjhfginopbjldaaDoor.Errno Go.Proofs.YtjhfginopbjldaaDoor.Same Go.Proofs.YtjhfginopbjldaaDoor.Back Go.Proofs.YtjhfginopbjldaaDoor.Awake Go.Proofs.YtjhfginopbjldaaDoor.LawHeads

theorem back_no (p : Pkt) (A : Option Addr) (n c : Nat) (b : Value) (w : World) (z1 : p.src.size ≤ 140737488355328) (z2 : p.dst.size ≤ 140737488355328) (z3 : p.opt.size ≤ 140737488355328) (z4 : n ≤ 140737488355328) (hf : fewB p n = false) :
    Calls Tryd.prog 5 #[val p (.slice A n c), b] w (Yes w) := by
  have F := Lib.hid (fun W => few_any p A n c W z1 z2 z3 z4)
  rw [hf] at F
  have B0 := Lib.hid ((Below.refl w.heap.size w).alloc (Nat.le_refl _) (.cells #[.int .i64 p.tos, .int .i64 p.id, .int .i64 p.ttl, .int .i64 p.proto, .bool p.df, .bool p.mf, .int .i64 p.off, .string p.src, .string p.dst, .string p.opt, .slice A n c] 24))
  unfold val at *
  go_enter Tryd.func5, Tryd.ntmps5
  go_wp2_with fail
  refine (F.out _).mono ?_
  rintro e w1 ⟨rfl, hb⟩
  have B1 := Lib.hid (B0.out.trans (hb.mono B0.out.size))
  clear hb
  go_wp2_with fail
  go_ret
  exact ⟨rfl, B1.out⟩
theorem back_big (p : Pkt) (A : Option Addr) (n c : Nat) (A2 : Option Addr) (n2 c2 : Nat) (w : World) (hf : fewB p n = true) (hb2 : 3000 < n2) :
    Calls Tryd.prog 5 #[val p (.slice A n c), .slice A2 n2 c2] w (Yes w) := by
  have fw := few_true hf
  have F := Lib.hid (fun W => few_any p A n c W (by omega) (by omega) (by omega) (by omega))
  rw [hf] at F
  have B0 := Lib.hid ((Below.refl w.heap.size w).alloc (Nat.le_refl _) (.cells #[.int .i64 p.tos, .int .i64 p.id, .int .i64 p.ttl, .int .i64 p.proto, .bool p.df, .bool p.mf, .int .i64 p.off, .string p.src, .string p.dst, .string p.opt, .slice A n c] 24))
  have b3 : (3000 : Int) < (n2 : Int) := by omega
  unfold val at *
  go_enter Tryd.func5, Tryd.ntmps5
  go_wp2_with fail
  refine (F.out _).mono ?_
  rintro e w1 ⟨rfl, hb⟩
  have B1 := Lib.hid (B0.out.trans (hb.mono B0.out.size))
  clear hb
  go_wp2_with fail
  go_ret
  exact ⟨rfl, B1.out⟩


set_option maxHeartbeats 8000000 in
set_option maxRecDepth 100000 in
theorem back_err (p : Pkt) (A : Option Addr) (n c : Nat) (l : List Int) (A2 : Option Addr) (n2 c2 : Nat) (l2 : List Int) (w : World) (hg : Handle w) (h : Holds w w.heap.size A n c l) (h2 : Holds w w.heap.size A2 n2 c2 l2) (hf : fewB p n = true) (h3 : n2 ≤ 3000) (hk : p.chk n ≠ 0) :
    Calls Tryd.prog 5 #[val p (.slice A n c), .slice A2 n2 c2] w (Yes w) := by
  have fw := few_true hf
  have F := Lib.hid (fun W => few_any p A n c W (by omega) (by omega) (by omega) (by omega))
  rw [hf] at F
  have E := Lib.hid (fun W hW => bytes_err p A n c W hW (by omega) (by omega) hk)
  have hk' : (p.chk n == 0) = false := by rw [beq_eq_false_iff_ne]; exact hk
  have B0 := Lib.hid ((Below.refl w.heap.size w).alloc (Nat.le_refl _) (.cells #[.int .i64 p.tos, .int .i64 p.id, .int .i64 p.ttl, .int .i64 p.proto, .bool p.df, .bool p.mf, .int .i64 p.off, .string p.src, .string p.dst, .string p.opt, .slice A n c] 24))
  have P0 := Lib.hid (Blk.new w 24 #[.int .i64 p.tos, .int .i64 p.id, .int .i64 p.ttl, .int .i64 p.proto, .bool p.df, .bool p.mf, .int .i64 p.off, .string p.src, .string p.dst, .string p.opt, .slice A n c])
  have b3 : ¬ (3000 : Int) < (n2 : Int) := by omega
  have G0 := Lib.hid hg
  have H2 := Lib.hid h2
  clear hg hk fw hf h h2
  unfold val at *
  go_enter Tryd.func5, Tryd.ntmps5
  go_wp2_with fail
  refine (F.out _).mono ?_
  rintro e w1 ⟨rfl, hb⟩
  have B1 := Lib.hid (B0.out.trans (hb.mono B0.out.size))
  have P1 := Lib.hid (P0.out.below hb P0.out.lt)
  clear hb
  go_wp2_with (first
    | (refine Loads.wpList_load_w rfl 24 (.tmp 2) rfl w.heap.size rfl 24 #[.int .i64 p.tos, .int .i64 p.id, .int .i64 p.ttl, .int .i64 p.proto, .bool p.df, .bool p.mf, .int .i64 p.off, .string p.src, .string p.dst, .string p.opt, .slice A n c] (0, 0) _ P1.out (Tryd.underlying24) rfl (by kernel_rfl) ?_))

  refine (E.out _ (G0.out.keep B1.out)).mono ?_
  rintro e w2 ⟨rfl, hb⟩
  have B2 := Lib.hid (B1.out.trans (hb.mono B1.out.size))
  clear hb
  go_wp2_with fail
  refine (parse_any A2 n2 c2 l2 _ w.heap.size (G0.out.keep B2.out) B2.out.size (H2.out.below B2.out) (by omega)).mono ?_
  rintro e w5 ⟨h5, hb⟩
  have B5 := Lib.hid (B2.out.trans (hb.mono B2.out.size))
  have hs5 := B2.out.size
  clear hb
  rcases h5 with ⟨pz, A', c', rfl, o5⟩ | ⟨pz, rfl⟩
  · obtain ⟨vd, os, h20, hle, hbig⟩ := read_valid H2.out.2.2.2.1 pz
    obtain ⟨s, hs, hput⟩ := read_bytes H2.out.2.2.2.1 pz
    have l2n := H2.out.1
    have hck := read_check H2.out.2.2.2.1 pz
    rw [← hs] at hck
    have sin := sum_in (pkOf l2) (l2.length - hdOf l2)
    rw [← hs] at sin
    obtain ⟨n', hn'⟩ : ∃ n', n' = l2.length - hdOf l2 := ⟨_, rfl⟩
    rw [← hn'] at o5 ⊢
    have O5 := Lib.hid o5
    have CKV := Lib.hid hck
    have PUT := Lib.hid hput
    have N5 : 20 + (pkOf l2).opt.size + n' = n2 := by omega
    obtain ⟨q, hq⟩ : ∃ q, q = pkOf l2 := ⟨_, rfl⟩
    rw [← hq] at vd PUT N5 ⊢
    have vlen : (l2.drop (hdOf l2)).length = n' := by simp; omega
    clear o5 hck hput hs hn' os pz hq
    unfold val
    have Q6 := Lib.hid (Blk.new w5 24 #[.int .i64 q.tos, .int .i64 q.id, .int .i64 q.ttl, .int .i64 q.proto, .bool q.df, .bool q.mf, .int .i64 q.off, .string q.src, .string q.dst, .string q.opt, .slice A' n' c'])
    have B6 := Lib.hid (B5.out.alloc B5.out.size (.cells #[.int .i64 q.tos, .int .i64 q.id, .int .i64 q.ttl, .int .i64 q.proto, .bool q.df, .bool q.mf, .int .i64 q.off, .string q.src, .string q.dst, .string q.opt, .slice A' n' c'] 24))
    have O6 := Lib.hid (O5.out.alloc (.cells #[.int .i64 q.tos, .int .i64 q.id, .int .i64 q.ttl, .int .i64 q.proto, .bool q.df, .bool q.mf, .int .i64 q.off, .string q.src, .string q.dst, .string q.opt, .slice A' n' c'] 24))
    have DY := Lib.hid (fun W hW (bel : Below (w5.alloc (.cells #[.int .i64 q.tos, .int .i64 q.id, .int .i64 q.ttl, .int .i64 q.proto, .bool q.df, .bool q.mf, .int .i64 q.off, .string q.src, .string q.dst, .string q.opt, .slice A' n' c'] 24)).heap.size (w5.alloc (.cells #[.int .i64 q.tos, .int .i64 q.id, .int .i64 q.ttl, .int .i64 q.proto, .bool q.df, .bool q.mf, .int .i64 q.off, .string q.src, .string q.dst, .string q.opt, .slice A' n' c'] 24)) W) => bytes_ok q A' n' c' (l2.drop (hdOf l2)) W hW (w5.alloc (.cells #[.int .i64 q.tos, .int .i64 q.id, .int .i64 q.ttl, .int .i64 q.proto, .bool q.df, .bool q.mf, .int .i64 q.off, .string q.src, .string q.dst, .string q.opt, .slice A' n' c'] 24)).heap.size (O6.out.holds.below bel) bel.size vd (by omega))
    go_wp2_with (first
      | (refine Loads.wpList_load_w rfl 24 (.tmp 9) rfl w5.heap.size rfl 24 #[.int .i64 q.tos, .int .i64 q.id, .int .i64 q.ttl, .int .i64 q.proto, .bool q.df, .bool q.mf, .int .i64 q.off, .string q.src, .string q.dst, .string q.opt, .slice A' n' c'] (0, 0) _ Q6.out (Tryd.underlying24) rfl (by kernel_rfl) ?_))
    unfold val at DY
    refine (DY.out _ (G0.out.keep B6.out) (Below.refl _ _)).mono ?_
    rintro e w7 ⟨v7, rfl, o7, hb⟩
    have B7 := Lib.hid (B6.out.trans (hb.mono B6.out.size))
    clear hb DY O6 Q6 B6
    rw [N5, PUT.out] at o7
    obtain ⟨A7, c7, rfl, h7⟩ := o7.slice
    obtain ⟨g, rfl, hg1, hg2⟩ := o7.form (by omega)
    have O7 := Lib.hid o7
    obtain ⟨bb, pb, rfl, _⟩ := H2.out.2.2.2.2 (by omega)
    have l20 : decide ((n2 : Int) < 20) = false := by rw [decide_eq_false_iff_not]; omega
    clear o7 h7
    have G7 := Lib.hid (G0.out.keep B7.out)
    go_wp2_with fail
    go_loopw [13] (fun i wr => ∃ k : Nat, i = .int .i64 (k : Int) ∧ k ≤ n2 ∧ Below w7.heap.size w7 wr) (fun i _ => n2 - (intOf i).toNat)
    case atStart => exact ⟨0, rfl, by omega, Below.refl _ _⟩
    case round =>
      obtain ⟨k, rfl, hk, hb⟩ := hrel
      have HB := Lib.hid (B7.out.trans (hb.mono B7.out.size))
      have hbr := Lib.hid hb
      have HW := Lib.hid (H2.out.below HB.out)
      have OW := Lib.hid (O7.out.below hb (Nat.le_refl _))
      clear hb
      by_cases hk2 : k = n2
      · have hlt : decide (k < n2) = false := by simp [hk2]
        clear hk2 hk
        obtain ⟨u, hu, cu, u0, u1⟩ := cell_at HW.out (k := 10) (by omega)
        obtain ⟨v, hv, cv, v0, v1⟩ := cell_at HW.out (k := 11) (by omega)
        have du := OW.out.cell (j := 10) (z := s / 256) (put_at0 (i := 5) (by omega))
        have dv := OW.out.cell (j := 11) (z := s % 256) (put_at1 (i := 5) (by omega))
        have i10 : (10 : Int) < (n2 : Int) := by omega
        have i11 : (11 : Int) < (n2 : Int) := by omega
        have CK := CKV.out u v hu hv
        clear hu hv
        rcases CK with ⟨k1, k2⟩ | ⟨k1, k2, k3⟩
        · subst k1 k2
          go_wp2_with fail
          go_quiet (fail)
          have B8 := Lib.hid (below_drewN HB.out nq)
          clear cu cv du dv
          generalize wr.drewN nq = w8 at *
          go_wp2_with fail
          refine (awake_any w8 (G0.out.keep B8.out)).mono ?_
          rintro e w9 ⟨rfl, hb⟩
          have B9 := Lib.hid (B8.out.trans (hb.mono B8.out.size))
          clear hb
          go_wp2_with fail
          go_ret
          exact ⟨rfl, B9.out⟩
        · subst k1 k2 k3
          have z1 : (0 : Int) / 256 = 0 := rfl
          have z2 : (0 : Int) % 256 = 0 := rfl
          rw [z1] at du
          rw [z2] at dv
          clear z1 z2
          go_wp2_with fail
          go_quiet (fail)
          have B8 := Lib.hid (below_drewN HB.out nq)
          have cu8 : (wr.drewN nq).cell? ⟨bb, pb + 10, none⟩ = some (.int .u8 255) := cu
          have cv8 : (wr.drewN nq).cell? ⟨bb, pb + 11, none⟩ = some (.int .u8 255) := cv
          have du8 : (wr.drewN nq).cell? ⟨g, 10, none⟩ = some (.int .u8 0) := du
          have dv8 : (wr.drewN nq).cell? ⟨g, 11, none⟩ = some (.int .u8 0) := dv
          clear cu cv du dv
          generalize wr.drewN nq = w8 at *
          go_wp2_with fail
          refine (awake_any w8 (G0.out.keep B8.out)).mono ?_
          rintro e w9 ⟨rfl, hb⟩
          have B9 := Lib.hid (B8.out.trans (hb.mono B8.out.size))
          have cu9 := (hb.cell (p := ⟨bb, pb + 10, none⟩) (lt_of_cell cu8)).trans cu8
          have cv9 := (hb.cell (p := ⟨bb, pb + 11, none⟩) (lt_of_cell cv8)).trans cv8
          have du9 := (hb.cell (p := ⟨g, 10, none⟩) (lt_of_cell du8)).trans du8
          have dv9 := (hb.cell (p := ⟨g, 11, none⟩) (lt_of_cell dv8)).trans dv8
          clear hb cu8 cv8 du8 dv8
          go_wp2_with fail
          go_ret
          exact ⟨rfl, B9.out⟩
      · have hlt : decide (k < n2) = true := by rw [decide_eq_true_eq]; omega
        have hi : k < n2 := by omega
        have B8 := Lib.hid (B7.out.size)
        by_cases k10 : k = 10
        · subst k10
          go_wp2_with fail
          go_quiet (fail)
          have BB := Lib.hid (below_drewN (show Below w7.heap.size w7 wr from hbr.out) nq)
          go_wp2_with fail
          go_roundw
          case rel => exact ⟨11, by go_num, by omega, BB.out⟩
          case measure => simp [intOf]; omega
        by_cases k11 : k = 11
        · subst k11
          go_wp2_with fail
          go_quiet (fail)
          have BB := Lib.hid (below_drewN (show Below w7.heap.size w7 wr from hbr.out) nq)
          go_wp2_with fail
          go_roundw
          case rel => exact ⟨12, by go_num, by omega, BB.out⟩
          case measure => simp [intOf]; omega
        obtain ⟨u, hu, cu, u0, u1⟩ := cell_at HW.out (k := k) hi
        have du := OW.out.cell (j := k) (z := u) (by rw [put_at (by omega) (by omega)]; exact hu)
        have ii : (k : Int) < (n2 : Int) := by omega
        have a10 : ((k : Int) != 10) = true := by rw [bne_iff_ne]; omega
        have a11 : ((k : Int) != 11) = true := by rw [bne_iff_ne]; omega
        clear hu k10 k11
        go_wp2_with fail
        go_quiet (fail)
        have BB := Lib.hid (below_drewN (show Below w7.heap.size w7 wr from hbr.out) nq)
        clear cu du
        go_wp2_with fail
        go_roundw
        case rel => exact ⟨k + 1, by go_num, by omega, BB.out⟩
        case measure => simp [intOf]; omega
  · have q5 : (perr l2 != 0) = true := by rw [bne_iff_ne]; exact pz
    clear pz
    unfold val Pkt.zero
    have Q6 := Lib.hid (Blk.new w5 24 #[.int .i64 0, .int .i64 0, .int .i64 0, .int .i64 0, .bool false, .bool false, .int .i64 0, .string ⟨#[]⟩, .string ⟨#[]⟩, .string ⟨#[]⟩, .slice none 0 0])
    have B6 := Lib.hid (B5.out.alloc B5.out.size (.cells #[.int .i64 0, .int .i64 0, .int .i64 0, .int .i64 0, .bool false, .bool false, .int .i64 0, .string ⟨#[]⟩, .string ⟨#[]⟩, .string ⟨#[]⟩, .slice none 0 0] 24))
    go_wp2_with fail
    refine (awake_any _ (G0.out.keep B6.out)).mono ?_
    rintro e w7 ⟨rfl, hb⟩
    have Q7 := Lib.hid (Q6.out.below hb Q6.out.lt)
    have B7 := Lib.hid (B6.out.trans (hb.mono B6.out.size))
    clear hb
    have SY := Lib.hid (fun W => same_yes Pkt.zero none none 0 0 0 0 0 [] W (Holds.nil _ _ _) (Holds.nil _ _ _) (Nat.zero_le _))
    unfold val Pkt.zero at SY
    go_wp2_with (first
      | (refine Loads.wpList_load_w rfl 24 (.tmp 9) rfl w5.heap.size rfl 24 #[.int .i64 0, .int .i64 0, .int .i64 0, .int .i64 0, .bool false, .bool false, .int .i64 0, .string ⟨#[]⟩, .string ⟨#[]⟩, .string ⟨#[]⟩, .slice none 0 0] (0, 0) _ Q7.out (Tryd.underlying24) rfl (by kernel_rfl) ?_))
    refine (SY.out _).mono ?_
    rintro e w8 ⟨rfl, hb⟩
    have B8 := Lib.hid (B7.out.trans (hb.mono B7.out.size))
    clear hb
    go_wp2_with fail
    go_ret
    exact ⟨rfl, B8.out⟩

set_option maxHeartbeats 8000000 in
set_option maxRecDepth 100000 in
theorem back_ok (p : Pkt) (A : Option Addr) (n c : Nat) (l : List Int) (A2 : Option Addr) (n2 c2 : Nat) (l2 : List Int) (w : World) (hg : Handle w) (h : Holds w w.heap.size A n c l) (h2 : Holds w w.heap.size A2 n2 c2 l2) (hf : fewB p n = true) (h3 : n2 ≤ 3000) (hk : p.chk n = 0) :
    Calls Tryd.prog 5 #[val p (.slice A n c), .slice A2 n2 c2] w (Yes w) := by
  have fw := few_true hf
  have F := Lib.hid (fun W => few_any p A n c W (by omega) (by omega) (by omega) (by omega))
  rw [hf] at F
  obtain ⟨hv, hn⟩ := chk_zero hk
  have hz := hv.z
  have hl := h.1
  have Y := Lib.hid (fun W hW (bel : Below w.heap.size w W) => bytes_ok p A n c l W hW w.heap.size (h.below bel) bel.size hv hn)
  have PE := Lib.hid (bytes_perr hv (l := l) (by omega))
  have PK := Lib.hid (bytes_pk hv l)
  have PD := Lib.hid (bytes_drop hv l)
  have PH := Lib.hid (bytes_hd hv l)
  have PL := Lib.hid (bytes_len hv l)
  have HL := Lib.hid h
  have B0 := Lib.hid ((Below.refl w.heap.size w).alloc (Nat.le_refl _) (.cells #[.int .i64 p.tos, .int .i64 p.id, .int .i64 p.ttl, .int .i64 p.proto, .bool p.df, .bool p.mf, .int .i64 p.off, .string p.src, .string p.dst, .string p.opt, .slice A n c] 24))
  have P0 := Lib.hid (Blk.new w 24 #[.int .i64 p.tos, .int .i64 p.id, .int .i64 p.ttl, .int .i64 p.proto, .bool p.df, .bool p.mf, .int .i64 p.off, .string p.src, .string p.dst, .string p.opt, .slice A n c])
  have b3 : ¬ (3000 : Int) < (n2 : Int) := by omega
  have G0 := Lib.hid hg
  have H2 := Lib.hid h2
  clear hg hk fw hf h h2
  unfold val at *
  go_enter Tryd.func5, Tryd.ntmps5
  go_wp2_with fail
  refine (F.out _).mono ?_
  rintro e w1 ⟨rfl, hb⟩
  have B1 := Lib.hid (B0.out.trans (hb.mono B0.out.size))
  have P1 := Lib.hid (P0.out.below hb P0.out.lt)
  clear hb
  go_wp2_with (first
    | (refine Loads.wpList_load_w rfl 24 (.tmp 2) rfl w.heap.size rfl 24 #[.int .i64 p.tos, .int .i64 p.id, .int .i64 p.ttl, .int .i64 p.proto, .bool p.df, .bool p.mf, .int .i64 p.off, .string p.src, .string p.dst, .string p.opt, .slice A n c] (0, 0) _ P1.out (Tryd.underlying24) rfl (by kernel_rfl) ?_))

  refine (Y.out _ (G0.out.keep B1.out) B1.out).mono ?_
  rintro e w2 ⟨v, rfl, o2, hb⟩
  have B2 := Lib.hid (B1.out.trans (hb.mono B1.out.size))
  have P2 := Lib.hid (P1.out.below hb P1.out.lt)
  clear hb
  obtain ⟨Ac, cc, rfl, hc2⟩ := o2.slice
  have HC := Lib.hid hc2
  clear o2 hc2 Y
  go_wp2_with fail
  refine (parse_any _ _ _ _ _ _ (G0.out.keep B2.out) (Nat.le_refl _) HC.out (by omega)).mono ?_
  rintro e w3 ⟨h3', hb⟩
  have B3 := Lib.hid (B2.out.trans (hb.mono B2.out.size))
  have P3 := Lib.hid (P2.out.below hb P2.out.lt)
  have hs3 := B2.out.size
  clear hb
  rcases h3' with ⟨_, A3, c3, rfl, o3⟩ | ⟨h3', _⟩
  case inr => exact absurd PE.out h3'
  rw [PK.out, PH.out, PL.out, show 20 + p.opt.size + l.length - (20 + p.opt.size) = n by omega]
  rw [PH.out, PD.out, PL.out, show 20 + p.opt.size + l.length - (20 + p.opt.size) = n by omega] at o3
  unfold val
  have O3 := Lib.hid o3
  clear o3
  have Q4 := Lib.hid (Blk.new w3 24 #[.int .i64 p.tos, .int .i64 p.id, .int .i64 p.ttl, .int .i64 p.proto, .bool p.df, .bool p.mf, .int .i64 p.off, .string p.src, .string p.dst, .string p.opt, .slice A3 n c3])
  have B4 := Lib.hid (B3.out.alloc B3.out.size (.cells #[.int .i64 p.tos, .int .i64 p.id, .int .i64 p.ttl, .int .i64 p.proto, .bool p.df, .bool p.mf, .int .i64 p.off, .string p.src, .string p.dst, .string p.opt, .slice A3 n c3] 24))
  have P4 := Lib.hid (P3.out.alloc (.cells #[.int .i64 p.tos, .int .i64 p.id, .int .i64 p.ttl, .int .i64 p.proto, .bool p.df, .bool p.mf, .int .i64 p.off, .string p.src, .string p.dst, .string p.opt, .slice A3 n c3] 24))
  have H4 := Lib.hid ((O3.out.alloc (.cells #[.int .i64 p.tos, .int .i64 p.id, .int .i64 p.ttl, .int .i64 p.proto, .bool p.df, .bool p.mf, .int .i64 p.off, .string p.src, .string p.dst, .string p.opt, .slice A3 n c3] 24)).holds)
  have HL4 := Lib.hid ((HL.out.below B4.out).more B4.out.size)
  have SY := Lib.hid (same_yes p A A3 n c n c3 _ l _ HL4.out H4.out (Nat.le_refl _))
  unfold val at SY
  go_wp2_with (first
    | (refine Loads.wpList_load_w rfl 24 (.tmp 2) rfl w.heap.size rfl 24 #[.int .i64 p.tos, .int .i64 p.id, .int .i64 p.ttl, .int .i64 p.proto, .bool p.df, .bool p.mf, .int .i64 p.off, .string p.src, .string p.dst, .string p.opt, .slice A n c] (0, 0) _ P4.out (Tryd.underlying24) rfl (by kernel_rfl) ?_)
    | (refine Loads.wpList_load_w rfl 24 (.tmp 7) rfl w3.heap.size rfl 24 #[.int .i64 p.tos, .int .i64 p.id, .int .i64 p.ttl, .int .i64 p.proto, .bool p.df, .bool p.mf, .int .i64 p.off, .string p.src, .string p.dst, .string p.opt, .slice A3 n c3] (0, 0) _ Q4.out (Tryd.underlying24) rfl (by kernel_rfl) ?_))
  refine SY.out.mono ?_
  rintro e w4 ⟨rfl, hb⟩
  have B44 := Lib.hid (B4.out.trans (hb.mono B4.out.size))
  clear hb SY HL4 H4 P4 Q4 O3 P3 B3 HC P2 B2 PE PK PD PH PL HL B4
  go_wp2_with fail
  refine (parse_any A2 n2 c2 l2 _ w.heap.size (G0.out.keep B44.out) B44.out.size (H2.out.below B44.out) (by omega)).mono ?_
  rintro e w5 ⟨h5, hb⟩
  have B5 := Lib.hid (B44.out.trans (hb.mono B44.out.size))
  have hs5 := B44.out.size
  clear hb
  rcases h5 with ⟨pz, A', c', rfl, o5⟩ | ⟨pz, rfl⟩
  · obtain ⟨vd, os, h20, hle, hbig⟩ := read_valid H2.out.2.2.2.1 pz
    obtain ⟨s, hs, hput⟩ := read_bytes H2.out.2.2.2.1 pz
    have l2n := H2.out.1
    have hck := read_check H2.out.2.2.2.1 pz
    rw [← hs] at hck
    have sin := sum_in (pkOf l2) (l2.length - hdOf l2)
    rw [← hs] at sin
    obtain ⟨n', hn'⟩ : ∃ n', n' = l2.length - hdOf l2 := ⟨_, rfl⟩
    rw [← hn'] at o5 ⊢
    have O5 := Lib.hid o5
    have CKV := Lib.hid hck
    have PUT := Lib.hid hput
    have N5 : 20 + (pkOf l2).opt.size + n' = n2 := by omega
    obtain ⟨q, hq⟩ : ∃ q, q = pkOf l2 := ⟨_, rfl⟩
    rw [← hq] at vd PUT N5 ⊢
    have vlen : (l2.drop (hdOf l2)).length = n' := by simp; omega
    clear o5 hck hput hs hn' os pz hq
    unfold val
    have Q6 := Lib.hid (Blk.new w5 24 #[.int .i64 q.tos, .int .i64 q.id, .int .i64 q.ttl, .int .i64 q.proto, .bool q.df, .bool q.mf, .int .i64 q.off, .string q.src, .string q.dst, .string q.opt, .slice A' n' c'])
    have B6 := Lib.hid (B5.out.alloc B5.out.size (.cells #[.int .i64 q.tos, .int .i64 q.id, .int .i64 q.ttl, .int .i64 q.proto, .bool q.df, .bool q.mf, .int .i64 q.off, .string q.src, .string q.dst, .string q.opt, .slice A' n' c'] 24))
    have O6 := Lib.hid (O5.out.alloc (.cells #[.int .i64 q.tos, .int .i64 q.id, .int .i64 q.ttl, .int .i64 q.proto, .bool q.df, .bool q.mf, .int .i64 q.off, .string q.src, .string q.dst, .string q.opt, .slice A' n' c'] 24))
    have DY := Lib.hid (fun W hW (bel : Below (w5.alloc (.cells #[.int .i64 q.tos, .int .i64 q.id, .int .i64 q.ttl, .int .i64 q.proto, .bool q.df, .bool q.mf, .int .i64 q.off, .string q.src, .string q.dst, .string q.opt, .slice A' n' c'] 24)).heap.size (w5.alloc (.cells #[.int .i64 q.tos, .int .i64 q.id, .int .i64 q.ttl, .int .i64 q.proto, .bool q.df, .bool q.mf, .int .i64 q.off, .string q.src, .string q.dst, .string q.opt, .slice A' n' c'] 24)) W) => bytes_ok q A' n' c' (l2.drop (hdOf l2)) W hW (w5.alloc (.cells #[.int .i64 q.tos, .int .i64 q.id, .int .i64 q.ttl, .int .i64 q.proto, .bool q.df, .bool q.mf, .int .i64 q.off, .string q.src, .string q.dst, .string q.opt, .slice A' n' c'] 24)).heap.size (O6.out.holds.below bel) bel.size vd (by omega))
    go_wp2_with (first
      | (refine Loads.wpList_load_w rfl 24 (.tmp 9) rfl w5.heap.size rfl 24 #[.int .i64 q.tos, .int .i64 q.id, .int .i64 q.ttl, .int .i64 q.proto, .bool q.df, .bool q.mf, .int .i64 q.off, .string q.src, .string q.dst, .string q.opt, .slice A' n' c'] (0, 0) _ Q6.out (Tryd.underlying24) rfl (by kernel_rfl) ?_))
    unfold val at DY
    refine (DY.out _ (G0.out.keep B6.out) (Below.refl _ _)).mono ?_
    rintro e w7 ⟨v7, rfl, o7, hb⟩
    have B7 := Lib.hid (B6.out.trans (hb.mono B6.out.size))
    clear hb DY O6 Q6 B6
    rw [N5, PUT.out] at o7
    obtain ⟨A7, c7, rfl, h7⟩ := o7.slice
    obtain ⟨g, rfl, hg1, hg2⟩ := o7.form (by omega)
    have O7 := Lib.hid o7
    obtain ⟨bb, pb, rfl, _⟩ := H2.out.2.2.2.2 (by omega)
    have l20 : decide ((n2 : Int) < 20) = false := by rw [decide_eq_false_iff_not]; omega
    clear o7 h7
    have G7 := Lib.hid (G0.out.keep B7.out)
    go_wp2_with fail
    go_loopw [13] (fun i wr => ∃ k : Nat, i = .int .i64 (k : Int) ∧ k ≤ n2 ∧ Below w7.heap.size w7 wr) (fun i _ => n2 - (intOf i).toNat)
    case atStart => exact ⟨0, rfl, by omega, Below.refl _ _⟩
    case round =>
      obtain ⟨k, rfl, hk, hb⟩ := hrel
      have HB := Lib.hid (B7.out.trans (hb.mono B7.out.size))
      have hbr := Lib.hid hb
      have HW := Lib.hid (H2.out.below HB.out)
      have OW := Lib.hid (O7.out.below hb (Nat.le_refl _))
      clear hb
      by_cases hk2 : k = n2
      · have hlt : decide (k < n2) = false := by simp [hk2]
        clear hk2 hk
        obtain ⟨u, hu, cu, u0, u1⟩ := cell_at HW.out (k := 10) (by omega)
        obtain ⟨v, hv, cv, v0, v1⟩ := cell_at HW.out (k := 11) (by omega)
        have du := OW.out.cell (j := 10) (z := s / 256) (put_at0 (i := 5) (by omega))
        have dv := OW.out.cell (j := 11) (z := s % 256) (put_at1 (i := 5) (by omega))
        have i10 : (10 : Int) < (n2 : Int) := by omega
        have i11 : (11 : Int) < (n2 : Int) := by omega
        have CK := CKV.out u v hu hv
        clear hu hv
        rcases CK with ⟨k1, k2⟩ | ⟨k1, k2, k3⟩
        · subst k1 k2
          go_wp2_with fail
          go_quiet (fail)
          have B8 := Lib.hid (below_drewN HB.out nq)
          clear cu cv du dv
          generalize wr.drewN nq = w8 at *
          go_wp2_with fail
          refine (awake_any w8 (G0.out.keep B8.out)).mono ?_
          rintro e w9 ⟨rfl, hb⟩
          have B9 := Lib.hid (B8.out.trans (hb.mono B8.out.size))
          clear hb
          go_wp2_with fail
          go_ret
          exact ⟨rfl, B9.out⟩
        · subst k1 k2 k3
          have z1 : (0 : Int) / 256 = 0 := rfl
          have z2 : (0 : Int) % 256 = 0 := rfl
          rw [z1] at du
          rw [z2] at dv
          clear z1 z2
          go_wp2_with fail
          go_quiet (fail)
          have B8 := Lib.hid (below_drewN HB.out nq)
          have cu8 : (wr.drewN nq).cell? ⟨bb, pb + 10, none⟩ = some (.int .u8 255) := cu
          have cv8 : (wr.drewN nq).cell? ⟨bb, pb + 11, none⟩ = some (.int .u8 255) := cv
          have du8 : (wr.drewN nq).cell? ⟨g, 10, none⟩ = some (.int .u8 0) := du
          have dv8 : (wr.drewN nq).cell? ⟨g, 11, none⟩ = some (.int .u8 0) := dv
          clear cu cv du dv
          generalize wr.drewN nq = w8 at *
          go_wp2_with fail
          refine (awake_any w8 (G0.out.keep B8.out)).mono ?_
          rintro e w9 ⟨rfl, hb⟩
          have B9 := Lib.hid (B8.out.trans (hb.mono B8.out.size))
          have cu9 := (hb.cell (p := ⟨bb, pb + 10, none⟩) (lt_of_cell cu8)).trans cu8
          have cv9 := (hb.cell (p := ⟨bb, pb + 11, none⟩) (lt_of_cell cv8)).trans cv8
          have du9 := (hb.cell (p := ⟨g, 10, none⟩) (lt_of_cell du8)).trans du8
          have dv9 := (hb.cell (p := ⟨g, 11, none⟩) (lt_of_cell dv8)).trans dv8
          clear hb cu8 cv8 du8 dv8
          go_wp2_with fail
          go_ret
          exact ⟨rfl, B9.out⟩
      · have hlt : decide (k < n2) = true := by rw [decide_eq_true_eq]; omega
        have hi : k < n2 := by omega
        have B8 := Lib.hid (B7.out.size)
        by_cases k10 : k = 10
        · subst k10
          go_wp2_with fail
          go_quiet (fail)
          have BB := Lib.hid (below_drewN (show Below w7.heap.size w7 wr from hbr.out) nq)
          go_wp2_with fail
          go_roundw
          case rel => exact ⟨11, by go_num, by omega, BB.out⟩
          case measure => simp [intOf]; omega
        by_cases k11 : k = 11
        · subst k11
          go_wp2_with fail
          go_quiet (fail)
          have BB := Lib.hid (below_drewN (show Below w7.heap.size w7 wr from hbr.out) nq)
          go_wp2_with fail
          go_roundw
          case rel => exact ⟨12, by go_num, by omega, BB.out⟩
          case measure => simp [intOf]; omega
        obtain ⟨u, hu, cu, u0, u1⟩ := cell_at HW.out (k := k) hi
        have du := OW.out.cell (j := k) (z := u) (by rw [put_at (by omega) (by omega)]; exact hu)
        have ii : (k : Int) < (n2 : Int) := by omega
        have a10 : ((k : Int) != 10) = true := by rw [bne_iff_ne]; omega
        have a11 : ((k : Int) != 11) = true := by rw [bne_iff_ne]; omega
        clear hu k10 k11
        go_wp2_with fail
        go_quiet (fail)
        have BB := Lib.hid (below_drewN (show Below w7.heap.size w7 wr from hbr.out) nq)
        clear cu du
        go_wp2_with fail
        go_roundw
        case rel => exact ⟨k + 1, by go_num, by omega, BB.out⟩
        case measure => simp [intOf]; omega
  · have q5 : (perr l2 != 0) = true := by rw [bne_iff_ne]; exact pz
    clear pz
    unfold val Pkt.zero
    have Q6 := Lib.hid (Blk.new w5 24 #[.int .i64 0, .int .i64 0, .int .i64 0, .int .i64 0, .bool false, .bool false, .int .i64 0, .string ⟨#[]⟩, .string ⟨#[]⟩, .string ⟨#[]⟩, .slice none 0 0])
    have B6 := Lib.hid (B5.out.alloc B5.out.size (.cells #[.int .i64 0, .int .i64 0, .int .i64 0, .int .i64 0, .bool false, .bool false, .int .i64 0, .string ⟨#[]⟩, .string ⟨#[]⟩, .string ⟨#[]⟩, .slice none 0 0] 24))
    go_wp2_with fail
    refine (awake_any _ (G0.out.keep B6.out)).mono ?_
    rintro e w7 ⟨rfl, hb⟩
    have Q7 := Lib.hid (Q6.out.below hb Q6.out.lt)
    have B7 := Lib.hid (B6.out.trans (hb.mono B6.out.size))
    clear hb
    have SY := Lib.hid (fun W => same_yes Pkt.zero none none 0 0 0 0 0 [] W (Holds.nil _ _ _) (Holds.nil _ _ _) (Nat.zero_le _))
    unfold val Pkt.zero at SY
    go_wp2_with (first
      | (refine Loads.wpList_load_w rfl 24 (.tmp 9) rfl w5.heap.size rfl 24 #[.int .i64 0, .int .i64 0, .int .i64 0, .int .i64 0, .bool false, .bool false, .int .i64 0, .string ⟨#[]⟩, .string ⟨#[]⟩, .string ⟨#[]⟩, .slice none 0 0] (0, 0) _ Q7.out (Tryd.underlying24) rfl (by kernel_rfl) ?_))
    refine (SY.out _).mono ?_
    rintro e w8 ⟨rfl, hb⟩
    have B8 := Lib.hid (B7.out.trans (hb.mono B7.out.size))
    clear hb
    go_wp2_with fail
    go_ret
    exact ⟨rfl, B8.out⟩

theorem back_any (p : Pkt) (A : Option Addr) (n c : Nat) (l : List Int) (A2 : Option Addr) (n2 c2 : Nat) (l2 : List Int) (w : World) (hg : Handle w) (h : Holds w w.heap.size A n c l) (h2 : Holds w w.heap.size A2 n2 c2 l2) (z : p.src.size ≤ 140737488355328 ∧ p.dst.size ≤ 140737488355328 ∧ p.opt.size ≤ 140737488355328 ∧ n ≤ 140737488355328) :
    Calls Tryd.prog 5 #[val p (.slice A n c), .slice A2 n2 c2] w (Yes w) := by
  cases hf : fewB p n with
  | false => exact back_no p A n c _ w z.1 z.2.1 z.2.2.1 z.2.2.2 hf
  | true =>
    by_cases hb : 3000 < n2
    · exact back_big p A n c A2 n2 c2 w hf hb
    · by_cases hk : p.chk n = 0
      · exact back_ok p A n c l A2 n2 c2 l2 w hg h h2 hf (by omega) hk
      · exact back_err p A n c l A2 n2 c2 l2 w hg h h2 hf (by omega) hk
end Go.Proofs.YtjhfginopbjldaaDoor.LawBack
