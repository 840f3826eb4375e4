/- The law Ip4Heads, of a packet that has an encoding. -/
import Derived.Test.YtjhfginopbjldaaDoorLawHeads
set_option linter.unusedVariables false
namespace Go.Proofs.YtjhfginopbjldaaDoor.LawHeads
open Go.RowKit Go.Proofs.YtjhfginopbjldaaDoor.Sums Go.Proofs.YtjhfginopbjldaaDoor.Mem Go.Proofs.YtjhfginopbjldaaDoor.Blk Go.Proofs.YtjhfginopbjldaaDoor.Pkt Go.Proofs.YtjhfginopbjldaaDoor.Check Go.Proofs.YtjhfginopbjldaaDoor.Decode Go.Proofs.YtjhfginopbjldaaDoor.ParseCode Go.Proofs.YtjhfginopbjldaaDoor.BytesCode Go.Proofs.YtjhfginopbjldaaDoor.Errno Go.Proofs.YtjhfginopbjldaaDoor.Same Go.Proofs.YtjhfginopbjldaaDoor.Back Go.Proofs.YtjhfginopbjldaaDoor.Awake Go.Proofs.YtjhfginopbjldaaDoor.InetSum

theorem cell_at {w : World} {B b o n c : Nat} {l : List Int} (h : Holds w B (some ⟨b, o, none⟩) n c l) {k : Nat} (hk : k < n) : ∃ z, l[k]? = some z ∧ w.cell? ⟨b, o + k, none⟩ = some (.int .u8 z) ∧ 0 ≤ z ∧ z ≤ 255 := by
  obtain ⟨b', o', e, _, hc⟩ := h.2.2.2.2 (by omega)
  obtain ⟨rfl, rfl⟩ : b = b' ∧ o = o' := by injection e with e; injection e with e1 e2; exact ⟨e1, e2⟩
  have hz : l[k]? = some (l[k]'(by rw [h.1]; exact hk)) := List.getElem?_eq_getElem _
  have := h.2.2.2.1 _ (List.mem_of_getElem? hz)
  exact ⟨_, hz, hc k _ hz, this.1, this.2⟩

theorem sum_65535 {l : List Int} (A : Option Addr) (n c : Nat) (w : World) (B : Nat) (h : Holds w B A n c l) (e : sums 0 l = 65535) (hs : n ≤ 65536) :
    Calls Tryd.prog 21 #[.slice A n c] w fun e w' => e = .returned (.int .i64 65535) ∧ w' = w :=
  (sum_any A n c l w B h hs).mono fun _ _ ⟨h1, h2⟩ => ⟨by rw [h1, e], h2.symm⟩

set_option maxHeartbeats 4000000 in
set_option maxRecDepth 100000 in
theorem heads_ok (p : Pkt) (A : Option Addr) (n c : Nat) (l : List Int) (at_ x : Int) (w : World) (hg : Handle w) (h : Holds w w.heap.size A n c l) (x0 : 0 ≤ x) (x1 : x ≤ 255) (hf : fewB p n = true) (hk : p.chk n = 0) :
    Calls Tryd.prog 6 #[val p (.slice A n c), .int .i64 at_, .int .u8 x] w (Yes w) := by
  have fw := few_true hf
  obtain ⟨hv, hn⟩ := chk_zero hk
  have hz := hv.z
  have hl := h.1
  have F := Lib.hid (fun W => few_any p A n c W (by omega) (by omega) (by omega) (by omega))
  rw [hf] at F
  have Y := Lib.hid (fun W hW (bel : Below w.heap.size w W) => bytes_ok p A n c l W hW w.heap.size (h.below bel) bel.size hv hn)
  have B0 := Lib.hid ((Below.refl w.heap.size w).alloc (Nat.le_refl _) (.cells #[.int .i64 p.tos, .int .i64 p.id, .int .i64 p.ttl, .int .i64 p.proto, .bool p.df, .bool p.mf, .int .i64 p.off, .string p.src, .string p.dst, .string p.opt, .slice A n c] 24))
  have P0 := Lib.hid (Blk.new w 24 #[.int .i64 p.tos, .int .i64 p.id, .int .i64 p.ttl, .int .i64 p.proto, .bool p.df, .bool p.mf, .int .i64 p.off, .string p.src, .string p.dst, .string p.opt, .slice A n c])
  have G0 := Lib.hid hg
  have S0 : Hid (sums 0 ((p.bytes l).take (20 + p.opt.size)) = 65535) := Lib.hid (by rw [bytes_take hv, hl]; exact head_sum hv hn)
  have PR : Hid (∀ (j : Nat) (y : Int), 1 ≤ j → j < 20 + p.opt.size → (p.bytes l)[j]? = some y → x ≠ y → perr ((p.bytes l).set j x) ≠ 0) := Lib.hid fun j y a b c d => other_perr hv (by omega) h.2.2.2.1 j x y a b c d x0 x1
  have e2 : Hid ((p.bytes l)[2]? = some (p.total l.length / 256)) := Lib.hid rfl
  have e3 : Hid ((p.bytes l)[3]? = some (p.total l.length % 256)) := Lib.hid rfl
  have tt : Hid (p.total l.length = 20 + (p.opt.size : Int) + n) := Lib.hid (by rw [hl]; rfl)
  clear hg hk fw hf hl h
  unfold val at *
  go_enter Tryd.func6, Tryd.ntmps6
  go_wp2_with fail
  refine (F.out _).mono ?_
  rintro e w1 ⟨rfl, hb⟩
  have B1 := Lib.hid (B0.out.trans (hb.mono B0.out.size))
  have P1 := Lib.hid (P0.out.below hb P0.out.lt)
  clear hb
  go_wp2_with (first
    | (refine wpList_load_row rfl _ _ rfl w.heap.size rfl 24 #[.int .i64 p.tos, .int .i64 p.id, .int .i64 p.ttl, .int .i64 p.proto, .bool p.df, .bool p.mf, .int .i64 p.off, .string p.src, .string p.dst, .string p.opt, .slice A n c] (0, 0) _ P1.out (Tryd.underlying24) rfl (by kernel_rfl) ?_))
  refine (Y.out _ (G0.out.keep B1.out) B1.out).mono ?_
  rintro e w2 ⟨v, rfl, o2, hb⟩
  have B2 := Lib.hid (B1.out.trans (hb.mono B1.out.size))
  have P2 := Lib.hid (P1.out.below hb P1.out.lt)
  clear hb
  obtain ⟨A2, c2, rfl, h2⟩ := o2.slice
  obtain ⟨g, rfl, hg1, hg2⟩ := o2.form (by omega)
  obtain ⟨N, hN⟩ : ∃ N, N = 20 + p.opt.size + n := ⟨_, rfl⟩
  rw [← hN] at o2 h2 ⊢
  obtain ⟨u, hu, cu, u0, u1⟩ := cell_at h2 (k := 2) (by omega)
  obtain ⟨v, hv3, cv, v0, v1⟩ := cell_at h2 (k := 3) (by omega)
  have uv : 256 * u + v = (N : Int) := by
    have a := e2.out; have b := e3.out; have t := tt.out
    rw [hu] at a; rw [hv3] at b
    injection a with a; injection b with b
    omega
  have hc2 := h2.2.1
  have hc3 := h2.2.2.1
  unfold maxLen at hc3
  have q1 : ((N : Int) != 20 + (p.opt.size : Int) + (n : Int)) = false := by rw [bne_eq_false_iff_eq]; omega
  have q2 : (256 * u + v != (N : Int)) = false := by rw [bne_eq_false_iff_eq]; exact uv
  have q3 : 20 + p.opt.size ≤ N := by omega
  have cN : (20 + (p.opt.size : Int)).toNat = 20 + p.opt.size := by omega
  have e5 : IntKind.i64.wrap (256 * u) = 256 * u := IntWalk.i64_in _ (by omega)
  have e6 : IntKind.i64.wrap (256 * u + v) = 256 * u + v := IntWalk.i64_in _ (by omega)
  have e9 : IntKind.i64.wrap (20 + (p.opt.size : Int) + (n : Int)) = 20 + (p.opt.size : Int) + (n : Int) := IntWalk.i64_in _ (by omega)
  have e7 : IntKind.i64.wrap u = u := IntWalk.i64_in _ (by omega)
  have e8 : IntKind.i64.wrap v = v := IntWalk.i64_in _ (by omega)
  have p9 := (P2.out.cell 9)
  have p10 := (P2.out.cell 10)
  have SM := Lib.hid (fun W (hh : Holds W w2.heap.size (some ⟨g, 0, none⟩) (20 + p.opt.size) c2 ((p.bytes l).take (20 + p.opt.size))) => sum_65535 _ _ _ W _ hh S0.out (by omega))
  have H2 := Lib.hid h2
  have O2 := Lib.hid o2
  have U2 := Lib.hid (h2.upto q3)
  have nN : N ≤ 65535 := by omega
  clear h2 o2 hN uv
  go_wp2_with (first
    | (refine wpList_load_row rfl _ _ rfl w.heap.size rfl 24 #[.int .i64 p.tos, .int .i64 p.id, .int .i64 p.ttl, .int .i64 p.proto, .bool p.df, .bool p.mf, .int .i64 p.off, .string p.src, .string p.dst, .string p.opt, .slice A n c] (0, 0) _ P2.out (Tryd.underlying24) rfl (by kernel_rfl) ?_))
  go_quiet ((go_at_call 21; exact Calls.quiet_of_same (SM.out _ (U2.out.keep fun _ _ _ => rfl))))
  clear e5 e6 e7 e8 e9 cu cv p9 p10 q1 q2 cN SM F Y P2 U2 H2 hu hv3 u0 u1 v0 v1 e2 e3 S0 tt
  have O3 : Hid (Owns (w2.drewN nq) w1.heap.size (.slice (some ⟨g, 0, none⟩) N c2) N (p.bytes l)) := O2
  have B3 := Lib.hid (below_drewN B2.out nq)
  clear O2 B2 P1 P0 B0
  have hbs := B1.out.size
  generalize w2.drewN nq = w3 at *
  have G3 := Lib.hid (G0.out.keep B3.out)
  by_cases k1 : at_ < 1
  · go_wp2_with fail
    refine (awake_any w3 G3.out).mono ?_
    rintro e w4 ⟨rfl, hb⟩
    have B4 := Lib.hid (B3.out.trans (hb.mono B3.out.size))
    clear hb
    go_wp2_with fail
    go_ret
    exact ⟨rfl, B4.out⟩
  obtain ⟨k, rfl⟩ : ∃ k : Nat, at_ = (k : Int) := ⟨at_.toNat, by omega⟩
  by_cases k2 : k < 20 + p.opt.size
  · obtain ⟨y, hy, cy, y0, y1⟩ := cell_at O3.out.holds (k := k) (by omega)
    rw [Nat.zero_add] at cy
    have HY := Lib.hid hy
    clear hy
    have k3 : (20 + (p.opt.size : Int) ≤ (k : Int)) = False := eq_false (by omega)
    by_cases k4 : y = x
    · subst k4
      go_wp2_with fail
      refine (awake_any w3 G3.out).mono ?_
      rintro e w4 ⟨rfl, hb⟩
      have B4 := Lib.hid (B3.out.trans (hb.mono B3.out.size))
      clear hb
      go_wp2_with fail
      go_ret
      exact ⟨rfl, B4.out⟩
    · have k5 : (y == x) = false := by rw [beq_eq_false_iff_ne]; exact k4
      have fr := O3.out.free k (by omega)
      have PE := Lib.hid (PR.out k y (by omega) k2 HY.out (fun e => k4 e.symm))
      have O4 := Lib.hid (O3.out.set k x x0 x1)
      have B4 := Lib.hid (B3.out.setCell (p := ⟨g, k, none⟩) (by show w.heap.size ≤ g; omega) (.int .u8 x))
      clear PR HY k4 k3
      go_wp2_with fail
      refine (parse_any _ _ _ _ _ _ (G0.out.keep B4.out) (Nat.le_refl _) O4.out.holds (by omega)).mono ?_
      rintro e w5 ⟨h5, hb⟩
      have B5 := Lib.hid (B4.out.trans (hb.mono B4.out.size))
      clear hb
      rcases h5 with ⟨h5, _⟩ | ⟨h5, rfl⟩
      · exact absurd h5 PE.out
      have q : (perr ((p.bytes l).set k x) != 0) = true := by rw [bne_iff_ne]; exact h5
      clear h5 PE O4
      unfold val Pkt.zero
      go_wp2_with fail
      have B6 := Lib.hid (B5.out.alloc B5.out.size (.cells #[.int .i64 0, .int .i64 0, .int .i64 0, .int .i64 0, .bool false, .bool false, .int .i64 0, .string ⟨#[]⟩, .string ⟨#[]⟩, .string ⟨#[]⟩, .slice none 0 0] 24))
      refine (awake_any _ (G0.out.keep B6.out)).mono ?_
      rintro e w7 ⟨rfl, hb⟩
      have B7 := Lib.hid (B6.out.trans (hb.mono B6.out.size))
      clear hb
      go_wp2_with fail
      go_ret
      exact ⟨rfl, B7.out⟩
  · have k3 : (20 + (p.opt.size : Int) ≤ (k : Int)) = True := eq_true (by omega)
    go_wp2_with fail
    refine (awake_any w3 G3.out).mono ?_
    rintro e w4 ⟨rfl, hb⟩
    have B4 := Lib.hid (B3.out.trans (hb.mono B3.out.size))
    clear hb
    go_wp2_with fail
    go_ret
    exact ⟨rfl, B4.out⟩
end Go.Proofs.YtjhfginopbjldaaDoor.LawHeads
