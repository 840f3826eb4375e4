/- The contracts of the document's Stream and Turn, where they refuse; Stream, where it answers. -/
import Derived.Test.YtdnkbefpbehllaaGreatDoorM18
import Derived.Test.YtdnkbefpbehllaaGreatDoorM33
import Derived.Test.YtdnkbefpbehllaaGreatDoorM16
import Derived.Test.YtdnkbefpbehllaaGreatDoorM15
import Derived.Test.YtdnkbefpbehllaaGreatDoorM32
import Derived.LoopTactic
set_option linter.unusedVariables false
namespace Go.Proofs.YtdnkbefpbehllaaGreatDoor.CtrR
open Go.RowKit Go.PlainAid Go.Proofs.YtdnkbefpbehllaaGreatDoor.Sums Go.Proofs.YtdnkbefpbehllaaGreatDoor.Mem Go.Proofs.YtdnkbefpbehllaaGreatDoor.Blk Go.Proofs.YtdnkbefpbehllaaGreatDoor.Bits3 Go.Proofs.YtdnkbefpbehllaaGreatDoor.Ints Go.Proofs.YtdnkbefpbehllaaGreatDoor.CutA Go.Proofs.YtdnkbefpbehllaaGreatDoor.AesF Go.Proofs.YtdnkbefpbehllaaGreatDoor.CtrD Go.Proofs.YtdnkbefpbehllaaGreatDoor.AesB Go.Proofs.YtdnkbefpbehllaaGreatDoor.AesK Go.Proofs.YtdnkbefpbehllaaGreatDoor.AesR2 Go.Proofs.YtdnkbefpbehllaaGreatDoor.AesR3 Go.Proofs.YtdnkbefpbehllaaGreatDoor.AesKy Go.Proofs.YtdnkbefpbehllaaGreatDoor.AesBy Go.Proofs.YtdnkbefpbehllaaGreatDoor.Ctr1

theorem keys_ref (A : Option Addr) (n c : Nat) (ky : List Int) (w : World) (B : Nat) (h : Holds w B A n c ky) (hB : B ≤ w.heap.size) (hn : n = 16 ∨ n = 32) :
    Calls Tryz.prog 55 #[.slice A n c] w fun e w' => ∃ A' c' N, e = .returned (.slice A' (16 * (N + 1)) c') ∧ 1 ≤ N ∧ N ≤ 20 ∧ Holds w' w'.heap.size A' (16 * (N + 1)) c' (ints (keys (nats ky))) ∧ Below w.heap.size w w' := by
  rcases hn with rfl | rfl
  · refine (keys_4 A c ky w B h hB).mono ?_
    rintro e w' ⟨v, he, ho, hb⟩
    obtain ⟨A', c', rfl, hh⟩ := ho.slice
    exact ⟨A', c', 10, he, by decide, by decide, hh, hb⟩
  · refine (keys_8 A c ky w B h hB).mono ?_
    rintro e w' ⟨v, he, ho, hb⟩
    obtain ⟨A', c', rfl, hh⟩ := ho.slice
    exact ⟨A', c', 14, he, by decide, by decide, hh, hb⟩

set_option maxHeartbeats 1000000 in
theorem stream_ref_bad (Ak : Option Addr) (kn ck : Nat) (As : Option Addr) (sn cs : Nat) (Av : Option Addr) (vn cv : Nat) (n : Int) (w : World) (hkn : kn ≤ 140737488355328) (he : errS kn sn vn n ≠ 0) :
    Calls Tryz.prog 46 #[.slice Ak kn ck, .slice As sn cs, .slice Av vn cv, .int .i64 n] w fun e w' => e = .returned (.tuple #[.slice none 0 0, .int .i64 (errS kn sn vn n)]) ∧ w = w' := by
  have C := Lib.hid (may_ref Ak kn ck w hkn)
  by_cases h : kn = 16 ∨ kn = 32
  · have MB : mayB kn = true := by rcases h with rfl | rfl <;> rfl
    rw [MB] at C
    by_cases h1 : sn = 4
    · subst h1
      by_cases h2 : vn = 8
      · subst h2
        by_cases h3 : n < 0
        · have E : Hid (errS kn 4 8 n = 1) := Lib.hid (by unfold errS; rw [if_neg (by omega)])
          have g3 : decide (n < 0) = true := decide_eq_true h3
          rw [E.out]
          clear h h3 he MB
          go_enter Tryz.func46, Tryz.ntmps46
          go_wp2_with fail
          refine C.out.mono ?_
          rintro e w' ⟨rfl, rfl⟩
          go_wp2_with fail
          go_ret2
          exact ⟨rfl, rfl⟩
        · have h4 : 65536 < n := by
            unfold errS at he
            rw [if_pos ⟨h, rfl, rfl, by omega⟩] at he
            by_cases q : n ≤ 65536
            · rw [if_pos q] at he; exact absurd rfl he
            · omega
          have E : Hid (errS kn 4 8 n = 2) := Lib.hid (by unfold errS; rw [if_pos ⟨h, rfl, rfl, by omega⟩, if_neg (by omega)])
          have g3 : decide (n < 0) = false := decide_eq_false h3
          have g4 : decide (65536 < n) = true := decide_eq_true h4
          rw [E.out]
          clear h h3 h4 he MB
          go_enter Tryz.func46, Tryz.ntmps46
          go_wp2_with fail
          refine C.out.mono ?_
          rintro e w' ⟨rfl, rfl⟩
          go_wp2_with fail
          go_ret2
          exact ⟨rfl, rfl⟩
      · have E : Hid (errS kn 4 vn n = 1) := Lib.hid (by unfold errS; rw [if_neg (by omega)])
        have g2 : ((vn : Int) != 8) = true := by simp; omega
        rw [E.out]
        clear h h2 he MB
        go_enter Tryz.func46, Tryz.ntmps46
        go_wp2_with fail
        refine C.out.mono ?_
        rintro e w' ⟨rfl, rfl⟩
        go_wp2_with fail
        go_ret2
        exact ⟨rfl, rfl⟩
    · have E : Hid (errS kn sn vn n = 1) := Lib.hid (by unfold errS; rw [if_neg (by omega)])
      have g1 : ((sn : Int) != 4) = true := by simp; omega
      rw [E.out]
      clear h h1 he MB
      go_enter Tryz.func46, Tryz.ntmps46
      go_wp2_with fail
      refine C.out.mono ?_
      rintro e w' ⟨rfl, rfl⟩
      go_wp2_with fail
      go_ret2
      exact ⟨rfl, rfl⟩
  · have MB : mayB kn = false := by
      simp only [mayB, Bool.or_eq_false_iff, decide_eq_false_iff_not]; omega
    have E : Hid (errS kn sn vn n = 1) := Lib.hid (by unfold errS; rw [if_neg (by omega)])
    rw [MB] at C
    rw [E.out]
    clear h he MB
    go_enter Tryz.func46, Tryz.ntmps46
    go_wp2_with fail
    refine C.out.mono ?_
    rintro e w' ⟨rfl, rfl⟩
    go_wp2_with fail
    go_ret2
    exact ⟨rfl, rfl⟩

set_option maxHeartbeats 1000000 in
theorem turn_ref_bad (Ak : Option Addr) (kn ck : Nat) (As : Option Addr) (sn cs : Nat) (Av : Option Addr) (vn cv : Nat) (Ab : Option Addr) (n cb : Nat) (w : World) (hkn : kn ≤ 140737488355328) (he : errS kn sn vn (n : Int) ≠ 0) :
    Calls Tryz.prog 29 #[.slice Ak kn ck, .slice As sn cs, .slice Av vn cv, .slice Ab n cb] w fun e w' => e = .returned (.tuple #[.slice none 0 0, .int .i64 (errS kn sn vn (n : Int))]) ∧ w = w' := by
  have C := Lib.hid (stream_ref_bad Ak kn ck As sn cs Av vn cv (n : Int) w hkn he)
  have g1 : (errS kn sn vn (n : Int) != 0) = true := by simpa using he
  generalize errS kn sn vn (n : Int) = er at *
  clear he
  go_enter Tryz.func29, Tryz.ntmps29
  go_wp2_with fail
  refine C.out.mono ?_
  rintro e w1 ⟨rfl, rfl⟩
  go_wp2_with fail
  go_ret2
  exact ⟨rfl, rfl⟩

theorem cut_h (A : Option Addr) (n c h : Nat) (w : World) (h2 : h ≤ c) : (Instr.sliceAt 25 (.slice A n c) none (some (.int .i64 (h : Int))) none).run Tryz.prog w = .ok (.slice A h c) w := by
  have e := run_slice_h (P := Tryz.prog) (w := w) (t := 25) (a := A) (len := n) (cap := c) (ht := (by kernel_rfl)) .i64 (h : Int) (by omega) (by omega)
  rw [run_sliceAt_slice (P := Tryz.prog) (h := (by kernel_rfl)), e, byte_elem]
  have a0 : ∀ a : Addr, a.add 0 = a := fun a => by unfold Addr.add; simp
  simp [sliced, a0]

set_option maxHeartbeats 2000000 in
theorem stream_ref (Ak : Option Addr) (kn ck : Nat) (ky : List Int) (As : Option Addr) (cs : Nat) (sa : List Int) (Av : Option Addr) (cv : Nat) (iv : List Int) (n : Nat) (w : World) (B : Nat) (hk : Holds w B Ak kn ck ky) (hs : Holds w B As 4 cs sa) (hv : Holds w B Av 8 cv iv) (hB : B ≤ w.heap.size) (hkn : kn = 16 ∨ kn = 32) (hn : n ≤ 65536) :
    Calls Tryz.prog 46 #[.slice Ak kn ck, .slice As 4 cs, .slice Av 8 cv, .int .i64 (n : Int)] w fun e w' => ∃ A c, e = .returned (.tuple #[.slice A n c, .int .i64 0]) ∧ Holds w' w'.heap.size A n c (ints (strm (keys (nats ky)) (nats sa) (nats iv) n)) ∧ Below w.heap.size w w' := by
  have C := Lib.hid (may_ref Ak kn ck w (by omega))
  rw [show mayB kn = true by rcases hkn with rfl | rfl <;> rfl] at C
  have CK := Lib.hid (keys_ref Ak kn ck ky w B hk hB hkn)
  have KN : Hid (nats (ints (keys (nats ky))) = keys (nats ky)) := Lib.hid (nats_ints _)
  obtain ⟨KS, hKS⟩ : ∃ KS, KS = keys (nats ky) := ⟨_, rfl⟩
  have g3 : decide ((n : Int) < 0) = false := decide_eq_false (by omega)
  have g4 : decide ((65536 : Int) < (n : Int)) = false := decide_eq_false (by omega)
  have HS := Lib.hid hs
  have HV := Lib.hid hv
  rw [← hKS] at CK KN ⊢
  clear hk hs hv hKS hkn
  go_enter Tryz.func46, Tryz.ntmps46
  go_wp2_with fail
  refine C.out.mono ?_
  rintro e w' ⟨rfl, rfl⟩
  go_wp2_with fail
  refine CK.out.mono ?_
  rintro e w1 ⟨A1, c1, N, rfl, hN1, hN2, hh, hb⟩
  have N1 := Lib.hid hN1
  have N2 := Lib.hid hN2
  have HK := Lib.hid hh
  have B1 := Lib.hid hb
  clear hh hb C CK hN1 hN2
  obtain ⟨L, hL⟩ : ∃ L, L = 16 * (N + 1) := ⟨_, rfl⟩
  have LE := Lib.hid hL
  rw [← hL] at HK ⊢
  clear hL
  go_wp2_with fail
  refine (table_ref w1).mono ?_
  rintro e w2 ⟨rfl, hrow, hb⟩
  have T2 := Lib.hid hrow
  have B2 := Lib.hid (B1.out.trans (hb.mono B1.out.size))
  have K2 := Lib.hid (HK.out.below hb)
  have G2 : Hid (w1.heap.size < w2.heap.size ∧ w.heap.size ≤ w1.heap.size) := Lib.hid ⟨hrow.lt, B1.out.size⟩
  clear hrow hb B1 HK
  obtain ⟨gx, hgx⟩ : ∃ gx, gx = w1.heap.size := ⟨_, rfl⟩
  rw [← hgx] at T2 K2 G2 ⊢
  clear hgx
  have B22 := Lib.hid (Below.refl w2.heap.size w2)
  go_wp2_with fail
  go_loopw [12, 13] (fun ov kv wr => ∃ (j : Nat) (v : Value), ov = v ∧ kv = .int .i64 ((j + 1 : Nat) : Int) ∧ 16 * j ≤ n + 15 ∧ Hid (Owns wr w2.heap.size v (16 * j) (ints (strm KS (nats sa) (nats iv) (16 * j)))) ∧ Hid (Below w2.heap.size w2 wr)) (fun _ kv _ => n + 17 - 16 * (intOf kv).toNat + 16)
  case atStart => exact ⟨0, _, rfl, rfl, by omega, Lib.hid (Owns.nil _ _), B22⟩
  case round =>
    obtain ⟨j, v, hv, rfl, hj, HO, HB⟩ := hrel
    replace hv := hv.symm
    subst hv
    obtain ⟨A2, c2, rfl, hh2⟩ := HO.out.slice
    have H2 := Lib.hid hh2
    clear hh2 B22
    by_cases hlt : 16 * j < n
    · have g5 : decide (((16 * j : Nat) : Int) < (n : Int)) = true := decide_eq_true (by omega)
      have hBr : B ≤ wr.heap.size := by have := HB.out.size; have := B2.out.size; omega
      have BW := Lib.hid (B2.out.trans (HB.out.mono B2.out.size))
      have C := Lib.hid (counter_ref As Av cs cv sa iv (j + 1) wr B (HS.out.below (BW.out.mono hB)) (HV.out.below (BW.out.mono hB)) hBr (by omega) (by omega))
      have e9 : 16 * j + 16 = 16 * (j + 1) := by omega
      have hs16 : 16 * j + 16 ≤ 1048576 := by omega
      clear g3 g4 hBr
      generalize hq : 16 * j = q at *
      have Q := Lib.hid hq
      clear hq
      go_wp2_with fail
      refine C.out.mono ?_
      rintro e w3 ⟨A3, c3, rfl, hh, hb3⟩
      have H3 := Lib.hid hh
      have B3 := Lib.hid hb3
      have BW3 := Lib.hid (HB.out.trans (hb3.mono HB.out.size))
      clear hh hb3 C
      go_wp2_with fail
      refine (by_ref gx A1 L c1 (ints KS) A3 c3 _ w3 w3.heap.size (T2.out.below BW3.out G2.out.1) ((K2.out.below (BW3.out.mono (by have := G2.out.1; omega))).more (by have := BW3.out.size; have := G2.out.1; omega)) H3.out (Nat.le_refl _) N LE.out N1.out N2.out).mono ?_
      rintro e w4 ⟨v4, rfl, ho4, hb4⟩
      rw [nats_ints, nats_ints] at ho4
      obtain ⟨A4, c4, rfl, hh4⟩ := ho4.slice
      have H4 := Lib.hid hh4
      have B4 := Lib.hid (BW3.out.trans (hb4.mono BW3.out.size))
      have O4 := Lib.hid ((HO.out.below B3.out (Nat.le_refl _)).below hb4 (Nat.le_refl _))
      clear ho4 hh4 hb4
      go_wp2_with (at_builtin
                   refine wpList_append_bytes rfl (.tmp 56) (.tmp 57) rfl w2.heap.size _ q _ rfl O4.out w4.heap.size A4 16 c4 _ rfl H4.out hs16 B4.out.size ?_
                   intro v5 w5 ho5 hg5 _)
      rw [← Go.Proofs.YtdnkbefpbehllaaGreatDoor.Ctr1.ints_app, ← Q.out, strm_more] at ho5
      rw [show 16 * j + 16 = 16 * (j + 1) by omega] at ho5
      have O5 := Lib.hid ho5
      have B5 := Lib.hid (B4.out.grown hg5 B4.out.size fun k hk => (O4.out.lt k hk).1)
      clear ho5 hg5
      have e7 : IntKind.i64.wrap (((j + 1 : Nat) : Int) + 1) = ((j + 1 + 1 : Nat) : Int) := by rw [IntWalk.i64_in _ (by have := Q.out; omega)]; omega
      go_wp2_with fail
      go_roundw
      case rel => exact ⟨j + 1, v5, rfl, by go_num, by have := Q.out; omega, O5, B5⟩
      case measure => have := Q.out; simp [intOf]; omega
    · have g5 : decide (((16 * j : Nat) : Int) < (n : Int)) = false := decide_eq_false (by omega)
      have hc2 := H2.out.2.1
      have sl := cut_h A2 (16 * j) c2 n wr (by omega)
      have HF : Hid (Holds wr wr.heap.size A2 n c2 (ints (strm KS (nats sa) (nats iv) n))) := Lib.hid (by
        have := H2.out.upto (k := n) (by omega)
        have e : (ints (strm KS (nats sa) (nats iv) (16 * j))).take n = ints (strm KS (nats sa) (nats iv) n) := by
          rw [← strm_take KS (nats sa) (nats iv) (show n ≤ 16 * j by omega)]; simp [ints, List.map_take]
        rwa [e] at this)
      have BF := Lib.hid (B2.out.trans (HB.out.mono B2.out.size))
      clear H2 HO HB
      generalize hq : 16 * j = q at *
      clear hq
      go_wp2_with fail
      go_ret2
      exact ⟨A2, c2, rfl, HF.out, BF.out⟩
end Go.Proofs.YtdnkbefpbehllaaGreatDoor.CtrR

/- The contract of the document's Turn, where it answers. -/
set_option linter.unusedVariables false
namespace Go.Proofs.YtdnkbefpbehllaaGreatDoor.CtrT
open Go.RowKit Go.PlainAid Go.Proofs.YtdnkbefpbehllaaGreatDoor.Sums Go.Proofs.YtdnkbefpbehllaaGreatDoor.Mem Go.Proofs.YtdnkbefpbehllaaGreatDoor.Blk Go.Proofs.YtdnkbefpbehllaaGreatDoor.Bits3 Go.Proofs.YtdnkbefpbehllaaGreatDoor.Ints Go.Proofs.YtdnkbefpbehllaaGreatDoor.CutA Go.Proofs.YtdnkbefpbehllaaGreatDoor.AesF Go.Proofs.YtdnkbefpbehllaaGreatDoor.CtrD Go.Proofs.YtdnkbefpbehllaaGreatDoor.AesB Go.Proofs.YtdnkbefpbehllaaGreatDoor.AesK Go.Proofs.YtdnkbefpbehllaaGreatDoor.AesR2 Go.Proofs.YtdnkbefpbehllaaGreatDoor.AesR3 Go.Proofs.YtdnkbefpbehllaaGreatDoor.Ctr1 Go.Proofs.YtdnkbefpbehllaaGreatDoor.CtrR

set_option maxHeartbeats 2000000 in
set_option maxRecDepth 100000 in
theorem turn_ref (Ak : Option Addr) (kn ck : Nat) (ky : List Int) (As : Option Addr) (cs : Nat) (sa : List Int) (Av : Option Addr) (cv : Nat) (iv : List Int) (Ab : Option Addr) (n cb : Nat) (l : List Int) (w : World) (B : Nat) (hk : Holds w B Ak kn ck ky) (hs : Holds w B As 4 cs sa) (hv : Holds w B Av 8 cv iv) (hb : Holds w B Ab n cb l) (hB : B ≤ w.heap.size) (hkn : kn = 16 ∨ kn = 32) (hn : n ≤ 65536) :
    Calls Tryz.prog 29 #[.slice Ak kn ck, .slice As 4 cs, .slice Av 8 cv, .slice Ab n cb] w fun e w' => ∃ g, e = .returned (.tuple #[.slice (some ⟨g, 0, none⟩) n n, .int .i64 0]) ∧ w.heap.size ≤ g ∧ BRow w' g (trn (keys (nats ky)) (nats sa) (nats iv) (nats l)) ∧ Below w.heap.size w w' := by
  have C := Lib.hid (stream_ref Ak kn ck ky As cs sa Av cv iv n w B hk hs hv hB hkn hn)
  obtain ⟨kf, hkf⟩ : ∃ kf, kf = kb (keys (nats ky)) (nats sa) (nats iv) := ⟨_, rfl⟩
  obtain ⟨f, hf⟩ : ∃ f : Nat → Nat, f = fun j => (nats l).getD j 0 ^^^ kf j := ⟨_, rfl⟩
  have FK : Hid (∀ j, kf j < 256) := Lib.hid fun j => by rw [hkf]; exact kb_lt (keys_byt (nats_byt hk.2.2.2.1)) (nats_byt hs.2.2.2.1) (nats_byt hv.2.2.2.1) j
  have HL := Lib.hid hb
  have E2 : Hid (fil f n n = trn (keys (nats ky)) (nats sa) (nats iv) (nats l)) := Lib.hid (by
    rw [fil_full, hf, hkf, trn, nats_len, hb.1])
  have ES : Hid (∀ j, j < n → (strm (keys (nats ky)) (nats sa) (nats iv) n).getD j 0 = kf j) := Lib.hid fun j hj => by rw [hkf]; exact strm_get _ _ _ hj
  have FX : Hid (∀ j, f j = (nats l).getD j 0 ^^^ kf j) := Lib.hid fun j => by rw [hf]
  obtain ⟨SS, hSS⟩ : ∃ SS, SS = strm (keys (nats ky)) (nats sa) (nats iv) n := ⟨_, rfl⟩
  rw [← hSS] at C ES
  obtain ⟨R, hR⟩ : ∃ R, R = trn (keys (nats ky)) (nats sa) (nats iv) (nats l) := ⟨_, rfl⟩
  rw [← hR] at E2 ⊢
  clear hk hs hv hb hkf hf hR hSS
  go_enter Tryz.func29, Tryz.ntmps29
  go_wp2_with fail
  refine C.out.mono ?_
  rintro e w1 ⟨A1, c1, rfl, hh, hb1⟩
  have H1 := Lib.hid hh
  have B1 := Lib.hid hb1
  clear hh hb1 C
  have hmk : (Instr.makeSlice 25 (.int .i64 (n : Int)) (.int .i64 (n : Int))).run Tryz.prog w1 = .ok (.slice (some ⟨w1.heap.size, 0, none⟩) n n) (w1.alloc (.cells (bcells (List.replicate n 0)) 5)) := make_b n (by omega) w1
  obtain ⟨Z, hZ⟩ : ∃ Z, Z = List.replicate n 0 := ⟨_, rfl⟩
  have HZ : Hid (fil f n 0 = Z) := Lib.hid (by rw [fil_zero, hZ])
  rw [← hZ] at hmk
  have R0 : Hid (BRow (w1.alloc (.cells (bcells Z) 5)) w1.heap.size (fil f n 0)) := Lib.hid (by rw [HZ.out]; exact BRow.new w1 _)
  have B0 := Lib.hid (B1.out.alloc B1.out.size (.cells (bcells Z) 5))
  have S0 := Lib.hid (H1.out.below ((Below.refl w1.heap.size w1).alloc (Nat.le_refl _) (.cells (bcells Z) 5)))
  have G1 := Lib.hid B1.out.size
  clear hZ B1 H1
  go_wp2_with fail
  clear hmk
  obtain ⟨g, hg⟩ : ∃ g, g = w1.heap.size := ⟨_, rfl⟩
  rw [← hg] at R0 S0 G1 ⊢
  clear hg
  generalize w1.alloc (.cells (bcells Z) 5) = w2 at *
  go_loopw [13] (fun kv wr => ∃ j : Nat, kv = .int .i64 (j : Int) ∧ j ≤ n ∧ Hid (BRow wr g (fil f n j)) ∧ Hid (Below w.heap.size w wr) ∧ Hid (Holds wr g A1 n c1 (ints SS))) (fun kv _ => n - (intOf kv).toNat)
  case atStart => exact ⟨0, rfl, by omega, R0, B0, S0⟩
  case round =>
    obtain ⟨j, rfl, hj, HR, HB, HS⟩ := hrel
    clear R0 B0 S0
    by_cases hlt : j < n
    · have h2 := HL.out.below (HB.out.mono hB)
      obtain ⟨q, p, hq, _⟩ := h2.2.2.2.2 (by omega)
      obtain ⟨q2, p2, hq2, _⟩ := HS.out.2.2.2.2 (by omega)
      subst hq hq2
      have x0 := cell_getD h2 j hlt
      rw [nats_getD h2.2.2.2.1 j] at x0
      have bx := (nats_byt h2.2.2.2.1).get j
      have y0 := cell_getD HS.out j hlt
      rw [ints_getD, ES.out j hlt] at y0
      have c0 := HR.out.cell j (by rw [fil_len]; exact hlt)
      have f0 := HR.out.free j
      have e1 : bits .xor .u8 (((nats l).getD j 0 : Nat) : Int) ((kf j : Nat) : Int) = ((f j : Nat) : Int) := by rw [FX.out]; exact Bits3.u8_xor bx (FK.out j)
      have R2 : Hid (BRow (wr.setCell ⟨g, j, none⟩ (.int .u8 ((f j : Nat) : Int))) g (fil f n (j + 1))) := Lib.hid (by have := HR.out.put j (f j); rwa [fil_set] at this)
      have B2 := Lib.hid (HB.out.setCell (p := ⟨g, j, none⟩) G1.out (.int .u8 ((f j : Nat) : Int)))
      have S2 := Lib.hid (HS.out.below ((Below.refl g wr).setCell (p := ⟨g, j, none⟩) (Nat.le_refl _) (.int .u8 ((f j : Nat) : Int))))
      have KF := FK.out j
      generalize (fil f n j).getD j 0 = old at *
      generalize (nats l).getD j 0 = x at *
      generalize kf j = y at *
      generalize f j = z at *
      have bn := h2.2.2.1
      have bn2 := HS.out.2.2.1
      have bc := h2.2.1
      unfold maxLen at bn bn2
      clear HR HB h2 HS
      go_wp2_with fail
      go_region
      go_wp2_with fail
      go_roundw
      case rel => exact ⟨j + 1, by go_num, by omega, R2, Lib.hid (below_drewN B2.out 1), Lib.hid (S2.out)⟩
      case measure => simp [intOf]; omega
    · obtain rfl : j = n := by omega
      have R3 : Hid (BRow wr g R) := Lib.hid (by rw [← E2.out]; exact HR.out)
      clear HR hlt
      go_wp2_with fail
      go_ret2
      exact ⟨g, rfl, G1.out, R3.out, HB.out⟩
end Go.Proofs.YtdnkbefpbehllaaGreatDoor.CtrT

/- Counter, Stream and Turn, of the code and of the document: one contract each, whether they answer or refuse. -/
set_option linter.unusedVariables false
namespace Go.Proofs.YtdnkbefpbehllaaGreatDoor.CtrU
open Go.RowKit Go.PlainAid Go.Proofs.YtdnkbefpbehllaaGreatDoor.Sums Go.Proofs.YtdnkbefpbehllaaGreatDoor.Mem Go.Proofs.YtdnkbefpbehllaaGreatDoor.Blk Go.Proofs.YtdnkbefpbehllaaGreatDoor.Bits3 Go.Proofs.YtdnkbefpbehllaaGreatDoor.Ints Go.Proofs.YtdnkbefpbehllaaGreatDoor.CutA Go.Proofs.YtdnkbefpbehllaaGreatDoor.AesF Go.Proofs.YtdnkbefpbehllaaGreatDoor.CtrD Go.Proofs.YtdnkbefpbehllaaGreatDoor.AesB Go.Proofs.YtdnkbefpbehllaaGreatDoor.AesK Go.Proofs.YtdnkbefpbehllaaGreatDoor.AesR2 Go.Proofs.YtdnkbefpbehllaaGreatDoor.AesR3 Go.Proofs.YtdnkbefpbehllaaGreatDoor.Aes9 Go.Proofs.YtdnkbefpbehllaaGreatDoor.Ctr1 Go.Proofs.YtdnkbefpbehllaaGreatDoor.Ctr2 Go.Proofs.YtdnkbefpbehllaaGreatDoor.Ctr4 Go.Proofs.YtdnkbefpbehllaaGreatDoor.Ctr5 Go.Proofs.YtdnkbefpbehllaaGreatDoor.CtrR Go.Proofs.YtdnkbefpbehllaaGreatDoor.CtrT Go.Proofs.YtdnkbefpbehllaaGreatDoor.CtrA

def cOut (sa iv : List Int) (n : Int) : List Int := if cbad sa.length iv.length n then [] else ints (cnt (nats sa) (nats iv) n.toNat)
def cErr (sa iv : List Int) (n : Int) : Int := if cbad sa.length iv.length n then 1 else 0
def sErr (ky sa iv : List Int) (n : Int) : Int := errS ky.length sa.length iv.length n
def sOut (ky sa iv : List Int) (n : Int) : List Int := if sErr ky sa iv n = 0 then ints (strm (keys (nats ky)) (nats sa) (nats iv) n.toNat) else []
def tOut (ky sa iv l : List Int) : List Int := if sErr ky sa iv (l.length : Int) = 0 then ints (trn (keys (nats ky)) (nats sa) (nats iv) (nats l)) else []
/-- An answer that lies in memory: bytes and an error. -/
def Ans (w : World) (X : List Int) (er : Int) (e : Ending) (w' : World) : Prop := ∃ A c, e = .returned (.tuple #[.slice A X.length c, .int .i64 er]) ∧ Holds w' w'.heap.size A X.length c X ∧ Below w.heap.size w w'
theorem Ans.nil {w w' : World} {er : Int} {e : Ending} (h : e = .returned (.tuple #[.slice none 0 0, .int .i64 er])) (hb : Below w.heap.size w w') : Ans w [] er e w' := ⟨none, 0, h, Holds.nil _ _ _, hb⟩
theorem ok_good {ky sa iv : List Int} {n : Int} (h : sErr ky sa iv n = 0) : (ky.length = 16 ∨ ky.length = 32) ∧ sa.length = 4 ∧ iv.length = 8 ∧ 0 ≤ n ∧ n ≤ 65536 := by
  unfold sErr errS at h
  split at h
  · rename_i q
    split at h
    · rename_i q2; exact ⟨q.1, q.2.1, q.2.2.1, q.2.2.2, q2⟩
    · cases h
  · cases h
section
variable (Ak : Option Addr) (kn ck : Nat) (ky : List Int) (As : Option Addr) (sn cs : Nat) (sa : List Int) (Av : Option Addr) (vn cv : Nat) (iv : List Int) (Ab : Option Addr) (bn cb : Nat) (l : List Int) (n : Int) (w : World) (B : Nat)

theorem counter_u (hs : Holds w B As sn cs sa) (hv : Holds w B Av vn cv iv) (hB : B ≤ w.heap.size) :
    Calls Tryz.prog 77 #[.slice As sn cs, .slice Av vn cv, .int .i64 n] w (Ans w (cOut sa iv n) (cErr sa iv n)) := by
  obtain rfl := hs.1
  obtain rfl := hv.1
  cases q : cbad sa.length iv.length n with
  | true =>
    have e1 : cOut sa iv n = [] := by simp [cOut, q]
    have e2 : cErr sa iv n = 1 := by simp [cErr, q]
    rw [e1, e2]
    refine (counter_bad As Av _ cs _ cv n w q).mono ?_
    rintro e w' ⟨h, rfl⟩
    exact Ans.nil h (Below.refl _ _)
  | false =>
    obtain ⟨h1, h2, h3, h4⟩ := cbad_false q
    have e1 : cOut sa iv n = ints (cnt (nats sa) (nats iv) n.toNat) := by simp [cOut, q]
    have e2 : cErr sa iv n = 0 := by simp [cErr, q]
    have el : (ints (cnt (nats sa) (nats iv) n.toNat)).length = 16 := by rw [Ctr1.ints_len, cnt_len (by rw [nats_len, h1]) (by rw [nats_len, h2])]
    rw [e1, e2]
    unfold Ans
    rw [el]
    rw [h1] at hs ⊢
    rw [h2] at hv ⊢
    have := counter_ok As Av cs cv sa iv n.toNat w B hs hv hB (by omega) (by omega)
    rw [Int.toNat_of_nonneg (by omega)] at this
    refine this.mono ?_
    rintro e w' ⟨A, c, he, hh, hb⟩
    exact ⟨A, c, he, hh, hb⟩
theorem counter_ru (hs : Holds w B As sn cs sa) (hv : Holds w B Av vn cv iv) (hB : B ≤ w.heap.size) :
    Calls Tryz.prog 57 #[.slice As sn cs, .slice Av vn cv, .int .i64 n] w (Ans w (cOut sa iv n) (cErr sa iv n)) := by
  obtain rfl := hs.1
  obtain rfl := hv.1
  cases q : cbad sa.length iv.length n with
  | true =>
    have e1 : cOut sa iv n = [] := by simp [cOut, q]
    have e2 : cErr sa iv n = 1 := by simp [cErr, q]
    rw [e1, e2]
    refine (counter_ref_bad As Av _ cs _ cv n w q).mono ?_
    rintro e w' ⟨h, rfl⟩
    exact Ans.nil h (Below.refl _ _)
  | false =>
    obtain ⟨h1, h2, h3, h4⟩ := cbad_false q
    have e1 : cOut sa iv n = ints (cnt (nats sa) (nats iv) n.toNat) := by simp [cOut, q]
    have e2 : cErr sa iv n = 0 := by simp [cErr, q]
    have el : (ints (cnt (nats sa) (nats iv) n.toNat)).length = 16 := by rw [Ctr1.ints_len, cnt_len (by rw [nats_len, h1]) (by rw [nats_len, h2])]
    rw [e1, e2]
    unfold Ans
    rw [el]
    rw [h1] at hs ⊢
    rw [h2] at hv ⊢
    have := counter_ref As Av cs cv sa iv n.toNat w B hs hv hB (by omega) (by omega)
    rw [Int.toNat_of_nonneg (by omega)] at this
    exact this
theorem stream_u (hk : Holds w B Ak kn ck ky) (hs : Holds w B As sn cs sa) (hv : Holds w B Av vn cv iv) (hB : B ≤ w.heap.size) (hkn : kn ≤ 140737488355328) :
    Calls Tryz.prog 51 #[.slice Ak kn ck, .slice As sn cs, .slice Av vn cv, .int .i64 n] w (Ans w (sOut ky sa iv n) (sErr ky sa iv n)) := by
  obtain rfl := hk.1
  obtain rfl := hs.1
  obtain rfl := hv.1
  by_cases q : sErr ky sa iv n = 0
  · obtain ⟨h1, h2, h3, h4, h5⟩ := ok_good q
    have e1 : sOut ky sa iv n = ints (strm (keys (nats ky)) (nats sa) (nats iv) n.toNat) := by simp [sOut, q]
    have el : (ints (strm (keys (nats ky)) (nats sa) (nats iv) n.toNat)).length = n.toNat := by rw [Ctr1.ints_len, strm_len]
    have KB := keys_byt (nats_byt hk.2.2.2.1)
    have SB := nats_byt hs.2.2.2.1
    have VB := nats_byt hv.2.2.2.1
    rw [e1, q]
    unfold Ans
    rw [el]
    rw [h2] at hs ⊢
    rw [h3] at hv ⊢
    have := stream_ok Ak _ ck ky As cs sa Av cv iv n.toNat w B hk hs hv hB h1 (by omega)
    rw [Int.toNat_of_nonneg h4] at this
    refine this.mono ?_
    rintro e w' ⟨g, he, _, hrow, hb⟩
    have := BRow.holds hrow (strm_byt KB SB VB _) (by rw [strm_len]; omega)
    rw [strm_len] at this
    exact ⟨_, _, he, this, hb⟩
  · have e1 : sOut ky sa iv n = [] := by simp [sOut, q]
    rw [e1]
    refine (stream_bad Ak _ ck ky As _ cs sa Av _ cv iv n w B hk hs hv hB hkn q).mono ?_
    rintro e w' ⟨h, hb⟩
    exact Ans.nil h hb
theorem stream_ru (hk : Holds w B Ak kn ck ky) (hs : Holds w B As sn cs sa) (hv : Holds w B Av vn cv iv) (hB : B ≤ w.heap.size) (hkn : kn ≤ 140737488355328) :
    Calls Tryz.prog 46 #[.slice Ak kn ck, .slice As sn cs, .slice Av vn cv, .int .i64 n] w (Ans w (sOut ky sa iv n) (sErr ky sa iv n)) := by
  obtain rfl := hk.1
  obtain rfl := hs.1
  obtain rfl := hv.1
  by_cases q : sErr ky sa iv n = 0
  · obtain ⟨h1, h2, h3, h4, h5⟩ := ok_good q
    have e1 : sOut ky sa iv n = ints (strm (keys (nats ky)) (nats sa) (nats iv) n.toNat) := by simp [sOut, q]
    have el : (ints (strm (keys (nats ky)) (nats sa) (nats iv) n.toNat)).length = n.toNat := by rw [Ctr1.ints_len, strm_len]
    rw [e1, q]
    unfold Ans
    rw [el]
    rw [h2] at hs ⊢
    rw [h3] at hv ⊢
    have := stream_ref Ak _ ck ky As cs sa Av cv iv n.toNat w B hk hs hv hB h1 (by omega)
    rw [Int.toNat_of_nonneg h4] at this
    exact this
  · have e1 : sOut ky sa iv n = [] := by simp [sOut, q]
    rw [e1]
    refine (stream_ref_bad Ak _ ck As _ cs Av _ cv n w hkn q).mono ?_
    rintro e w' ⟨h, rfl⟩
    exact Ans.nil h (Below.refl _ _)
theorem turn_u (hk : Holds w B Ak kn ck ky) (hs : Holds w B As sn cs sa) (hv : Holds w B Av vn cv iv) (hl : Holds w B Ab bn cb l) (hB : B ≤ w.heap.size) (hkn : kn ≤ 140737488355328) :
    Calls Tryz.prog 43 #[.slice Ak kn ck, .slice As sn cs, .slice Av vn cv, .slice Ab bn cb] w (Ans w (tOut ky sa iv l) (sErr ky sa iv (l.length : Int))) := by
  obtain rfl := hk.1
  obtain rfl := hs.1
  obtain rfl := hv.1
  obtain rfl := hl.1
  by_cases q : sErr ky sa iv (l.length : Int) = 0
  · obtain ⟨h1, h2, h3, h4, h5⟩ := ok_good q
    have e1 : tOut ky sa iv l = ints (trn (keys (nats ky)) (nats sa) (nats iv) (nats l)) := by simp [tOut, q]
    have el : (ints (trn (keys (nats ky)) (nats sa) (nats iv) (nats l))).length = l.length := by rw [Ctr1.ints_len, trn_len, nats_len]
    have KB := keys_byt (nats_byt hk.2.2.2.1)
    have SB := nats_byt hs.2.2.2.1
    have VB := nats_byt hv.2.2.2.1
    have LB := nats_byt hl.2.2.2.1
    rw [e1, q]
    unfold Ans
    rw [el]
    rw [h2] at hs ⊢
    rw [h3] at hv ⊢
    refine (turn_ok Ak _ ck ky As cs sa Av cv iv Ab _ cb l w B hk hs hv hl hB h1 (by omega)).mono ?_
    rintro e w' ⟨g, he, _, hrow, hb⟩
    have := BRow.holds hrow (trn_byt KB SB VB LB) (by rw [trn_len, nats_len]; omega)
    rw [trn_len, nats_len] at this
    exact ⟨_, _, he, this, hb⟩
  · have e1 : tOut ky sa iv l = [] := by simp [tOut, q]
    rw [e1]
    refine (turn_bad Ak _ ck ky As _ cs sa Av _ cv iv Ab _ cb w B hk hs hv hB hkn q).mono ?_
    rintro e w' ⟨h, hb⟩
    exact Ans.nil h hb
theorem turn_ru (hk : Holds w B Ak kn ck ky) (hs : Holds w B As sn cs sa) (hv : Holds w B Av vn cv iv) (hl : Holds w B Ab bn cb l) (hB : B ≤ w.heap.size) (hkn : kn ≤ 140737488355328) :
    Calls Tryz.prog 29 #[.slice Ak kn ck, .slice As sn cs, .slice Av vn cv, .slice Ab bn cb] w (Ans w (tOut ky sa iv l) (sErr ky sa iv (l.length : Int))) := by
  obtain rfl := hk.1
  obtain rfl := hs.1
  obtain rfl := hv.1
  obtain rfl := hl.1
  by_cases q : sErr ky sa iv (l.length : Int) = 0
  · obtain ⟨h1, h2, h3, h4, h5⟩ := ok_good q
    have e1 : tOut ky sa iv l = ints (trn (keys (nats ky)) (nats sa) (nats iv) (nats l)) := by simp [tOut, q]
    have el : (ints (trn (keys (nats ky)) (nats sa) (nats iv) (nats l))).length = l.length := by rw [Ctr1.ints_len, trn_len, nats_len]
    have KB := keys_byt (nats_byt hk.2.2.2.1)
    have SB := nats_byt hs.2.2.2.1
    have VB := nats_byt hv.2.2.2.1
    have LB := nats_byt hl.2.2.2.1
    rw [e1, q]
    unfold Ans
    rw [el]
    rw [h2] at hs ⊢
    rw [h3] at hv ⊢
    refine (turn_ref Ak _ ck ky As cs sa Av cv iv Ab _ cb l w B hk hs hv hl hB h1 (by omega)).mono ?_
    rintro e w' ⟨g, he, _, hrow, hb⟩
    have := BRow.holds hrow (trn_byt KB SB VB LB) (by rw [trn_len, nats_len]; omega)
    rw [trn_len, nats_len] at this
    exact ⟨_, _, he, this, hb⟩
  · have e1 : tOut ky sa iv l = [] := by simp [tOut, q]
    rw [e1]
    refine (turn_ref_bad Ak _ ck As _ cs Av _ cv Ab _ cb w hkn q).mono ?_
    rintro e w' ⟨h, rfl⟩
    exact Ans.nil h (Below.refl _ _)
end
theorem both_one (A : Option Addr) (n c : Nat) (l : List Int) (w : World) (B : Nat) (h : Holds w B A n c l) (hB : B ≤ w.heap.size) (hn : n ≤ 1048576) (g : Nat) (hg : w.heap.size = g) (cs : Array Value) (hc : cs = #[.slice A n c]) (t : TypeId) :
    Calls Tryz.prog 7 #[.slice (some ⟨g, 0, none⟩) 1 1] (w.alloc (.cells cs t)) fun e w' => ∃ A' c', e = .returned (.slice A' n c') ∧ Holds w' w'.heap.size A' n c' l ∧ Below w.heap.size w w' := by
  subst hc
  refine (Both.both_lit hB [⟨A, n, c, l⟩] _ t rfl (Both.mem1 h) g 1 hg rfl (by decide) (by show n + 0 ≤ 1048576; omega)).mono ?_
  rintro e w' ⟨A', c', he, hh, _, hb⟩
  have e1 : Both.total [(⟨A, n, c, l⟩ : Both.Row)] = n := rfl
  have e2 : Both.flat [(⟨A, n, c, l⟩ : Both.Row)] = l := by show l ++ [] = l; simp
  rw [e1] at he hh
  rw [e2] at hh
  exact ⟨A', c', he, hh, hb⟩
end Go.Proofs.YtdnkbefpbehllaaGreatDoor.CtrU

