/- The contracts of the document's Stream and Turn, where they refuse; Stream, where it answers. -/
import Derived.Test.YthjbcdjphokjbaaCtr1
import Derived.Test.YthjbcdjphokjbaaAesBy
import Derived.Test.YthjbcdjphokjbaaAesKy
import Derived.Test.YthjbcdjphokjbaaCutA
import Derived.LoopTactic
set_option linter.unusedVariables false
namespace Go.Proofs.Ythjbcdjphokjbaa.CtrR
open Go.RowKit Go.PlainAid Go.Proofs.Ythjbcdjphokjbaa.Sums Go.Proofs.Ythjbcdjphokjbaa.Mem Go.Proofs.Ythjbcdjphokjbaa.Blk Go.Proofs.Ythjbcdjphokjbaa.Bits3 Go.Proofs.Ythjbcdjphokjbaa.Ints Go.Proofs.Ythjbcdjphokjbaa.CutA Go.Proofs.Ythjbcdjphokjbaa.AesF Go.Proofs.Ythjbcdjphokjbaa.CtrD Go.Proofs.Ythjbcdjphokjbaa.AesB Go.Proofs.Ythjbcdjphokjbaa.AesK Go.Proofs.Ythjbcdjphokjbaa.AesR2 Go.Proofs.Ythjbcdjphokjbaa.AesR3 Go.Proofs.Ythjbcdjphokjbaa.AesKy Go.Proofs.Ythjbcdjphokjbaa.AesBy Go.Proofs.Ythjbcdjphokjbaa.Ctr1

theorem keys_ref (A : Option Addr) (n c : Nat) (ky : List Int) (w : World) (B : Nat) (h : Holds w B A n c ky) (hB : B ≤ w.heap.size) (hn : n = 16 ∨ n = 32) :
    Calls Try.prog 22 #[.slice A n c] w fun e w' => ∃ A' c' N, e = .returned (.slice A' (16 * (N + 1)) c') ∧ 1 ≤ N ∧ N ≤ 20 ∧ Holds w' w'.heap.size A' (16 * (N + 1)) c' (ints (keys (nats ky))) ∧ Below w.heap.size w w' := by
  rcases hn with rfl | rfl
  · refine (keys_4 A c ky w B h hB).mono ?_
    rintro e w' ⟨v, he, ho, hb⟩
    obtain ⟨A', c', rfl, hh⟩ := ho.slice
    exact ⟨A', c', 10, he, by decide, by decide, hh, hb⟩
  · refine (keys_8 A c ky w B h hB).mono ?_
    rintro e w' ⟨v, he, ho, hb⟩
    obtain ⟨A', c', rfl, hh⟩ := ho.slice
    exact ⟨A', c', 14, he, by decide, by decide, hh, hb⟩

set_option maxHeartbeats 1000000 in
theorem stream_ref_bad (Ak : Option Addr) (kn ck : Nat) (As : Option Addr) (sn cs : Nat) (Av : Option Addr) (vn cv : Nat) (n : Int) (w : World) (hkn : kn ≤ 140737488355328) (he : errS kn sn vn n ≠ 0) :
    Calls Try.prog 12 #[.slice Ak kn ck, .slice As sn cs, .slice Av vn cv, .int .i64 n] w fun e w' => e = .returned (.tuple #[.slice none 0 0, .int .i64 (errS kn sn vn n)]) ∧ w = w' := by
  have C := Lib.hid (may_ref Ak kn ck w hkn)
  by_cases h : kn = 16 ∨ kn = 32
  · have MB : mayB kn = true := by rcases h with rfl | rfl <;> rfl
    rw [MB] at C
    by_cases h1 : sn = 4
    · subst h1
      by_cases h2 : vn = 8
      · subst h2
        by_cases h3 : n < 0
        · have E : Hid (errS kn 4 8 n = 1) := Lib.hid (by unfold errS; rw [if_neg (by omega)])
          have g3 : decide (n < 0) = true := decide_eq_true h3
          rw [E.out]
          clear h h3 he MB
          go_enter Try.func12, Try.ntmps12
          go_wp2_with fail
          refine C.out.mono ?_
          rintro e w' ⟨rfl, rfl⟩
          go_wp2_with fail
          go_ret2
          exact ⟨rfl, rfl⟩
        · have h4 : 65536 < n := by
            unfold errS at he
            rw [if_pos ⟨h, rfl, rfl, by omega⟩] at he
            by_cases q : n ≤ 65536
            · rw [if_pos q] at he; exact absurd rfl he
            · omega
          have E : Hid (errS kn 4 8 n = 2) := Lib.hid (by unfold errS; rw [if_pos ⟨h, rfl, rfl, by omega⟩, if_neg (by omega)])
          have g3 : decide (n < 0) = false := decide_eq_false h3
          have g4 : decide (65536 < n) = true := decide_eq_true h4
          rw [E.out]
          clear h h3 h4 he MB
          go_enter Try.func12, Try.ntmps12
          go_wp2_with fail
          refine C.out.mono ?_
          rintro e w' ⟨rfl, rfl⟩
          go_wp2_with fail
          go_ret2
          exact ⟨rfl, rfl⟩
      · have E : Hid (errS kn 4 vn n = 1) := Lib.hid (by unfold errS; rw [if_neg (by omega)])
        have g2 : ((vn : Int) != 8) = true := by simp; omega
        rw [E.out]
        clear h h2 he MB
        go_enter Try.func12, Try.ntmps12
        go_wp2_with fail
        refine C.out.mono ?_
        rintro e w' ⟨rfl, rfl⟩
        go_wp2_with fail
        go_ret2
        exact ⟨rfl, rfl⟩
    · have E : Hid (errS kn sn vn n = 1) := Lib.hid (by unfold errS; rw [if_neg (by omega)])
      have g1 : ((sn : Int) != 4) = true := by simp; omega
      rw [E.out]
      clear h h1 he MB
      go_enter Try.func12, Try.ntmps12
      go_wp2_with fail
      refine C.out.mono ?_
      rintro e w' ⟨rfl, rfl⟩
      go_wp2_with fail
      go_ret2
      exact ⟨rfl, rfl⟩
  · have MB : mayB kn = false := by
      simp only [mayB, Bool.or_eq_false_iff, decide_eq_false_iff_not]; omega
    have E : Hid (errS kn sn vn n = 1) := Lib.hid (by unfold errS; rw [if_neg (by omega)])
    rw [MB] at C
    rw [E.out]
    clear h he MB
    go_enter Try.func12, Try.ntmps12
    go_wp2_with fail
    refine C.out.mono ?_
    rintro e w' ⟨rfl, rfl⟩
    go_wp2_with fail
    go_ret2
    exact ⟨rfl, rfl⟩

set_option maxHeartbeats 1000000 in
theorem turn_ref_bad (Ak : Option Addr) (kn ck : Nat) (As : Option Addr) (sn cs : Nat) (Av : Option Addr) (vn cv : Nat) (Ab : Option Addr) (n cb : Nat) (w : World) (hkn : kn ≤ 140737488355328) (he : errS kn sn vn (n : Int) ≠ 0) :
    Calls Try.prog 14 #[.slice Ak kn ck, .slice As sn cs, .slice Av vn cv, .slice Ab n cb] w fun e w' => e = .returned (.tuple #[.slice none 0 0, .int .i64 (errS kn sn vn (n : Int))]) ∧ w = w' := by
  have C := Lib.hid (stream_ref_bad Ak kn ck As sn cs Av vn cv (n : Int) w hkn he)
  have g1 : (errS kn sn vn (n : Int) != 0) = true := by simpa using he
  generalize errS kn sn vn (n : Int) = er at *
  clear he
  go_enter Try.func14, Try.ntmps14
  go_wp2_with fail
  refine C.out.mono ?_
  rintro e w1 ⟨rfl, rfl⟩
  go_wp2_with fail
  go_ret2
  exact ⟨rfl, rfl⟩

theorem cut_h (A : Option Addr) (n c h : Nat) (w : World) (h2 : h ≤ c) : (Instr.sliceAt 22 (.slice A n c) none (some (.int .i64 (h : Int))) none).run Try.prog w = .ok (.slice A h c) w := by
  have e := run_slice_h (P := Try.prog) (w := w) (t := 22) (a := A) (len := n) (cap := c) (ht := (by kernel_rfl)) .i64 (h : Int) (by omega) (by omega)
  rw [run_sliceAt_slice (P := Try.prog) (h := (by kernel_rfl)), e, byte_elem]
  have a0 : ∀ a : Addr, a.add 0 = a := fun a => by unfold Addr.add; simp
  simp [sliced, a0]

set_option maxHeartbeats 2000000 in
theorem stream_ref (Ak : Option Addr) (kn ck : Nat) (ky : List Int) (As : Option Addr) (cs : Nat) (sa : List Int) (Av : Option Addr) (cv : Nat) (iv : List Int) (n : Nat) (w : World) (B : Nat) (hk : Holds w B Ak kn ck ky) (hs : Holds w B As 4 cs sa) (hv : Holds w B Av 8 cv iv) (hB : B ≤ w.heap.size) (hkn : kn = 16 ∨ kn = 32) (hn : n ≤ 65536) :
    Calls Try.prog 12 #[.slice Ak kn ck, .slice As 4 cs, .slice Av 8 cv, .int .i64 (n : Int)] w fun e w' => ∃ A c, e = .returned (.tuple #[.slice A n c, .int .i64 0]) ∧ Holds w' w'.heap.size A n c (ints (strm (keys (nats ky)) (nats sa) (nats iv) n)) ∧ Below w.heap.size w w' := by
  have C := Lib.hid (may_ref Ak kn ck w (by omega))
  rw [show mayB kn = true by rcases hkn with rfl | rfl <;> rfl] at C
  have CK := Lib.hid (keys_ref Ak kn ck ky w B hk hB hkn)
  have KN : Hid (nats (ints (keys (nats ky))) = keys (nats ky)) := Lib.hid (nats_ints _)
  obtain ⟨KS, hKS⟩ : ∃ KS, KS = keys (nats ky) := ⟨_, rfl⟩
  have g3 : decide ((n : Int) < 0) = false := decide_eq_false (by omega)
  have g4 : decide ((65536 : Int) < (n : Int)) = false := decide_eq_false (by omega)
  have HS := Lib.hid hs
  have HV := Lib.hid hv
  rw [← hKS] at CK KN ⊢
  clear hk hs hv hKS hkn
  go_enter Try.func12, Try.ntmps12
  go_wp2_with fail
  refine C.out.mono ?_
  rintro e w' ⟨rfl, rfl⟩
  go_wp2_with fail
  refine CK.out.mono ?_
  rintro e w1 ⟨A1, c1, N, rfl, hN1, hN2, hh, hb⟩
  have N1 := Lib.hid hN1
  have N2 := Lib.hid hN2
  have HK := Lib.hid hh
  have B1 := Lib.hid hb
  clear hh hb C CK hN1 hN2
  obtain ⟨L, hL⟩ : ∃ L, L = 16 * (N + 1) := ⟨_, rfl⟩
  have LE := Lib.hid hL
  rw [← hL] at HK ⊢
  clear hL
  go_wp2_with fail
  refine (table_ref w1).mono ?_
  rintro e w2 ⟨rfl, hrow, hb⟩
  have T2 := Lib.hid hrow
  have B2 := Lib.hid (B1.out.trans (hb.mono B1.out.size))
  have K2 := Lib.hid (HK.out.below hb)
  have G2 : Hid (w1.heap.size < w2.heap.size ∧ w.heap.size ≤ w1.heap.size) := Lib.hid ⟨hrow.lt, B1.out.size⟩
  clear hrow hb B1 HK
  obtain ⟨gx, hgx⟩ : ∃ gx, gx = w1.heap.size := ⟨_, rfl⟩
  rw [← hgx] at T2 K2 G2 ⊢
  clear hgx
  have B22 := Lib.hid (Below.refl w2.heap.size w2)
  go_wp2_with fail
  go_loopw [12, 13] (fun ov kv wr => ∃ (j : Nat) (v : Value), ov = v ∧ kv = .int .i64 ((j + 1 : Nat) : Int) ∧ 16 * j ≤ n + 15 ∧ Hid (Owns wr w2.heap.size v (16 * j) (ints (strm KS (nats sa) (nats iv) (16 * j)))) ∧ Hid (Below w2.heap.size w2 wr)) (fun _ kv _ => n + 17 - 16 * (intOf kv).toNat + 16)
  case atStart => exact ⟨0, _, rfl, rfl, by omega, Lib.hid (Owns.nil _ _), B22⟩
  case round =>
    obtain ⟨j, v, hv, rfl, hj, HO, HB⟩ := hrel
    replace hv := hv.symm
    subst hv
    obtain ⟨A2, c2, rfl, hh2⟩ := HO.out.slice
    have H2 := Lib.hid hh2
    clear hh2 B22
    by_cases hlt : 16 * j < n
    · have g5 : decide (((16 * j : Nat) : Int) < (n : Int)) = true := decide_eq_true (by omega)
      have hBr : B ≤ wr.heap.size := by have := HB.out.size; have := B2.out.size; omega
      have BW := Lib.hid (B2.out.trans (HB.out.mono B2.out.size))
      have C := Lib.hid (counter_ref As Av cs cv sa iv (j + 1) wr B (HS.out.below (BW.out.mono hB)) (HV.out.below (BW.out.mono hB)) hBr (by omega) (by omega))
      have e9 : 16 * j + 16 = 16 * (j + 1) := by omega
      have hs16 : 16 * j + 16 ≤ 1048576 := by omega
      clear g3 g4 hBr
      generalize hq : 16 * j = q at *
      have Q := Lib.hid hq
      clear hq
      go_wp2_with fail
      refine C.out.mono ?_
      rintro e w3 ⟨A3, c3, rfl, hh, hb3⟩
      have H3 := Lib.hid hh
      have B3 := Lib.hid hb3
      have BW3 := Lib.hid (HB.out.trans (hb3.mono HB.out.size))
      clear hh hb3 C
      go_wp2_with fail
      refine (by_ref gx A1 L c1 (ints KS) A3 c3 _ w3 w3.heap.size (T2.out.below BW3.out G2.out.1) ((K2.out.below (BW3.out.mono (by have := G2.out.1; omega))).more (by have := BW3.out.size; have := G2.out.1; omega)) H3.out (Nat.le_refl _) N LE.out N1.out N2.out).mono ?_
      rintro e w4 ⟨v4, rfl, ho4, hb4⟩
      rw [nats_ints, nats_ints] at ho4
      obtain ⟨A4, c4, rfl, hh4⟩ := ho4.slice
      have H4 := Lib.hid hh4
      have B4 := Lib.hid (BW3.out.trans (hb4.mono BW3.out.size))
      have O4 := Lib.hid ((HO.out.below B3.out (Nat.le_refl _)).below hb4 (Nat.le_refl _))
      clear ho4 hh4 hb4
      go_wp2_with (at_builtin
                   refine wpList_append_bytes rfl (.tmp 56) (.tmp 57) rfl w2.heap.size _ q _ rfl O4.out w4.heap.size A4 16 c4 _ rfl H4.out hs16 B4.out.size ?_
                   intro v5 w5 ho5 hg5 _)
      rw [← Go.Proofs.Ythjbcdjphokjbaa.Ctr1.ints_app, ← Q.out, strm_more] at ho5
      rw [show 16 * j + 16 = 16 * (j + 1) by omega] at ho5
      have O5 := Lib.hid ho5
      have B5 := Lib.hid (B4.out.grown hg5 B4.out.size fun k hk => (O4.out.lt k hk).1)
      clear ho5 hg5
      have e7 : IntKind.i64.wrap (((j + 1 : Nat) : Int) + 1) = ((j + 1 + 1 : Nat) : Int) := by rw [IntWalk.i64_in _ (by have := Q.out; omega)]; omega
      go_wp2_with fail
      go_roundw
      case rel => exact ⟨j + 1, v5, rfl, by go_num, by have := Q.out; omega, O5, B5⟩
      case measure => have := Q.out; simp [intOf]; omega
    · have g5 : decide (((16 * j : Nat) : Int) < (n : Int)) = false := decide_eq_false (by omega)
      have hc2 := H2.out.2.1
      have sl := cut_h A2 (16 * j) c2 n wr (by omega)
      have HF : Hid (Holds wr wr.heap.size A2 n c2 (ints (strm KS (nats sa) (nats iv) n))) := Lib.hid (by
        have := H2.out.upto (k := n) (by omega)
        have e : (ints (strm KS (nats sa) (nats iv) (16 * j))).take n = ints (strm KS (nats sa) (nats iv) n) := by
          rw [← strm_take KS (nats sa) (nats iv) (show n ≤ 16 * j by omega)]; simp [ints, List.map_take]
        rwa [e] at this)
      have BF := Lib.hid (B2.out.trans (HB.out.mono B2.out.size))
      clear H2 HO HB
      generalize hq : 16 * j = q at *
      clear hq
      go_wp2_with fail
      go_ret2
      exact ⟨A2, c2, rfl, HF.out, BF.out⟩
end Go.Proofs.Ythjbcdjphokjbaa.CtrR
