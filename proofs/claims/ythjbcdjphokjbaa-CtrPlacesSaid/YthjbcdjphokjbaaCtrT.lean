/- The contract of the document's Turn, where it answers. -/
import Derived.Test.YthjbcdjphokjbaaCtrR
set_option linter.unusedVariables false
namespace Go.Proofs.Ythjbcdjphokjbaa.CtrT
open Go.RowKit Go.PlainAid Go.Proofs.Ythjbcdjphokjbaa.Sums Go.Proofs.Ythjbcdjphokjbaa.Mem Go.Proofs.Ythjbcdjphokjbaa.Blk Go.Proofs.Ythjbcdjphokjbaa.Bits3 Go.Proofs.Ythjbcdjphokjbaa.Ints Go.Proofs.Ythjbcdjphokjbaa.CutA Go.Proofs.Ythjbcdjphokjbaa.AesF Go.Proofs.Ythjbcdjphokjbaa.CtrD Go.Proofs.Ythjbcdjphokjbaa.AesB Go.Proofs.Ythjbcdjphokjbaa.AesK Go.Proofs.Ythjbcdjphokjbaa.AesR2 Go.Proofs.Ythjbcdjphokjbaa.AesR3 Go.Proofs.Ythjbcdjphokjbaa.Ctr1 Go.Proofs.Ythjbcdjphokjbaa.CtrR

set_option maxHeartbeats 2000000 in
set_option maxRecDepth 100000 in
theorem turn_ref (Ak : Option Addr) (kn ck : Nat) (ky : List Int) (As : Option Addr) (cs : Nat) (sa : List Int) (Av : Option Addr) (cv : Nat) (iv : List Int) (Ab : Option Addr) (n cb : Nat) (l : List Int) (w : World) (B : Nat) (hk : Holds w B Ak kn ck ky) (hs : Holds w B As 4 cs sa) (hv : Holds w B Av 8 cv iv) (hb : Holds w B Ab n cb l) (hB : B ≤ w.heap.size) (hkn : kn = 16 ∨ kn = 32) (hn : n ≤ 65536) :
    Calls Try.prog 14 #[.slice Ak kn ck, .slice As 4 cs, .slice Av 8 cv, .slice Ab n cb] w fun e w' => ∃ g, e = .returned (.tuple #[.slice (some ⟨g, 0, none⟩) n n, .int .i64 0]) ∧ w.heap.size ≤ g ∧ BRow w' g (trn (keys (nats ky)) (nats sa) (nats iv) (nats l)) ∧ Below w.heap.size w w' := by
  have C := Lib.hid (stream_ref Ak kn ck ky As cs sa Av cv iv n w B hk hs hv hB hkn hn)
  obtain ⟨kf, hkf⟩ : ∃ kf, kf = kb (keys (nats ky)) (nats sa) (nats iv) := ⟨_, rfl⟩
  obtain ⟨f, hf⟩ : ∃ f : Nat → Nat, f = fun j => (nats l).getD j 0 ^^^ kf j := ⟨_, rfl⟩
  have FK : Hid (∀ j, kf j < 256) := Lib.hid fun j => by rw [hkf]; exact kb_lt (keys_byt (nats_byt hk.2.2.2.1)) (nats_byt hs.2.2.2.1) (nats_byt hv.2.2.2.1) j
  have HL := Lib.hid hb
  have E2 : Hid (fil f n n = trn (keys (nats ky)) (nats sa) (nats iv) (nats l)) := Lib.hid (by
    rw [fil_full, hf, hkf, trn, nats_len, hb.1])
  have ES : Hid (∀ j, j < n → (strm (keys (nats ky)) (nats sa) (nats iv) n).getD j 0 = kf j) := Lib.hid fun j hj => by rw [hkf]; exact strm_get _ _ _ hj
  have FX : Hid (∀ j, f j = (nats l).getD j 0 ^^^ kf j) := Lib.hid fun j => by rw [hf]
  obtain ⟨SS, hSS⟩ : ∃ SS, SS = strm (keys (nats ky)) (nats sa) (nats iv) n := ⟨_, rfl⟩
  rw [← hSS] at C ES
  obtain ⟨R, hR⟩ : ∃ R, R = trn (keys (nats ky)) (nats sa) (nats iv) (nats l) := ⟨_, rfl⟩
  rw [← hR] at E2 ⊢
  clear hk hs hv hb hkf hf hR hSS
  go_enter Try.func14, Try.ntmps14
  go_wp2_with fail
  refine C.out.mono ?_
  rintro e w1 ⟨A1, c1, rfl, hh, hb1⟩
  have H1 := Lib.hid hh
  have B1 := Lib.hid hb1
  clear hh hb1 C
  have hmk : (Instr.makeSlice 22 (.int .i64 (n : Int)) (.int .i64 (n : Int))).run Try.prog w1 = .ok (.slice (some ⟨w1.heap.size, 0, none⟩) n n) (w1.alloc (.cells (bcells (List.replicate n 0)) 5)) := make_b n (by omega) w1
  obtain ⟨Z, hZ⟩ : ∃ Z, Z = List.replicate n 0 := ⟨_, rfl⟩
  have HZ : Hid (fil f n 0 = Z) := Lib.hid (by rw [fil_zero, hZ])
  rw [← hZ] at hmk
  have R0 : Hid (BRow (w1.alloc (.cells (bcells Z) 5)) w1.heap.size (fil f n 0)) := Lib.hid (by rw [HZ.out]; exact BRow.new w1 _)
  have B0 := Lib.hid (B1.out.alloc B1.out.size (.cells (bcells Z) 5))
  have S0 := Lib.hid (H1.out.below ((Below.refl w1.heap.size w1).alloc (Nat.le_refl _) (.cells (bcells Z) 5)))
  have G1 := Lib.hid B1.out.size
  clear hZ B1 H1
  go_wp2_with fail
  clear hmk
  obtain ⟨g, hg⟩ : ∃ g, g = w1.heap.size := ⟨_, rfl⟩
  rw [← hg] at R0 S0 G1 ⊢
  clear hg
  generalize w1.alloc (.cells (bcells Z) 5) = w2 at *
  go_loopw [13] (fun kv wr => ∃ j : Nat, kv = .int .i64 (j : Int) ∧ j ≤ n ∧ Hid (BRow wr g (fil f n j)) ∧ Hid (Below w.heap.size w wr) ∧ Hid (Holds wr g A1 n c1 (ints SS))) (fun kv _ => n - (intOf kv).toNat)
  case atStart => exact ⟨0, rfl, by omega, R0, B0, S0⟩
  case round =>
    obtain ⟨j, rfl, hj, HR, HB, HS⟩ := hrel
    clear R0 B0 S0
    by_cases hlt : j < n
    · have h2 := HL.out.below (HB.out.mono hB)
      obtain ⟨q, p, hq, _⟩ := h2.2.2.2.2 (by omega)
      obtain ⟨q2, p2, hq2, _⟩ := HS.out.2.2.2.2 (by omega)
      subst hq hq2
      have x0 := cell_getD h2 j hlt
      rw [nats_getD h2.2.2.2.1 j] at x0
      have bx := (nats_byt h2.2.2.2.1).get j
      have y0 := cell_getD HS.out j hlt
      rw [ints_getD, ES.out j hlt] at y0
      have c0 := HR.out.cell j (by rw [fil_len]; exact hlt)
      have f0 := HR.out.free j
      have e1 : bits .xor .u8 (((nats l).getD j 0 : Nat) : Int) ((kf j : Nat) : Int) = ((f j : Nat) : Int) := by rw [FX.out]; exact Bits3.u8_xor bx (FK.out j)
      have R2 : Hid (BRow (wr.setCell ⟨g, j, none⟩ (.int .u8 ((f j : Nat) : Int))) g (fil f n (j + 1))) := Lib.hid (by have := HR.out.put j (f j); rwa [fil_set] at this)
      have B2 := Lib.hid (HB.out.setCell (p := ⟨g, j, none⟩) G1.out (.int .u8 ((f j : Nat) : Int)))
      have S2 := Lib.hid (HS.out.below ((Below.refl g wr).setCell (p := ⟨g, j, none⟩) (Nat.le_refl _) (.int .u8 ((f j : Nat) : Int))))
      have KF := FK.out j
      generalize (fil f n j).getD j 0 = old at *
      generalize (nats l).getD j 0 = x at *
      generalize kf j = y at *
      generalize f j = z at *
      have bn := h2.2.2.1
      have bn2 := HS.out.2.2.1
      have bc := h2.2.1
      unfold maxLen at bn bn2
      clear HR HB h2 HS
      go_wp2_with fail
      go_region
      go_wp2_with fail
      go_roundw
      case rel => exact ⟨j + 1, by go_num, by omega, R2, Lib.hid (below_drewN B2.out 1), Lib.hid (S2.out)⟩
      case measure => simp [intOf]; omega
    · obtain rfl : j = n := by omega
      have R3 : Hid (BRow wr g R) := Lib.hid (by rw [← E2.out]; exact HR.out)
      clear HR hlt
      go_wp2_with fail
      go_ret2
      exact ⟨g, rfl, G1.out, R3.out, HB.out⟩
end Go.Proofs.Ythjbcdjphokjbaa.CtrT
