/- The contract of the code's Turn. -/
import Derived.Test.YthjbcdjphokjbaaCtr4
import Derived.LoopTactic
set_option linter.unusedVariables false
namespace Go.Proofs.Ythjbcdjphokjbaa.Ctr5
open Go.RowKit Go.PlainAid Go.Proofs.Ythjbcdjphokjbaa.Sums Go.Proofs.Ythjbcdjphokjbaa.Mem Go.Proofs.Ythjbcdjphokjbaa.Blk Go.Proofs.Ythjbcdjphokjbaa.Bits3 Go.Proofs.Ythjbcdjphokjbaa.Ints Go.Proofs.Ythjbcdjphokjbaa.CutA Go.Proofs.Ythjbcdjphokjbaa.AesF Go.Proofs.Ythjbcdjphokjbaa.CtrD Go.Proofs.Ythjbcdjphokjbaa.AesB Go.Proofs.Ythjbcdjphokjbaa.AesK Go.Proofs.Ythjbcdjphokjbaa.AesR3 Go.Proofs.Ythjbcdjphokjbaa.Aes2 Go.Proofs.Ythjbcdjphokjbaa.Aes9 Go.Proofs.Ythjbcdjphokjbaa.Ctr1 Go.Proofs.Ythjbcdjphokjbaa.Ctr2 Go.Proofs.Ythjbcdjphokjbaa.Ctr3 Go.Proofs.Ythjbcdjphokjbaa.Ctr4

/-- The first j are f's, the others g's. -/
def mixd (f g : Nat → Nat) (n j : Nat) : List Nat := (List.range n).map fun i => if i < j then f i else g i
theorem mixd_len (f g : Nat → Nat) (n j : Nat) : (mixd f g n j).length = n := by simp [mixd]
theorem mixd_zero (f g : Nat → Nat) (n : Nat) : mixd f g n 0 = (List.range n).map g := by simp [mixd]
theorem mixd_full (f g : Nat → Nat) (n : Nat) : mixd f g n n = (List.range n).map f := by
  unfold mixd
  refine List.map_congr_left fun i hi => ?_
  rw [if_pos (List.mem_range.1 hi)]
theorem mixd_get (f g : Nat → Nat) {n j : Nat} (h : j < n) : (mixd f g n j).getD j 0 = g j := by
  unfold mixd
  rw [range_get _ h, if_neg (by omega)]
theorem mixd_set (f g : Nat → Nat) (n j : Nat) : (mixd f g n j).set j (f j) = mixd f g n (j + 1) := by
  apply List.ext_getElem
  · simp [mixd]
  · intro i h1 h2
    simp only [mixd, List.length_set, List.length_map, List.length_range] at h1
    simp only [mixd, List.getElem_set, List.getElem_map, List.getElem_range]
    by_cases e : j = i
    · subst e; simp
    · rw [if_neg e]
      by_cases l : i < j
      · rw [if_pos l, if_pos (by omega)]
      · rw [if_neg l, if_neg (by omega)]

set_option maxHeartbeats 1000000 in
theorem turn_bad (Ak : Option Addr) (kn ck : Nat) (ky : List Int) (As : Option Addr) (sn cs : Nat) (sa : List Int) (Av : Option Addr) (vn cv : Nat) (iv : List Int) (Ab : Option Addr) (n cb : Nat) (w : World) (B : Nat) (hk : Holds w B Ak kn ck ky) (hs : Holds w B As sn cs sa) (hv : Holds w B Av vn cv iv) (hB : B ≤ w.heap.size) (hkn : kn ≤ 140737488355328) (he : errS kn sn vn (n : Int) ≠ 0) :
    Calls Try.prog 13 #[.slice Ak kn ck, .slice As sn cs, .slice Av vn cv, .slice Ab n cb] w fun e w' => e = .returned (.tuple #[.slice none 0 0, .int .i64 (errS kn sn vn (n : Int))]) ∧ Below w.heap.size w w' := by
  have C := Lib.hid (stream_bad Ak kn ck ky As sn cs sa Av vn cv iv (n : Int) w B hk hs hv hB hkn he)
  have g1 : (errS kn sn vn (n : Int) != 0) = true := by simpa using he
  generalize errS kn sn vn (n : Int) = er at *
  clear hk hs hv he
  go_enter Try.func13, Try.ntmps13
  go_wp2_with fail
  refine C.out.mono ?_
  rintro e w1 ⟨rfl, hb⟩
  have HB := Lib.hid hb
  clear hb
  go_wp2_with fail
  go_ret2
  exact ⟨rfl, HB.out⟩

set_option maxHeartbeats 1000000 in
theorem turn_ok (Ak : Option Addr) (kn ck : Nat) (ky : List Int) (As : Option Addr) (cs : Nat) (sa : List Int) (Av : Option Addr) (cv : Nat) (iv : List Int) (Ab : Option Addr) (n cb : Nat) (l : List Int) (w : World) (B : Nat) (hk : Holds w B Ak kn ck ky) (hs : Holds w B As 4 cs sa) (hv : Holds w B Av 8 cv iv) (hb : Holds w B Ab n cb l) (hB : B ≤ w.heap.size) (hkn : kn = 16 ∨ kn = 32) (hn : n ≤ 65536) :
    Calls Try.prog 13 #[.slice Ak kn ck, .slice As 4 cs, .slice Av 8 cv, .slice Ab n cb] w fun e w' => ∃ g, e = .returned (.tuple #[.slice (some ⟨g, 0, none⟩) n n, .int .i64 0]) ∧ w.heap.size ≤ g ∧ BRow w' g (trn (keys (nats ky)) (nats sa) (nats iv) (nats l)) ∧ Below w.heap.size w w' := by
  have C := Lib.hid (stream_ok Ak kn ck ky As cs sa Av cv iv n w B hk hs hv hB hkn hn)
  obtain ⟨kf, hkf⟩ : ∃ kf, kf = kb (keys (nats ky)) (nats sa) (nats iv) := ⟨_, rfl⟩
  obtain ⟨f, hf⟩ : ∃ f : Nat → Nat, f = fun j => (nats l).getD j 0 ^^^ kf j := ⟨_, rfl⟩
  have FK : Hid (∀ j, kf j < 256) := Lib.hid fun j => by rw [hkf]; exact kb_lt (keys_byt (nats_byt hk.2.2.2.1)) (nats_byt hs.2.2.2.1) (nats_byt hv.2.2.2.1) j
  have HL := Lib.hid hb
  have E1 : Hid (strm (keys (nats ky)) (nats sa) (nats iv) n = mixd f kf n 0) := Lib.hid (by rw [mixd_zero, hkf]; rfl)
  have E2 : Hid (mixd f kf n n = trn (keys (nats ky)) (nats sa) (nats iv) (nats l)) := Lib.hid (by
    rw [mixd_full, hf, hkf, trn, nats_len, hb.1])
  have FX : Hid (∀ j, f j = kf j ^^^ (nats l).getD j 0) := Lib.hid fun j => by rw [hf, Nat.xor_comm]
  rw [E1.out] at C
  obtain ⟨R, hR⟩ : ∃ R, R = trn (keys (nats ky)) (nats sa) (nats iv) (nats l) := ⟨_, rfl⟩
  rw [← hR] at E2 ⊢
  clear hk hs hv hb E1 hkf hf hR
  go_enter Try.func13, Try.ntmps13
  go_wp2_with fail
  refine C.out.mono ?_
  rintro e w1 ⟨g, rfl, hg, hrow, hb1⟩
  have G1 := Lib.hid hg
  have R1 := Lib.hid hrow
  have B1 := Lib.hid hb1
  clear hg hrow hb1 C
  go_wp2_with fail
  go_loopw [28] (fun kv wr => ∃ j : Nat, kv = .int .i64 (j : Int) ∧ j ≤ n ∧ Hid (BRow wr g (mixd f kf n j)) ∧ Hid (Below w.heap.size w wr)) (fun kv _ => n - (intOf kv).toNat)
  case atStart => exact ⟨0, rfl, by omega, R1, B1⟩
  case round =>
    obtain ⟨j, rfl, hj, HR, HB⟩ := hrel
    clear R1 B1
    by_cases hlt : j < n
    · have h2 := HL.out.below (HB.out.mono hB)
      obtain ⟨q, p, hq, _⟩ := h2.2.2.2.2 (by omega)
      subst hq
      have c0 := cell_getD h2 j hlt
      rw [nats_getD h2.2.2.2.1 j] at c0
      have bx := (nats_byt h2.2.2.2.1).get j
      have c1 := HR.out.cell j (by rw [mixd_len]; exact hlt)
      rw [mixd_get _ _ hlt] at c1
      have f1 := HR.out.free j
      have e1 : bits .xor .u8 ((kf j : Nat) : Int) (((nats l).getD j 0 : Nat) : Int) = ((f j : Nat) : Int) := by rw [FX.out]; exact Bits3.u8_xor (FK.out j) bx
      have R2 : Hid (BRow (wr.setCell ⟨g, j, none⟩ (.int .u8 ((f j : Nat) : Int))) g (mixd f kf n (j + 1))) := Lib.hid (by have := HR.out.put j (f j); rwa [mixd_set] at this)
      have B2 := Lib.hid (HB.out.setCell (p := ⟨g, j, none⟩) G1.out (.int .u8 ((f j : Nat) : Int)))
      generalize (nats l).getD j 0 = x at *
      generalize kf j = y at *
      generalize f j = z at *
      clear HR HB h2 bx FX FK HL
      go_wp2_with fail
      go_roundw
      case rel => exact ⟨j + 1, by go_num, by omega, R2, B2⟩
      case measure => simp [intOf]; omega
    · obtain rfl : j = n := by omega
      have R3 : Hid (BRow wr g R) := Lib.hid (by rw [← E2.out]; exact HR.out)
      clear HR hlt
      go_wp2_with fail
      go_ret2
      exact ⟨g, rfl, G1.out, R3.out, HB.out⟩
end Go.Proofs.Ythjbcdjphokjbaa.Ctr5
