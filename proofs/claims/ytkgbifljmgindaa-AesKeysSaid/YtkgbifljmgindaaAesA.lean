/- The document's examples hold. -/
import Derived.Test.YtkgbifljmgindaaAes9
set_option linter.unusedVariables false
namespace Go.Proofs.Ytkgbifljmgindaa.AesA
open Go.RowKit Go.PlainAid Go.Proofs.Ytkgbifljmgindaa.Sums Go.Proofs.Ytkgbifljmgindaa.Mem Go.Proofs.Ytkgbifljmgindaa.Blk Go.Proofs.Ytkgbifljmgindaa.Bits3 Go.Proofs.Ytkgbifljmgindaa.Ints Go.Proofs.Ytkgbifljmgindaa.AesF Go.Proofs.Ytkgbifljmgindaa.AesB Go.Proofs.Ytkgbifljmgindaa.AesK Go.Proofs.Ytkgbifljmgindaa.AesR2 Go.Proofs.Ytkgbifljmgindaa.AesR3 Go.Proofs.Ytkgbifljmgindaa.Aes1 Go.Proofs.Ytkgbifljmgindaa.Aes2 Go.Proofs.Ytkgbifljmgindaa.Aes3 Go.Proofs.Ytkgbifljmgindaa.Aes6 Go.Proofs.Ytkgbifljmgindaa.Aes7 Go.Proofs.Ytkgbifljmgindaa.Aes8 Go.Proofs.Ytkgbifljmgindaa.Aes9

theorem nums_str {l : List Int} (h : Bytes l) : nums (strOfNums l) = l := by
  simp only [strOfNums, nums, List.map_map]
  refine (List.map_congr_left fun z hz => ?_).trans (List.map_id l)
  have := h z hz
  simp only [Function.comp, id]
  rw [UInt8.toNat_ofNat_of_lt' (by simp [UInt8.size]; omega)]
  omega
theorem str_inj {a b : List Int} (ha : Bytes a) (hb : Bytes b) (h : strOfNums a = strOfNums b) : a = b := by rw [← nums_str ha, ← nums_str hb, h]
def exT : List Nat := [105, 196, 224, 216, 106, 123, 4, 48, 216, 205, 183, 128, 112, 180, 197, 90]
theorem ex_byt : Byt exT := fun x hx => of_decide_eq_true (List.all_eq_true.1 (show exT.all (fun z => decide (z < 256)) = true by decide) x hx)
theorem ex_str : strOfNums (ints exT) = ⟨#[105, 196, 224, 216, 106, 123, 4, 48, 216, 205, 183, 128, 112, 180, 197, 90]⟩ := by kernel_rfl

set_option maxHeartbeats 2000000 in
set_option maxRecDepth 100000 in
theorem awake_any (w : World) : Calls Try.prog 8 #[] w fun e w' => e = .returned (.bool true) ∧ Below w.heap.size w w' := by
  have mk : ∀ W : World, (Instr.makeSlice 28 (.int .i64 16) (.int .i64 16)).run Try.prog W = .ok (.slice (some ⟨W.heap.size, 0, none⟩) 16 16) (W.alloc (.cells (bcells (List.replicate 16 0)) 5)) := fun W => make_b 16 (by decide) W
  obtain ⟨Z, hZ⟩ : ∃ Z, Z = List.replicate 16 0 := ⟨_, rfl⟩
  rw [← hZ] at mk
  obtain ⟨f, hf⟩ : ∃ f : Nat → Nat, f = fun i => i := ⟨_, rfl⟩
  obtain ⟨g, hg⟩ : ∃ g : Nat → Nat, g = fun i => 17 * i := ⟨_, rfl⟩
  have F1 : Hid (∀ i, f i = i) := Lib.hid fun i => by rw [hf]
  have G1 : Hid (∀ i, g i = 17 * i) := Lib.hid fun i => by rw [hg]
  have KE : Hid (fil f 16 16 = row fun i => i) := Lib.hid (by rw [fil_full, hf]; rfl)
  have IE : Hid (fil g 16 16 = row fun i => 17 * i) := Lib.hid (by rw [fil_full, hg]; rfl)
  have N := ARow.new2 w 5 5 Z Z
  have R0 : Hid (BRow ((w.alloc (.cells (bcells Z) 5)).alloc (.cells (bcells Z) 5)) w.heap.size (fil f 16 0)) := Lib.hid (by rw [fil_zero, ← hZ]; exact N.1)
  have S0 : Hid (BRow ((w.alloc (.cells (bcells Z) 5)).alloc (.cells (bcells Z) 5)) (w.heap.size + 1) (fil g 16 0)) := Lib.hid (by rw [fil_zero, ← hZ]; exact N.2.1)
  have B0 := Lib.hid N.2.2
  clear N hZ hf hg
  go_enter Try.func8, Try.ntmps8
  go_wp2_with fail
  clear mk
  generalize (w.alloc (.cells (bcells Z) 5)).alloc (.cells (bcells Z) 5) = w1 at *
  go_loopw [3] (fun kv wr => ∃ j : Nat, kv = .int .i64 (j : Int) ∧ j ≤ 16 ∧ Hid (BRow wr w.heap.size (fil f 16 j)) ∧ Hid (BRow wr (w.heap.size + 1) (fil g 16 j)) ∧ Hid (Below w.heap.size w wr)) (fun kv _ => 16 - (intOf kv).toNat)
  case atStart => exact ⟨0, rfl, by omega, R0, S0, B0⟩
  case round =>
    obtain ⟨j, rfl, hj, HR, HS, HB⟩ := hrel
    clear R0 S0 B0
    by_cases hlt : j < 16
    · have c0 := HR.out.cell j (by rw [fil_len]; exact hlt)
      have f0 := HR.out.free j
      have c1 := HS.out.cell j (by rw [fil_len]; exact hlt)
      have f1 := HS.out.free j
      have e1 : (j : Int) % 256 = (j : Int) := by omega
      have e2 : IntKind.i64.wrap (17 * (j : Int)) = 17 * (j : Int) := IntWalk.i64_in _ (by omega)
      have e3 : 17 * (j : Int) % 256 = 17 * (j : Int) := by omega
      have R1 : BRow (wr.setCell ⟨w.heap.size, j, none⟩ (.int .u8 (j : Int))) w.heap.size (fil f 16 (j + 1)) := by have := HR.out.put j (f j); rwa [fil_set, F1.out] at this
      have R2 := Lib.hid (R1.far (p := ⟨w.heap.size + 1, j, none⟩) (by simp) (.int .u8 (17 * (j : Int))))
      have S1 := HS.out.far (p := ⟨w.heap.size, j, none⟩) (by simp) (.int .u8 (j : Int))
      have S2 : Hid (BRow ((wr.setCell ⟨w.heap.size, j, none⟩ (.int .u8 (j : Int))).setCell ⟨w.heap.size + 1, j, none⟩ (.int .u8 (17 * (j : Int)))) (w.heap.size + 1) (fil g 16 (j + 1))) := Lib.hid (by
        have := S1.put j (g j)
        rw [fil_set, G1.out, show ((17 * j : Nat) : Int) = 17 * (j : Int) by omega] at this
        exact this)
      have B2 := Lib.hid ((HB.out.setCell (p := ⟨w.heap.size, j, none⟩) (Nat.le_refl _) (.int .u8 (j : Int))).setCell (p := ⟨w.heap.size + 1, j, none⟩) (by simp) (.int .u8 (17 * (j : Int))))
      generalize (fil f 16 j).getD j 0 = old1 at *
      generalize (fil g 16 j).getD j 0 = old2 at *
      clear R1 S1 HR HS HB
      go_wp2_with fail
      go_roundw
      case rel => exact ⟨j + 1, by go_num, by omega, R2, S2, B2⟩
      case measure => simp [intOf]; omega
    · obtain rfl : j = 16 := by omega
      have BK : Hid (Byt (row fun i => i)) := Lib.hid (row_byt fun i hi => by omega)
      have BI : Hid (Byt (row fun i => 17 * i)) := Lib.hid (row_byt fun i hi => by omega)
      have HK : Hid (Holds wr wr.heap.size (some ⟨w.heap.size, 0, none⟩) 16 16 (ints (row fun i => i))) := Lib.hid (by
        have h := HR.out
        rw [KE.out] at h
        exact BRow.holds h BK.out (by decide))
      have HI : Hid (Holds wr wr.heap.size (some ⟨w.heap.size + 1, 0, none⟩) 16 16 (ints (row fun i => 17 * i))) := Lib.hid (by
        have h := HS.out
        rw [IE.out] at h
        exact BRow.holds h BI.out (by decide))
      have E := Lib.hid (enc_ok _ 16 16 _ _ 16 _ wr wr.heap.size HK.out HI.out (Nat.le_refl _) (.inl rfl))
      rw [nats_ints, nats_ints, block0] at E
      clear HR HS KE IE BK BI HK HI F1 G1 hlt hj
      go_wp2_with fail
      refine E.out.mono ?_
      rintro e w2 ⟨gb, rfl, hgb, hr, hb⟩
      have HH := Lib.hid (ARow.holds hr ex_byt (by decide))
      have H2 := Lib.hid (HB.out.trans (hb.mono HB.out.size))
      have C1 := Lib.hid (box_no 83 (by decide) w2)
      rw [show Box 83 = 237 from box0] at C1
      clear hgb hr hb E HB
      go_wp2_with fail
      refine C1.out.mono ?_
      rintro e w3 ⟨rfl, hb3⟩
      have cv : (convert 28 9 (.slice (some ⟨gb, 0, none⟩) 16 16)).run Try.prog w3 = .ok (.string (strOfNums (ints exT))) w3 := run_string_bytes (HH.out.below hb3)
      rw [ex_str] at cv
      have H3 := Lib.hid (H2.out.trans (hb3.mono H2.out.size))
      have C2 := Lib.hid (times_no 87 131 (by decide) (by decide) w3)
      rw [show T 87 131 = 193 from times0] at C2
      clear hb3 HH H2 C1
      go_wp2_with fail
      refine C2.out.mono ?_
      rintro e w' ⟨rfl, rfl⟩
      go_wp2_with fail
      go_ret
      exact ⟨rfl, H3.out⟩
end Go.Proofs.Ytkgbifljmgindaa.AesA
