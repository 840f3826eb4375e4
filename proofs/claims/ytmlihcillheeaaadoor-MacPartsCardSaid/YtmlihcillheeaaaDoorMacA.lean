/- The document's examples hold. -/
import Derived.Test.YtmlihcillheeaaaDoorMac3
import Derived.Test.YtmlihcillheeaaaDoorMac4
import Derived.Lib.SlBytesConst
set_option linter.unusedVariables false
namespace Go.Proofs.YtmlihcillheeaaaDoor.MacA
open Go.RowKit Go.PlainAid Go.Proofs.YtmlihcillheeaaaDoor.Sums Go.Proofs.YtmlihcillheeaaaDoor.Mem Go.Proofs.YtmlihcillheeaaaDoor.Blk Go.Proofs.YtmlihcillheeaaaDoor.Bits3 Go.Proofs.YtmlihcillheeaaaDoor.Ints Go.Proofs.YtmlihcillheeaaaDoor.Both Go.Proofs.YtmlihcillheeaaaDoor.ShaD Go.Proofs.YtmlihcillheeaaaDoor.Dig1 Go.Proofs.YtmlihcillheeaaaDoor.Dig9 Go.Proofs.YtmlihcillheeaaaDoor.DigA Go.Proofs.YtmlihcillheeaaaDoor.MacD Go.Proofs.YtmlihcillheeaaaDoor.Mac2 Go.Proofs.YtmlihcillheeaaaDoor.Mac3 Go.Proofs.YtmlihcillheeaaaDoor.Mac4

theorem hi_full : full (List.replicate 20 11) [72, 105, 32, 84, 104, 101, 114, 101] = [176, 52, 76, 97, 216, 219, 56, 83, 92, 168, 175, 206, 175, 11, 241, 43, 136, 29, 194, 0, 201, 131, 61, 167, 38, 233, 55, 108, 46, 50, 207, 247] := by decide +kernel
theorem hi_str : strOfNums (ints (full (nats (ints (List.replicate 20 11))) (nats (ints [72, 105, 32, 84, 104, 101, 114, 101])))) = ⟨#[176, 52, 76, 97, 216, 219, 56, 83, 92, 168, 175, 206, 175, 11, 241, 43, 136, 29, 194, 0, 201, 131, 61, 167, 38, 233, 55, 108, 46, 50, 207, 247]⟩ := by
  rw [nats_ints, nats_ints, hi_full]
  kernel_rfl

set_option maxHeartbeats 1000000 in
set_option maxRecDepth 100000 in
theorem awake_any (w : World) (hT : Tab w) : Calls Tryd.prog 11 #[] w fun e w' => e = .returned (.bool true) ∧ Below w.heap.size w w' := by
  have mk : ∀ W : World, (Instr.makeSlice 22 (.int .i64 20) (.int .i64 20)).run Tryd.prog W = .ok (.slice (some ⟨W.heap.size, 0, none⟩) 20 20) (W.alloc (.cells (bcells (List.replicate 20 0)) 5)) := fun W => make_b 20 (by decide) W
  obtain ⟨f, hf⟩ : ∃ f : Nat → Nat, f = fun _ => 11 := ⟨_, rfl⟩
  have FJ := Lib.hid (fun j => congrFun hf j)
  have FA : Hid (fil f 20 20 = List.replicate 20 11) := Lib.hid (by rw [fil_full, hf]; rfl)
  have R0 : Hid (BRow (w.alloc (.cells (bcells (List.replicate 20 0)) 5)) w.heap.size (fil f 20 0)) := Lib.hid (by rw [fil_zero]; exact BRow.new w _)
  have B0 := Lib.hid ((Below.refl w.heap.size w).alloc (Nat.le_refl _) (.cells (bcells (List.replicate 20 0)) 5))
  have HT := Lib.hid hT
  generalize bcells (List.replicate 20 0) = Z at *
  clear hf hT
  go_enter Tryd.func11, Tryd.ntmps11
  go_wp2_with fail
  clear mk
  generalize w.alloc (.cells Z 5) = w1 at *
  go_loopw [2] (fun kv wr => ∃ j : Nat, kv = .int .i64 (j : Int) ∧ j ≤ 20 ∧ Hid (BRow wr w.heap.size (fil f 20 j)) ∧ Hid (Below w.heap.size w wr)) (fun kv _ => 20 - (intOf kv).toNat)
  case atStart => exact ⟨0, rfl, by omega, R0, B0⟩
  case round =>
    obtain ⟨j, rfl, hj, HR, HB⟩ := hrel
    clear R0 B0
    by_cases hlt : j < 20
    · have c0 := HR.out.cell j (by rw [fil_len]; exact hlt)
      have f0 := HR.out.free j
      have R1 : Hid (BRow (wr.setCell ⟨w.heap.size, j, none⟩ (.int .u8 11)) w.heap.size (fil f 20 (j + 1))) := Lib.hid (by
        have q := HR.out.put j (f j)
        rw [fil_set, FJ.out j] at q
        exact q)
      have B1 := Lib.hid (HB.out.setCell (p := ⟨w.heap.size, j, none⟩) (Nat.le_refl _) (.int .u8 11))
      generalize (fil f 20 j).getD j 0 = old at *
      clear HR HB
      go_wp2_with fail
      go_roundw
      case rel => exact ⟨j + 1, by go_num, by omega, R1, B1⟩
      case measure => simp [intOf]; omega
    · obtain rfl : j = 20 := by omega
      have KR := HR.out
      rw [FA.out] at KR
      have KO : Hid (Holds wr wr.heap.size (some ⟨w.heap.size, 0, none⟩) 20 20 (ints (List.replicate 20 11))) := Lib.hid (by
        have q := (KR.owns (fun x hx => by rw [List.eq_of_mem_replicate hx]; decide) (by simp) (Nat.zero_le _)).holds
        simpa using q)
      have L8 : Holds (wr.alloc (.cells #[.int .u8 72, .int .u8 105, .int .u8 32, .int .u8 84, .int .u8 104, .int .u8 101, .int .u8 114, .int .u8 101] 5 (8, 9))) (wr.heap.size + 1) (some ⟨wr.heap.size, 0, none⟩) 8 8 (ints [72, 105, 32, 84, 104, 101, 114, 101]) := Holds.laid wr [72, 105, 32, 84, 104, 101, 114, 101] _ (8, 9) 8 _ rfl (by decide) rfl rfl (by decide)
      have cv0 := cvt wr #[.int .u8 72, .int .u8 105, .int .u8 32, .int .u8 84, .int .u8 104, .int .u8 101, .int .u8 114, .int .u8 101] 8
      have s1 : (wr.alloc (.cells #[.int .u8 72, .int .u8 105, .int .u8 32, .int .u8 84, .int .u8 104, .int .u8 101, .int .u8 114, .int .u8 101] 5 (8, 9))).heap.size = wr.heap.size + 1 := by simp
      have B1 := (Below.refl wr.heap.size wr).alloc (Nat.le_refl _) (.cells #[.int .u8 72, .int .u8 105, .int .u8 32, .int .u8 84, .int .u8 104, .int .u8 101, .int .u8 114, .int .u8 101] 5 (8, 9))
      have P2 := All.lit (w := wr.alloc (.cells #[.int .u8 72, .int .u8 105, .int .u8 32, .int .u8 84, .int .u8 104, .int .u8 101, .int .u8 114, .int .u8 101] 5 (8, 9))) (B := wr.heap.size + 1) (by rw [s1]; exact Nat.le_refl _) [⟨some ⟨wr.heap.size, 0, none⟩, 8, 8, ints [72, 105, 32, 84, 104, 101, 114, 101]⟩] #[.slice (some ⟨wr.heap.size, 0, none⟩) 8 8] 22 rfl (mem1 L8)
      rw [s1] at P2
      have B2 := Lib.hid (B1.alloc (by rw [s1]; omega) (.cells #[.slice (some ⟨wr.heap.size, 0, none⟩) 8 8] 22))
      have B2w := Lib.hid (HB.out.trans (B2.out.mono HB.out.size))
      have C := Lib.hid (full_any (some ⟨w.heap.size, 0, none⟩) 20 20 (ints (List.replicate 20 11)) (wr.heap.size + 1) 1 1 [⟨some ⟨wr.heap.size, 0, none⟩, 8, 8, ints [72, 105, 32, 84, 104, 101, 114, 101]⟩] _ (wr.heap.size + 1 + 1) ((KO.out.below B2.out).more (by omega)) P2 (by rw [show ((wr.alloc (.cells #[.int .u8 72, .int .u8 105, .int .u8 32, .int .u8 84, .int .u8 104, .int .u8 101, .int .u8 114, .int .u8 101] 5 (8, 9))).alloc (.cells #[.slice (some ⟨wr.heap.size, 0, none⟩) 8 8] 22)).heap.size = wr.heap.size + 1 + 1 by simp]; exact Nat.le_refl _) rfl (by decide) (by decide) (by decide) (by show 8 + 0 ≤ 900000; decide) (HT.out.up B2w.out))
      rw [show flat [⟨some ⟨wr.heap.size, 0, none⟩, 8, 8, ints [72, 105, 32, 84, 104, 101, 114, 101]⟩] = ints [72, 105, 32, 84, 104, 101, 114, 101] from rfl] at C
      have HS := Lib.hid hi_str
      obtain ⟨X, hX⟩ : ∃ X, X = ints (full (nats (ints (List.replicate 20 11))) (nats (ints [72, 105, 32, 84, 104, 101, 114, 101]))) := ⟨_, rfl⟩
      rw [← hX] at C HS
      clear KR L8 s1 B1 P2 HR hX KO FA FJ
      go_wp2_with fail
      refine C.out.mono ?_
      rintro e w3 ⟨v3, rfl, o3, hb⟩
      obtain ⟨A3, c3, rfl, h3⟩ := o3.slice
      have cv := run_string_bytes h3
      rw [HS.out] at cv
      have B3 := Lib.hid (B2w.out.trans (hb.mono B2w.out.size))
      have cv1 := cvt w3 #[.int .u8 97, .int .u8 98] 2
      have cv2 := cvt (w3.alloc (.cells #[.int .u8 97, .int .u8 98] 5 (2, 3))) #[.int .u8 97, .int .u8 98] 2
      have L1 : Holds (w3.alloc (.cells #[.int .u8 97, .int .u8 98] 5 (2, 3))) (w3.heap.size + 1) (some ⟨w3.heap.size, 0, none⟩) 2 2 (ints [97, 98]) := Holds.laid w3 [97, 98] _ (2, 3) 2 _ rfl (by decide) rfl rfl (by decide)
      have s1 : (w3.alloc (.cells #[.int .u8 97, .int .u8 98] 5 (2, 3))).heap.size = w3.heap.size + 1 := by simp
      have L2 : Holds ((w3.alloc (.cells #[.int .u8 97, .int .u8 98] 5 (2, 3))).alloc (.cells #[.int .u8 97, .int .u8 98] 5 (2, 3))) (w3.heap.size + 1 + 1) (some ⟨w3.heap.size + 1, 0, none⟩) 2 2 (ints [97, 98]) := Holds.laid _ [97, 98] _ (2, 3) 2 (w3.heap.size + 1) rfl (by decide) rfl s1 (by decide)
      have L1' := (L1.below ((Below.refl _ _).alloc (by rw [s1]; exact Nat.le_refl _) (.cells #[.int .u8 97, .int .u8 98] 5 (2, 3)))).more (show w3.heap.size + 1 ≤ w3.heap.size + 1 + 1 by omega)
      have SC := Lib.hid (same_any _ 2 2 _ _ 2 2 _ _ _ L1' L2 (by decide) (by decide))
      rw [show decide (ints [97, 98] = ints [97, 98]) = true from decide_eq_true rfl] at SC
      have B4 := Lib.hid ((B3.out.alloc B3.out.size (.cells #[.int .u8 97, .int .u8 98] 5 (2, 3))).alloc (by rw [s1]; exact Nat.le_succ_of_le B3.out.size) (.cells #[.int .u8 97, .int .u8 98] 5 (2, 3)))
      rw [s1] at cv2
      clear o3 h3 hb C B2 L1 L2 L1' s1 cv0 HS
      go_wp2_with fail
      refine SC.out.mono ?_
      rintro e w' ⟨rfl, rfl⟩
      go_wp2_with fail
      go_ret
      exact ⟨rfl, B4.out⟩
end Go.Proofs.YtmlihcillheeaaaDoor.MacA
