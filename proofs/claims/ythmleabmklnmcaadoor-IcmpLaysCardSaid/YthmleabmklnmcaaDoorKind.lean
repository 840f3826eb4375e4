/- Contracts of the code: versed, Kind, lookOf, Error. -/
import Derived.Test.YthmleabmklnmcaaDoorFam
set_option linter.unusedVariables false
namespace Go.Proofs.YthmleabmklnmcaaDoor.Kind
open Go.RowKit Go.Sort Go.Proofs.YthmleabmklnmcaaDoor.Sums Go.Proofs.YthmleabmklnmcaaDoor.Words Go.Proofs.YthmleabmklnmcaaDoor.Mem Go.Proofs.YthmleabmklnmcaaDoor.Ahead Go.Proofs.YthmleabmklnmcaaDoor.IcmD Go.Proofs.YthmleabmklnmcaaDoor.Blk Go.Proofs.YthmleabmklnmcaaDoor.Bits Go.Proofs.YthmleabmklnmcaaDoor.InetSum Go.Proofs.YthmleabmklnmcaaDoor.Steps Go.Proofs.YthmleabmklnmcaaDoor.Free Go.Proofs.YthmleabmklnmcaaDoor.Cut
open Go.Proofs.YthmleabmklnmcaaDoor.Com Go.Proofs.YthmleabmklnmcaaDoor.Fam

theorem versed_narrow (p : Ic) (A : Option Addr) (n c : Nat) (w : World) : Calls Tryd.prog 34 #[.agg #[.int .i64 p.typ, .int .i64 p.code, .int .i64 p.rest, .slice A n c], .bool false] w fun e w' => e = .returned (.iface 70 (.agg #[.int .i64 p.typ, .int .i64 p.code, .int .i64 p.rest, .slice A n c])) ∧ Below w.heap.size w w' := by
  have B0 := Lib.hid ((Below.refl w.heap.size w).alloc (Nat.le_refl _) (.cells #[.int .i64 p.typ, .int .i64 p.code, .int .i64 p.rest, .slice A n c] 24))
  have P0 := Lib.hid (Blk.new w 24 #[.int .i64 p.typ, .int .i64 p.code, .int .i64 p.rest, .slice A n c])
  go_enter Tryd.func34, Tryd.ntmps34
  go_wp2_with (refine Loads.wpList_load_w rfl 24 (.tmp 2) rfl w.heap.size rfl 24 #[.int .i64 p.typ, .int .i64 p.code, .int .i64 p.rest, .slice A n c] (0, 0) _ P0.out (Tryd.underlying24) rfl (by kernel_rfl) ?_)
  go_ret
  exact ⟨rfl, B0.out⟩
theorem versed_broad (p : Ic) (A : Option Addr) (n c : Nat) (w : World) : Calls Tryd.prog 34 #[.agg #[.int .i64 p.typ, .int .i64 p.code, .int .i64 p.rest, .slice A n c], .bool true] w fun e w' => e = .returned (.iface 69 (.agg #[.int .i64 p.typ, .int .i64 p.code, .int .i64 p.rest, .slice A n c])) ∧ Below w.heap.size w w' := by
  have B0 := Lib.hid ((Below.refl w.heap.size w).alloc (Nat.le_refl _) (.cells #[.int .i64 p.typ, .int .i64 p.code, .int .i64 p.rest, .slice A n c] 24))
  have P0 := Lib.hid (Blk.new w 24 #[.int .i64 p.typ, .int .i64 p.code, .int .i64 p.rest, .slice A n c])
  go_enter Tryd.func34, Tryd.ntmps34
  go_wp2_with (refine Loads.wpList_load_w rfl 24 (.tmp 2) rfl w.heap.size rfl 24 #[.int .i64 p.typ, .int .i64 p.code, .int .i64 p.rest, .slice A n c] (0, 0) _ P0.out (Tryd.underlying24) rfl (by kernel_rfl) ?_)
  go_ret
  exact ⟨rfl, B0.out⟩

theorem error_any (k : Int) (w : World) : Calls Tryd.prog 21 #[.int .i64 k] w fun e w' => e = .returned (.bool (tells k)) ∧ w = w' := by
  have E : Hid (tells k = (decide (3 ≤ k) && decide (k ≤ 6))) := Lib.hid rfl
  by_cases h3 : k = 3
  · subst h3
    go_enter Tryd.func21, Tryd.ntmps21
    go_wp2_with fail
    go_ret
    exact ⟨rfl, rfl⟩
  by_cases h4 : k = 4
  · subst h4
    go_enter Tryd.func21, Tryd.ntmps21
    go_wp2_with fail
    go_ret
    exact ⟨rfl, rfl⟩
  by_cases h5 : k = 5
  · subst h5
    go_enter Tryd.func21, Tryd.ntmps21
    go_wp2_with fail
    go_ret
    exact ⟨rfl, rfl⟩
  by_cases h6 : k = 6
  · subst h6
    go_enter Tryd.func21, Tryd.ntmps21
    go_wp2_with fail
    go_ret
    exact ⟨rfl, rfl⟩
  have F : Hid (tells k = false) := Lib.hid (by
    rw [E.out]
    by_cases a : 3 ≤ k <;> by_cases b : k ≤ 6 <;> simp [a, b]
    omega)
  have g3 : (k == 3) = false := by simpa using h3
  have g4 : (k == 4) = false := by simpa using h4
  have g5 : (k == 5) = false := by simpa using h5
  have g6 : (k == 6) = false := by simpa using h6
  clear E h3 h4 h5 h6
  go_enter Tryd.func21, Tryd.ntmps21
  go_wp2_with fail
  go_ret
  exact ⟨by rw [F.out]; rfl, rfl⟩

set_option maxHeartbeats 1000000 in
set_option maxRecDepth 100000 in
theorem kind_narrow (p : Ic) (A : Option Addr) (n c : Nat) (w : World) (hf : Fam w) : Calls Tryd.prog 19 #[.agg #[.int .i64 p.typ, .int .i64 p.code, .int .i64 p.rest, .slice A n c], .bool false] w fun e w' => e = .returned (.int .i64 (kind p.typ p.code false)) ∧ Below w.heap.size w w' := by
  have B0 := Lib.hid ((Below.refl w.heap.size w).alloc (Nat.le_refl _) (.cells #[.int .i64 p.typ, .int .i64 p.code, .int .i64 p.rest, .slice A n c] 24))
  have P0 := Lib.hid (Blk.new w 24 #[.int .i64 p.typ, .int .i64 p.code, .int .i64 p.rest, .slice A n c])
  have F0 := Lib.hid (hf.alloc (.cells #[.int .i64 p.typ, .int .i64 p.code, .int .i64 p.rest, .slice A n c] 24))
  clear hf
  have KE := Lib.hid (fams_kind p.typ p.code false)
  go_enter Tryd.func19, Tryd.ntmps19
  go_wp2_with (refine Loads.wpList_load_w rfl 24 (.tmp 2) rfl w.heap.size rfl 24 #[.int .i64 p.typ, .int .i64 p.code, .int .i64 p.rest, .slice A n c] (0, 0) _ P0.out (Tryd.underlying24) rfl (by kernel_rfl) ?_)
  refine (versed_narrow p A n c _).mono ?_
  rintro e w1 ⟨rfl, hb⟩
  have B1 := Lib.hid (B0.out.trans (hb.mono B0.out.size))
  have F1 := Lib.hid (F0.out.below hb)
  clear hb
  obtain ⟨ft, fr, hfm⟩ := F1.out
  go_wp2_with (refine Loads.wpList_load_w rfl 62 _ rfl (0 : Nat) rfl ft famCells fr _ hfm (Tryd.underlying62) rfl (by kernel_rfl) ?_)
  go_loopw [12] (fun i wr => ∃ k : Nat, i = .int .i64 (k : Int) ∧ k ≤ 6 ∧ Hid (firstOf p.typ p.code false (fams.drop k) = kind p.typ p.code false) ∧ Hid (Below w.heap.size w wr)) (fun i _ => 6 - (intOf i).toNat)
  case atStart => exact ⟨0, rfl, by omega, Lib.hid KE.out, B1⟩
  case round =>
    obtain ⟨k, rfl, hk, HK, HB⟩ := hrel
    clear hfm F1 F0 B0 P0 B1 KE
    by_cases hlt : k < 6
    · rcases (show k = 0 ∨ k = 1 ∨ k = 2 ∨ k = 3 ∨ k = 4 ∨ k = 5 by omega) with rfl | rfl | rfl | rfl | rfl | rfl
      · have S := Lib.hid (fun W => narrow_any ⟨1, ⟨8, 0, false⟩, ⟨128, 0, false⟩⟩ p A n c W)
        have HD : Hid (firstOf p.typ p.code false (fams.drop 0) = if (Fm.at ⟨1, ⟨8, 0, false⟩, ⟨128, 0, false⟩⟩ false).fits p.typ p.code = true then 1 else firstOf p.typ p.code false (fams.drop 1)) := Lib.hid rfl
        generalize (Fm.at ⟨1, ⟨8, 0, false⟩, ⟨128, 0, false⟩⟩ false).fits p.typ p.code = z at *
        have hix : (Instr.index 62 (.agg famCells) (.int .i64 0)).run Tryd.prog wr = .ok (.agg #[.int .i64 1, .int .i64 8, .int .i64 0, .bool false, .int .i64 128, .int .i64 0, .bool false]) wr := by kernel_rfl
        have R1 := Lib.hid (Blk.new wr 61 #[.int .i64 1, .int .i64 8, .int .i64 0, .bool false, .int .i64 128, .int .i64 0, .bool false])
        have BA := Lib.hid (HB.out.alloc HB.out.size (.cells #[.int .i64 1, .int .i64 8, .int .i64 0, .bool false, .int .i64 128, .int .i64 0, .bool false] 61))
        cases z with
        | true =>
          have KZ : Hid (kind p.typ p.code false = 1) := Lib.hid (by rw [← HK.out, HD.out]; rfl)
          go_wp2_with (refine Loads.wpList_load_w rfl 61 (.tmp 7) rfl wr.heap.size rfl 61 #[.int .i64 1, .int .i64 8, .int .i64 0, .bool false, .int .i64 128, .int .i64 0, .bool false] (0, 0) _ R1.out (Tryd.underlying61) rfl (by kernel_rfl) ?_)
          refine (S.out _).mono ?_
          rintro e w2 ⟨rfl, hb⟩
          have B2 := Lib.hid (BA.out.trans (hb.mono BA.out.size))
          have R2 := (R1.out.below hb R1.out.lt).cell 0
          clear hb
          go_wp2_with fail
          go_ret
          exact ⟨by rw [KZ.out]; rfl, B2.out⟩
        | false =>
          have KZ : Hid (firstOf p.typ p.code false (fams.drop 1) = kind p.typ p.code false) := Lib.hid (by rw [← HK.out, HD.out]; rfl)
          go_wp2_with (refine Loads.wpList_load_w rfl 61 (.tmp 7) rfl wr.heap.size rfl 61 #[.int .i64 1, .int .i64 8, .int .i64 0, .bool false, .int .i64 128, .int .i64 0, .bool false] (0, 0) _ R1.out (Tryd.underlying61) rfl (by kernel_rfl) ?_)
          refine (S.out _).mono ?_
          rintro e w2 ⟨rfl, hb⟩
          have B2 := Lib.hid (BA.out.trans (hb.mono BA.out.size))
          clear hb
          go_wp2_with fail
          go_roundw
          case rel => exact ⟨1, by go_num, by omega, KZ, B2⟩
          case measure => simp [intOf]
      · have S := Lib.hid (fun W => narrow_any ⟨2, ⟨0, 0, false⟩, ⟨129, 0, false⟩⟩ p A n c W)
        have HD : Hid (firstOf p.typ p.code false (fams.drop 1) = if (Fm.at ⟨2, ⟨0, 0, false⟩, ⟨129, 0, false⟩⟩ false).fits p.typ p.code = true then 2 else firstOf p.typ p.code false (fams.drop 2)) := Lib.hid rfl
        generalize (Fm.at ⟨2, ⟨0, 0, false⟩, ⟨129, 0, false⟩⟩ false).fits p.typ p.code = z at *
        have hix : (Instr.index 62 (.agg famCells) (.int .i64 1)).run Tryd.prog wr = .ok (.agg #[.int .i64 2, .int .i64 0, .int .i64 0, .bool false, .int .i64 129, .int .i64 0, .bool false]) wr := by kernel_rfl
        have R1 := Lib.hid (Blk.new wr 61 #[.int .i64 2, .int .i64 0, .int .i64 0, .bool false, .int .i64 129, .int .i64 0, .bool false])
        have BA := Lib.hid (HB.out.alloc HB.out.size (.cells #[.int .i64 2, .int .i64 0, .int .i64 0, .bool false, .int .i64 129, .int .i64 0, .bool false] 61))
        cases z with
        | true =>
          have KZ : Hid (kind p.typ p.code false = 2) := Lib.hid (by rw [← HK.out, HD.out]; rfl)
          go_wp2_with (refine Loads.wpList_load_w rfl 61 (.tmp 7) rfl wr.heap.size rfl 61 #[.int .i64 2, .int .i64 0, .int .i64 0, .bool false, .int .i64 129, .int .i64 0, .bool false] (0, 0) _ R1.out (Tryd.underlying61) rfl (by kernel_rfl) ?_)
          refine (S.out _).mono ?_
          rintro e w2 ⟨rfl, hb⟩
          have B2 := Lib.hid (BA.out.trans (hb.mono BA.out.size))
          have R2 := (R1.out.below hb R1.out.lt).cell 0
          clear hb
          go_wp2_with fail
          go_ret
          exact ⟨by rw [KZ.out]; rfl, B2.out⟩
        | false =>
          have KZ : Hid (firstOf p.typ p.code false (fams.drop 2) = kind p.typ p.code false) := Lib.hid (by rw [← HK.out, HD.out]; rfl)
          go_wp2_with (refine Loads.wpList_load_w rfl 61 (.tmp 7) rfl wr.heap.size rfl 61 #[.int .i64 2, .int .i64 0, .int .i64 0, .bool false, .int .i64 129, .int .i64 0, .bool false] (0, 0) _ R1.out (Tryd.underlying61) rfl (by kernel_rfl) ?_)
          refine (S.out _).mono ?_
          rintro e w2 ⟨rfl, hb⟩
          have B2 := Lib.hid (BA.out.trans (hb.mono BA.out.size))
          clear hb
          go_wp2_with fail
          go_roundw
          case rel => exact ⟨2, by go_num, by omega, KZ, B2⟩
          case measure => simp [intOf]
      · have S := Lib.hid (fun W => narrow_any ⟨4, ⟨3, 4, false⟩, ⟨2, 0, true⟩⟩ p A n c W)
        have HD : Hid (firstOf p.typ p.code false (fams.drop 2) = if (Fm.at ⟨4, ⟨3, 4, false⟩, ⟨2, 0, true⟩⟩ false).fits p.typ p.code = true then 4 else firstOf p.typ p.code false (fams.drop 3)) := Lib.hid rfl
        generalize (Fm.at ⟨4, ⟨3, 4, false⟩, ⟨2, 0, true⟩⟩ false).fits p.typ p.code = z at *
        have hix : (Instr.index 62 (.agg famCells) (.int .i64 2)).run Tryd.prog wr = .ok (.agg #[.int .i64 4, .int .i64 3, .int .i64 4, .bool false, .int .i64 2, .int .i64 0, .bool true]) wr := by kernel_rfl
        have R1 := Lib.hid (Blk.new wr 61 #[.int .i64 4, .int .i64 3, .int .i64 4, .bool false, .int .i64 2, .int .i64 0, .bool true])
        have BA := Lib.hid (HB.out.alloc HB.out.size (.cells #[.int .i64 4, .int .i64 3, .int .i64 4, .bool false, .int .i64 2, .int .i64 0, .bool true] 61))
        cases z with
        | true =>
          have KZ : Hid (kind p.typ p.code false = 4) := Lib.hid (by rw [← HK.out, HD.out]; rfl)
          go_wp2_with (refine Loads.wpList_load_w rfl 61 (.tmp 7) rfl wr.heap.size rfl 61 #[.int .i64 4, .int .i64 3, .int .i64 4, .bool false, .int .i64 2, .int .i64 0, .bool true] (0, 0) _ R1.out (Tryd.underlying61) rfl (by kernel_rfl) ?_)
          refine (S.out _).mono ?_
          rintro e w2 ⟨rfl, hb⟩
          have B2 := Lib.hid (BA.out.trans (hb.mono BA.out.size))
          have R2 := (R1.out.below hb R1.out.lt).cell 0
          clear hb
          go_wp2_with fail
          go_ret
          exact ⟨by rw [KZ.out]; rfl, B2.out⟩
        | false =>
          have KZ : Hid (firstOf p.typ p.code false (fams.drop 3) = kind p.typ p.code false) := Lib.hid (by rw [← HK.out, HD.out]; rfl)
          go_wp2_with (refine Loads.wpList_load_w rfl 61 (.tmp 7) rfl wr.heap.size rfl 61 #[.int .i64 4, .int .i64 3, .int .i64 4, .bool false, .int .i64 2, .int .i64 0, .bool true] (0, 0) _ R1.out (Tryd.underlying61) rfl (by kernel_rfl) ?_)
          refine (S.out _).mono ?_
          rintro e w2 ⟨rfl, hb⟩
          have B2 := Lib.hid (BA.out.trans (hb.mono BA.out.size))
          clear hb
          go_wp2_with fail
          go_roundw
          case rel => exact ⟨3, by go_num, by omega, KZ, B2⟩
          case measure => simp [intOf]
      · have S := Lib.hid (fun W => narrow_any ⟨3, ⟨3, 1, true⟩, ⟨1, 0, true⟩⟩ p A n c W)
        have HD : Hid (firstOf p.typ p.code false (fams.drop 3) = if (Fm.at ⟨3, ⟨3, 1, true⟩, ⟨1, 0, true⟩⟩ false).fits p.typ p.code = true then 3 else firstOf p.typ p.code false (fams.drop 4)) := Lib.hid rfl
        generalize (Fm.at ⟨3, ⟨3, 1, true⟩, ⟨1, 0, true⟩⟩ false).fits p.typ p.code = z at *
        have hix : (Instr.index 62 (.agg famCells) (.int .i64 3)).run Tryd.prog wr = .ok (.agg #[.int .i64 3, .int .i64 3, .int .i64 1, .bool true, .int .i64 1, .int .i64 0, .bool true]) wr := by kernel_rfl
        have R1 := Lib.hid (Blk.new wr 61 #[.int .i64 3, .int .i64 3, .int .i64 1, .bool true, .int .i64 1, .int .i64 0, .bool true])
        have BA := Lib.hid (HB.out.alloc HB.out.size (.cells #[.int .i64 3, .int .i64 3, .int .i64 1, .bool true, .int .i64 1, .int .i64 0, .bool true] 61))
        cases z with
        | true =>
          have KZ : Hid (kind p.typ p.code false = 3) := Lib.hid (by rw [← HK.out, HD.out]; rfl)
          go_wp2_with (refine Loads.wpList_load_w rfl 61 (.tmp 7) rfl wr.heap.size rfl 61 #[.int .i64 3, .int .i64 3, .int .i64 1, .bool true, .int .i64 1, .int .i64 0, .bool true] (0, 0) _ R1.out (Tryd.underlying61) rfl (by kernel_rfl) ?_)
          refine (S.out _).mono ?_
          rintro e w2 ⟨rfl, hb⟩
          have B2 := Lib.hid (BA.out.trans (hb.mono BA.out.size))
          have R2 := (R1.out.below hb R1.out.lt).cell 0
          clear hb
          go_wp2_with fail
          go_ret
          exact ⟨by rw [KZ.out]; rfl, B2.out⟩
        | false =>
          have KZ : Hid (firstOf p.typ p.code false (fams.drop 4) = kind p.typ p.code false) := Lib.hid (by rw [← HK.out, HD.out]; rfl)
          go_wp2_with (refine Loads.wpList_load_w rfl 61 (.tmp 7) rfl wr.heap.size rfl 61 #[.int .i64 3, .int .i64 3, .int .i64 1, .bool true, .int .i64 1, .int .i64 0, .bool true] (0, 0) _ R1.out (Tryd.underlying61) rfl (by kernel_rfl) ?_)
          refine (S.out _).mono ?_
          rintro e w2 ⟨rfl, hb⟩
          have B2 := Lib.hid (BA.out.trans (hb.mono BA.out.size))
          clear hb
          go_wp2_with fail
          go_roundw
          case rel => exact ⟨4, by go_num, by omega, KZ, B2⟩
          case measure => simp [intOf]
      · have S := Lib.hid (fun W => narrow_any ⟨5, ⟨11, 0, true⟩, ⟨3, 0, true⟩⟩ p A n c W)
        have HD : Hid (firstOf p.typ p.code false (fams.drop 4) = if (Fm.at ⟨5, ⟨11, 0, true⟩, ⟨3, 0, true⟩⟩ false).fits p.typ p.code = true then 5 else firstOf p.typ p.code false (fams.drop 5)) := Lib.hid rfl
        generalize (Fm.at ⟨5, ⟨11, 0, true⟩, ⟨3, 0, true⟩⟩ false).fits p.typ p.code = z at *
        have hix : (Instr.index 62 (.agg famCells) (.int .i64 4)).run Tryd.prog wr = .ok (.agg #[.int .i64 5, .int .i64 11, .int .i64 0, .bool true, .int .i64 3, .int .i64 0, .bool true]) wr := by kernel_rfl
        have R1 := Lib.hid (Blk.new wr 61 #[.int .i64 5, .int .i64 11, .int .i64 0, .bool true, .int .i64 3, .int .i64 0, .bool true])
        have BA := Lib.hid (HB.out.alloc HB.out.size (.cells #[.int .i64 5, .int .i64 11, .int .i64 0, .bool true, .int .i64 3, .int .i64 0, .bool true] 61))
        cases z with
        | true =>
          have KZ : Hid (kind p.typ p.code false = 5) := Lib.hid (by rw [← HK.out, HD.out]; rfl)
          go_wp2_with (refine Loads.wpList_load_w rfl 61 (.tmp 7) rfl wr.heap.size rfl 61 #[.int .i64 5, .int .i64 11, .int .i64 0, .bool true, .int .i64 3, .int .i64 0, .bool true] (0, 0) _ R1.out (Tryd.underlying61) rfl (by kernel_rfl) ?_)
          refine (S.out _).mono ?_
          rintro e w2 ⟨rfl, hb⟩
          have B2 := Lib.hid (BA.out.trans (hb.mono BA.out.size))
          have R2 := (R1.out.below hb R1.out.lt).cell 0
          clear hb
          go_wp2_with fail
          go_ret
          exact ⟨by rw [KZ.out]; rfl, B2.out⟩
        | false =>
          have KZ : Hid (firstOf p.typ p.code false (fams.drop 5) = kind p.typ p.code false) := Lib.hid (by rw [← HK.out, HD.out]; rfl)
          go_wp2_with (refine Loads.wpList_load_w rfl 61 (.tmp 7) rfl wr.heap.size rfl 61 #[.int .i64 5, .int .i64 11, .int .i64 0, .bool true, .int .i64 3, .int .i64 0, .bool true] (0, 0) _ R1.out (Tryd.underlying61) rfl (by kernel_rfl) ?_)
          refine (S.out _).mono ?_
          rintro e w2 ⟨rfl, hb⟩
          have B2 := Lib.hid (BA.out.trans (hb.mono BA.out.size))
          clear hb
          go_wp2_with fail
          go_roundw
          case rel => exact ⟨5, by go_num, by omega, KZ, B2⟩
          case measure => simp [intOf]
      · have S := Lib.hid (fun W => narrow_any ⟨6, ⟨12, 0, true⟩, ⟨4, 0, true⟩⟩ p A n c W)
        have HD : Hid (firstOf p.typ p.code false (fams.drop 5) = if (Fm.at ⟨6, ⟨12, 0, true⟩, ⟨4, 0, true⟩⟩ false).fits p.typ p.code = true then 6 else firstOf p.typ p.code false (fams.drop 6)) := Lib.hid rfl
        generalize (Fm.at ⟨6, ⟨12, 0, true⟩, ⟨4, 0, true⟩⟩ false).fits p.typ p.code = z at *
        have hix : (Instr.index 62 (.agg famCells) (.int .i64 5)).run Tryd.prog wr = .ok (.agg #[.int .i64 6, .int .i64 12, .int .i64 0, .bool true, .int .i64 4, .int .i64 0, .bool true]) wr := by kernel_rfl
        have R1 := Lib.hid (Blk.new wr 61 #[.int .i64 6, .int .i64 12, .int .i64 0, .bool true, .int .i64 4, .int .i64 0, .bool true])
        have BA := Lib.hid (HB.out.alloc HB.out.size (.cells #[.int .i64 6, .int .i64 12, .int .i64 0, .bool true, .int .i64 4, .int .i64 0, .bool true] 61))
        cases z with
        | true =>
          have KZ : Hid (kind p.typ p.code false = 6) := Lib.hid (by rw [← HK.out, HD.out]; rfl)
          go_wp2_with (refine Loads.wpList_load_w rfl 61 (.tmp 7) rfl wr.heap.size rfl 61 #[.int .i64 6, .int .i64 12, .int .i64 0, .bool true, .int .i64 4, .int .i64 0, .bool true] (0, 0) _ R1.out (Tryd.underlying61) rfl (by kernel_rfl) ?_)
          refine (S.out _).mono ?_
          rintro e w2 ⟨rfl, hb⟩
          have B2 := Lib.hid (BA.out.trans (hb.mono BA.out.size))
          have R2 := (R1.out.below hb R1.out.lt).cell 0
          clear hb
          go_wp2_with fail
          go_ret
          exact ⟨by rw [KZ.out]; rfl, B2.out⟩
        | false =>
          have KZ : Hid (firstOf p.typ p.code false (fams.drop 6) = kind p.typ p.code false) := Lib.hid (by rw [← HK.out, HD.out]; rfl)
          go_wp2_with (refine Loads.wpList_load_w rfl 61 (.tmp 7) rfl wr.heap.size rfl 61 #[.int .i64 6, .int .i64 12, .int .i64 0, .bool true, .int .i64 4, .int .i64 0, .bool true] (0, 0) _ R1.out (Tryd.underlying61) rfl (by kernel_rfl) ?_)
          refine (S.out _).mono ?_
          rintro e w2 ⟨rfl, hb⟩
          have B2 := Lib.hid (BA.out.trans (hb.mono BA.out.size))
          clear hb
          go_wp2_with fail
          go_roundw
          case rel => exact ⟨6, by go_num, by omega, KZ, B2⟩
          case measure => simp [intOf]
    · obtain rfl : k = 6 := by omega
      have KZ : Hid (kind p.typ p.code false = 0) := Lib.hid (by rw [← HK.out]; rfl)
      go_wp2_with fail
      go_ret
      exact ⟨by rw [KZ.out]; rfl, HB.out⟩

set_option maxHeartbeats 1000000 in
set_option maxRecDepth 100000 in
theorem kind_broad (p : Ic) (A : Option Addr) (n c : Nat) (w : World) (hf : Fam w) : Calls Tryd.prog 19 #[.agg #[.int .i64 p.typ, .int .i64 p.code, .int .i64 p.rest, .slice A n c], .bool true] w fun e w' => e = .returned (.int .i64 (kind p.typ p.code true)) ∧ Below w.heap.size w w' := by
  have B0 := Lib.hid ((Below.refl w.heap.size w).alloc (Nat.le_refl _) (.cells #[.int .i64 p.typ, .int .i64 p.code, .int .i64 p.rest, .slice A n c] 24))
  have P0 := Lib.hid (Blk.new w 24 #[.int .i64 p.typ, .int .i64 p.code, .int .i64 p.rest, .slice A n c])
  have F0 := Lib.hid (hf.alloc (.cells #[.int .i64 p.typ, .int .i64 p.code, .int .i64 p.rest, .slice A n c] 24))
  clear hf
  have KE := Lib.hid (fams_kind p.typ p.code true)
  go_enter Tryd.func19, Tryd.ntmps19
  go_wp2_with (refine Loads.wpList_load_w rfl 24 (.tmp 2) rfl w.heap.size rfl 24 #[.int .i64 p.typ, .int .i64 p.code, .int .i64 p.rest, .slice A n c] (0, 0) _ P0.out (Tryd.underlying24) rfl (by kernel_rfl) ?_)
  refine (versed_broad p A n c _).mono ?_
  rintro e w1 ⟨rfl, hb⟩
  have B1 := Lib.hid (B0.out.trans (hb.mono B0.out.size))
  have F1 := Lib.hid (F0.out.below hb)
  clear hb
  obtain ⟨ft, fr, hfm⟩ := F1.out
  go_wp2_with (refine Loads.wpList_load_w rfl 62 _ rfl (0 : Nat) rfl ft famCells fr _ hfm (Tryd.underlying62) rfl (by kernel_rfl) ?_)
  go_loopw [12] (fun i wr => ∃ k : Nat, i = .int .i64 (k : Int) ∧ k ≤ 6 ∧ Hid (firstOf p.typ p.code true (fams.drop k) = kind p.typ p.code true) ∧ Hid (Below w.heap.size w wr)) (fun i _ => 6 - (intOf i).toNat)
  case atStart => exact ⟨0, rfl, by omega, Lib.hid KE.out, B1⟩
  case round =>
    obtain ⟨k, rfl, hk, HK, HB⟩ := hrel
    clear hfm F1 F0 B0 P0 B1 KE
    by_cases hlt : k < 6
    · rcases (show k = 0 ∨ k = 1 ∨ k = 2 ∨ k = 3 ∨ k = 4 ∨ k = 5 by omega) with rfl | rfl | rfl | rfl | rfl | rfl
      · have S := Lib.hid (fun W => broad_any ⟨1, ⟨8, 0, false⟩, ⟨128, 0, false⟩⟩ p A n c W)
        have HD : Hid (firstOf p.typ p.code true (fams.drop 0) = if (Fm.at ⟨1, ⟨8, 0, false⟩, ⟨128, 0, false⟩⟩ true).fits p.typ p.code = true then 1 else firstOf p.typ p.code true (fams.drop 1)) := Lib.hid rfl
        generalize (Fm.at ⟨1, ⟨8, 0, false⟩, ⟨128, 0, false⟩⟩ true).fits p.typ p.code = z at *
        have hix : (Instr.index 62 (.agg famCells) (.int .i64 0)).run Tryd.prog wr = .ok (.agg #[.int .i64 1, .int .i64 8, .int .i64 0, .bool false, .int .i64 128, .int .i64 0, .bool false]) wr := by kernel_rfl
        have R1 := Lib.hid (Blk.new wr 61 #[.int .i64 1, .int .i64 8, .int .i64 0, .bool false, .int .i64 128, .int .i64 0, .bool false])
        have BA := Lib.hid (HB.out.alloc HB.out.size (.cells #[.int .i64 1, .int .i64 8, .int .i64 0, .bool false, .int .i64 128, .int .i64 0, .bool false] 61))
        cases z with
        | true =>
          have KZ : Hid (kind p.typ p.code true = 1) := Lib.hid (by rw [← HK.out, HD.out]; rfl)
          go_wp2_with (refine Loads.wpList_load_w rfl 61 (.tmp 7) rfl wr.heap.size rfl 61 #[.int .i64 1, .int .i64 8, .int .i64 0, .bool false, .int .i64 128, .int .i64 0, .bool false] (0, 0) _ R1.out (Tryd.underlying61) rfl (by kernel_rfl) ?_)
          refine (S.out _).mono ?_
          rintro e w2 ⟨rfl, hb⟩
          have B2 := Lib.hid (BA.out.trans (hb.mono BA.out.size))
          have R2 := (R1.out.below hb R1.out.lt).cell 0
          clear hb
          go_wp2_with fail
          go_ret
          exact ⟨by rw [KZ.out]; rfl, B2.out⟩
        | false =>
          have KZ : Hid (firstOf p.typ p.code true (fams.drop 1) = kind p.typ p.code true) := Lib.hid (by rw [← HK.out, HD.out]; rfl)
          go_wp2_with (refine Loads.wpList_load_w rfl 61 (.tmp 7) rfl wr.heap.size rfl 61 #[.int .i64 1, .int .i64 8, .int .i64 0, .bool false, .int .i64 128, .int .i64 0, .bool false] (0, 0) _ R1.out (Tryd.underlying61) rfl (by kernel_rfl) ?_)
          refine (S.out _).mono ?_
          rintro e w2 ⟨rfl, hb⟩
          have B2 := Lib.hid (BA.out.trans (hb.mono BA.out.size))
          clear hb
          go_wp2_with fail
          go_roundw
          case rel => exact ⟨1, by go_num, by omega, KZ, B2⟩
          case measure => simp [intOf]
      · have S := Lib.hid (fun W => broad_any ⟨2, ⟨0, 0, false⟩, ⟨129, 0, false⟩⟩ p A n c W)
        have HD : Hid (firstOf p.typ p.code true (fams.drop 1) = if (Fm.at ⟨2, ⟨0, 0, false⟩, ⟨129, 0, false⟩⟩ true).fits p.typ p.code = true then 2 else firstOf p.typ p.code true (fams.drop 2)) := Lib.hid rfl
        generalize (Fm.at ⟨2, ⟨0, 0, false⟩, ⟨129, 0, false⟩⟩ true).fits p.typ p.code = z at *
        have hix : (Instr.index 62 (.agg famCells) (.int .i64 1)).run Tryd.prog wr = .ok (.agg #[.int .i64 2, .int .i64 0, .int .i64 0, .bool false, .int .i64 129, .int .i64 0, .bool false]) wr := by kernel_rfl
        have R1 := Lib.hid (Blk.new wr 61 #[.int .i64 2, .int .i64 0, .int .i64 0, .bool false, .int .i64 129, .int .i64 0, .bool false])
        have BA := Lib.hid (HB.out.alloc HB.out.size (.cells #[.int .i64 2, .int .i64 0, .int .i64 0, .bool false, .int .i64 129, .int .i64 0, .bool false] 61))
        cases z with
        | true =>
          have KZ : Hid (kind p.typ p.code true = 2) := Lib.hid (by rw [← HK.out, HD.out]; rfl)
          go_wp2_with (refine Loads.wpList_load_w rfl 61 (.tmp 7) rfl wr.heap.size rfl 61 #[.int .i64 2, .int .i64 0, .int .i64 0, .bool false, .int .i64 129, .int .i64 0, .bool false] (0, 0) _ R1.out (Tryd.underlying61) rfl (by kernel_rfl) ?_)
          refine (S.out _).mono ?_
          rintro e w2 ⟨rfl, hb⟩
          have B2 := Lib.hid (BA.out.trans (hb.mono BA.out.size))
          have R2 := (R1.out.below hb R1.out.lt).cell 0
          clear hb
          go_wp2_with fail
          go_ret
          exact ⟨by rw [KZ.out]; rfl, B2.out⟩
        | false =>
          have KZ : Hid (firstOf p.typ p.code true (fams.drop 2) = kind p.typ p.code true) := Lib.hid (by rw [← HK.out, HD.out]; rfl)
          go_wp2_with (refine Loads.wpList_load_w rfl 61 (.tmp 7) rfl wr.heap.size rfl 61 #[.int .i64 2, .int .i64 0, .int .i64 0, .bool false, .int .i64 129, .int .i64 0, .bool false] (0, 0) _ R1.out (Tryd.underlying61) rfl (by kernel_rfl) ?_)
          refine (S.out _).mono ?_
          rintro e w2 ⟨rfl, hb⟩
          have B2 := Lib.hid (BA.out.trans (hb.mono BA.out.size))
          clear hb
          go_wp2_with fail
          go_roundw
          case rel => exact ⟨2, by go_num, by omega, KZ, B2⟩
          case measure => simp [intOf]
      · have S := Lib.hid (fun W => broad_any ⟨4, ⟨3, 4, false⟩, ⟨2, 0, true⟩⟩ p A n c W)
        have HD : Hid (firstOf p.typ p.code true (fams.drop 2) = if (Fm.at ⟨4, ⟨3, 4, false⟩, ⟨2, 0, true⟩⟩ true).fits p.typ p.code = true then 4 else firstOf p.typ p.code true (fams.drop 3)) := Lib.hid rfl
        generalize (Fm.at ⟨4, ⟨3, 4, false⟩, ⟨2, 0, true⟩⟩ true).fits p.typ p.code = z at *
        have hix : (Instr.index 62 (.agg famCells) (.int .i64 2)).run Tryd.prog wr = .ok (.agg #[.int .i64 4, .int .i64 3, .int .i64 4, .bool false, .int .i64 2, .int .i64 0, .bool true]) wr := by kernel_rfl
        have R1 := Lib.hid (Blk.new wr 61 #[.int .i64 4, .int .i64 3, .int .i64 4, .bool false, .int .i64 2, .int .i64 0, .bool true])
        have BA := Lib.hid (HB.out.alloc HB.out.size (.cells #[.int .i64 4, .int .i64 3, .int .i64 4, .bool false, .int .i64 2, .int .i64 0, .bool true] 61))
        cases z with
        | true =>
          have KZ : Hid (kind p.typ p.code true = 4) := Lib.hid (by rw [← HK.out, HD.out]; rfl)
          go_wp2_with (refine Loads.wpList_load_w rfl 61 (.tmp 7) rfl wr.heap.size rfl 61 #[.int .i64 4, .int .i64 3, .int .i64 4, .bool false, .int .i64 2, .int .i64 0, .bool true] (0, 0) _ R1.out (Tryd.underlying61) rfl (by kernel_rfl) ?_)
          refine (S.out _).mono ?_
          rintro e w2 ⟨rfl, hb⟩
          have B2 := Lib.hid (BA.out.trans (hb.mono BA.out.size))
          have R2 := (R1.out.below hb R1.out.lt).cell 0
          clear hb
          go_wp2_with fail
          go_ret
          exact ⟨by rw [KZ.out]; rfl, B2.out⟩
        | false =>
          have KZ : Hid (firstOf p.typ p.code true (fams.drop 3) = kind p.typ p.code true) := Lib.hid (by rw [← HK.out, HD.out]; rfl)
          go_wp2_with (refine Loads.wpList_load_w rfl 61 (.tmp 7) rfl wr.heap.size rfl 61 #[.int .i64 4, .int .i64 3, .int .i64 4, .bool false, .int .i64 2, .int .i64 0, .bool true] (0, 0) _ R1.out (Tryd.underlying61) rfl (by kernel_rfl) ?_)
          refine (S.out _).mono ?_
          rintro e w2 ⟨rfl, hb⟩
          have B2 := Lib.hid (BA.out.trans (hb.mono BA.out.size))
          clear hb
          go_wp2_with fail
          go_roundw
          case rel => exact ⟨3, by go_num, by omega, KZ, B2⟩
          case measure => simp [intOf]
      · have S := Lib.hid (fun W => broad_any ⟨3, ⟨3, 1, true⟩, ⟨1, 0, true⟩⟩ p A n c W)
        have HD : Hid (firstOf p.typ p.code true (fams.drop 3) = if (Fm.at ⟨3, ⟨3, 1, true⟩, ⟨1, 0, true⟩⟩ true).fits p.typ p.code = true then 3 else firstOf p.typ p.code true (fams.drop 4)) := Lib.hid rfl
        generalize (Fm.at ⟨3, ⟨3, 1, true⟩, ⟨1, 0, true⟩⟩ true).fits p.typ p.code = z at *
        have hix : (Instr.index 62 (.agg famCells) (.int .i64 3)).run Tryd.prog wr = .ok (.agg #[.int .i64 3, .int .i64 3, .int .i64 1, .bool true, .int .i64 1, .int .i64 0, .bool true]) wr := by kernel_rfl
        have R1 := Lib.hid (Blk.new wr 61 #[.int .i64 3, .int .i64 3, .int .i64 1, .bool true, .int .i64 1, .int .i64 0, .bool true])
        have BA := Lib.hid (HB.out.alloc HB.out.size (.cells #[.int .i64 3, .int .i64 3, .int .i64 1, .bool true, .int .i64 1, .int .i64 0, .bool true] 61))
        cases z with
        | true =>
          have KZ : Hid (kind p.typ p.code true = 3) := Lib.hid (by rw [← HK.out, HD.out]; rfl)
          go_wp2_with (refine Loads.wpList_load_w rfl 61 (.tmp 7) rfl wr.heap.size rfl 61 #[.int .i64 3, .int .i64 3, .int .i64 1, .bool true, .int .i64 1, .int .i64 0, .bool true] (0, 0) _ R1.out (Tryd.underlying61) rfl (by kernel_rfl) ?_)
          refine (S.out _).mono ?_
          rintro e w2 ⟨rfl, hb⟩
          have B2 := Lib.hid (BA.out.trans (hb.mono BA.out.size))
          have R2 := (R1.out.below hb R1.out.lt).cell 0
          clear hb
          go_wp2_with fail
          go_ret
          exact ⟨by rw [KZ.out]; rfl, B2.out⟩
        | false =>
          have KZ : Hid (firstOf p.typ p.code true (fams.drop 4) = kind p.typ p.code true) := Lib.hid (by rw [← HK.out, HD.out]; rfl)
          go_wp2_with (refine Loads.wpList_load_w rfl 61 (.tmp 7) rfl wr.heap.size rfl 61 #[.int .i64 3, .int .i64 3, .int .i64 1, .bool true, .int .i64 1, .int .i64 0, .bool true] (0, 0) _ R1.out (Tryd.underlying61) rfl (by kernel_rfl) ?_)
          refine (S.out _).mono ?_
          rintro e w2 ⟨rfl, hb⟩
          have B2 := Lib.hid (BA.out.trans (hb.mono BA.out.size))
          clear hb
          go_wp2_with fail
          go_roundw
          case rel => exact ⟨4, by go_num, by omega, KZ, B2⟩
          case measure => simp [intOf]
      · have S := Lib.hid (fun W => broad_any ⟨5, ⟨11, 0, true⟩, ⟨3, 0, true⟩⟩ p A n c W)
        have HD : Hid (firstOf p.typ p.code true (fams.drop 4) = if (Fm.at ⟨5, ⟨11, 0, true⟩, ⟨3, 0, true⟩⟩ true).fits p.typ p.code = true then 5 else firstOf p.typ p.code true (fams.drop 5)) := Lib.hid rfl
        generalize (Fm.at ⟨5, ⟨11, 0, true⟩, ⟨3, 0, true⟩⟩ true).fits p.typ p.code = z at *
        have hix : (Instr.index 62 (.agg famCells) (.int .i64 4)).run Tryd.prog wr = .ok (.agg #[.int .i64 5, .int .i64 11, .int .i64 0, .bool true, .int .i64 3, .int .i64 0, .bool true]) wr := by kernel_rfl
        have R1 := Lib.hid (Blk.new wr 61 #[.int .i64 5, .int .i64 11, .int .i64 0, .bool true, .int .i64 3, .int .i64 0, .bool true])
        have BA := Lib.hid (HB.out.alloc HB.out.size (.cells #[.int .i64 5, .int .i64 11, .int .i64 0, .bool true, .int .i64 3, .int .i64 0, .bool true] 61))
        cases z with
        | true =>
          have KZ : Hid (kind p.typ p.code true = 5) := Lib.hid (by rw [← HK.out, HD.out]; rfl)
          go_wp2_with (refine Loads.wpList_load_w rfl 61 (.tmp 7) rfl wr.heap.size rfl 61 #[.int .i64 5, .int .i64 11, .int .i64 0, .bool true, .int .i64 3, .int .i64 0, .bool true] (0, 0) _ R1.out (Tryd.underlying61) rfl (by kernel_rfl) ?_)
          refine (S.out _).mono ?_
          rintro e w2 ⟨rfl, hb⟩
          have B2 := Lib.hid (BA.out.trans (hb.mono BA.out.size))
          have R2 := (R1.out.below hb R1.out.lt).cell 0
          clear hb
          go_wp2_with fail
          go_ret
          exact ⟨by rw [KZ.out]; rfl, B2.out⟩
        | false =>
          have KZ : Hid (firstOf p.typ p.code true (fams.drop 5) = kind p.typ p.code true) := Lib.hid (by rw [← HK.out, HD.out]; rfl)
          go_wp2_with (refine Loads.wpList_load_w rfl 61 (.tmp 7) rfl wr.heap.size rfl 61 #[.int .i64 5, .int .i64 11, .int .i64 0, .bool true, .int .i64 3, .int .i64 0, .bool true] (0, 0) _ R1.out (Tryd.underlying61) rfl (by kernel_rfl) ?_)
          refine (S.out _).mono ?_
          rintro e w2 ⟨rfl, hb⟩
          have B2 := Lib.hid (BA.out.trans (hb.mono BA.out.size))
          clear hb
          go_wp2_with fail
          go_roundw
          case rel => exact ⟨5, by go_num, by omega, KZ, B2⟩
          case measure => simp [intOf]
      · have S := Lib.hid (fun W => broad_any ⟨6, ⟨12, 0, true⟩, ⟨4, 0, true⟩⟩ p A n c W)
        have HD : Hid (firstOf p.typ p.code true (fams.drop 5) = if (Fm.at ⟨6, ⟨12, 0, true⟩, ⟨4, 0, true⟩⟩ true).fits p.typ p.code = true then 6 else firstOf p.typ p.code true (fams.drop 6)) := Lib.hid rfl
        generalize (Fm.at ⟨6, ⟨12, 0, true⟩, ⟨4, 0, true⟩⟩ true).fits p.typ p.code = z at *
        have hix : (Instr.index 62 (.agg famCells) (.int .i64 5)).run Tryd.prog wr = .ok (.agg #[.int .i64 6, .int .i64 12, .int .i64 0, .bool true, .int .i64 4, .int .i64 0, .bool true]) wr := by kernel_rfl
        have R1 := Lib.hid (Blk.new wr 61 #[.int .i64 6, .int .i64 12, .int .i64 0, .bool true, .int .i64 4, .int .i64 0, .bool true])
        have BA := Lib.hid (HB.out.alloc HB.out.size (.cells #[.int .i64 6, .int .i64 12, .int .i64 0, .bool true, .int .i64 4, .int .i64 0, .bool true] 61))
        cases z with
        | true =>
          have KZ : Hid (kind p.typ p.code true = 6) := Lib.hid (by rw [← HK.out, HD.out]; rfl)
          go_wp2_with (refine Loads.wpList_load_w rfl 61 (.tmp 7) rfl wr.heap.size rfl 61 #[.int .i64 6, .int .i64 12, .int .i64 0, .bool true, .int .i64 4, .int .i64 0, .bool true] (0, 0) _ R1.out (Tryd.underlying61) rfl (by kernel_rfl) ?_)
          refine (S.out _).mono ?_
          rintro e w2 ⟨rfl, hb⟩
          have B2 := Lib.hid (BA.out.trans (hb.mono BA.out.size))
          have R2 := (R1.out.below hb R1.out.lt).cell 0
          clear hb
          go_wp2_with fail
          go_ret
          exact ⟨by rw [KZ.out]; rfl, B2.out⟩
        | false =>
          have KZ : Hid (firstOf p.typ p.code true (fams.drop 6) = kind p.typ p.code true) := Lib.hid (by rw [← HK.out, HD.out]; rfl)
          go_wp2_with (refine Loads.wpList_load_w rfl 61 (.tmp 7) rfl wr.heap.size rfl 61 #[.int .i64 6, .int .i64 12, .int .i64 0, .bool true, .int .i64 4, .int .i64 0, .bool true] (0, 0) _ R1.out (Tryd.underlying61) rfl (by kernel_rfl) ?_)
          refine (S.out _).mono ?_
          rintro e w2 ⟨rfl, hb⟩
          have B2 := Lib.hid (BA.out.trans (hb.mono BA.out.size))
          clear hb
          go_wp2_with fail
          go_roundw
          case rel => exact ⟨6, by go_num, by omega, KZ, B2⟩
          case measure => simp [intOf]
    · obtain rfl : k = 6 := by omega
      have KZ : Hid (kind p.typ p.code true = 0) := Lib.hid (by rw [← HK.out]; rfl)
      go_wp2_with fail
      go_ret
      exact ⟨by rw [KZ.out]; rfl, HB.out⟩
theorem kind_any (p : Ic) (wide : Bool) (A : Option Addr) (n c : Nat) (w : World) (hf : Fam w) : Calls Tryd.prog 19 #[.agg #[.int .i64 p.typ, .int .i64 p.code, .int .i64 p.rest, .slice A n c], .bool wide] w fun e w' => e = .returned (.int .i64 (kind p.typ p.code wide)) ∧ Below w.heap.size w w' := by
  cases wide
  · exact kind_narrow p A n c w hf
  · exact kind_broad p A n c w hf
end Go.Proofs.YthmleabmklnmcaaDoor.Kind
