/- The contract of the code's lookOf. -/
import Derived.Test.YthmleabmklnmcaaDoorKind
set_option linter.unusedVariables false
namespace Go.Proofs.YthmleabmklnmcaaDoor.Look
open Go.RowKit Go.Sort Go.Proofs.YthmleabmklnmcaaDoor.Sums Go.Proofs.YthmleabmklnmcaaDoor.Words Go.Proofs.YthmleabmklnmcaaDoor.Mem Go.Proofs.YthmleabmklnmcaaDoor.Ahead Go.Proofs.YthmleabmklnmcaaDoor.IcmD Go.Proofs.YthmleabmklnmcaaDoor.Blk Go.Proofs.YthmleabmklnmcaaDoor.Bits Go.Proofs.YthmleabmklnmcaaDoor.InetSum Go.Proofs.YthmleabmklnmcaaDoor.Steps Go.Proofs.YthmleabmklnmcaaDoor.Free Go.Proofs.YthmleabmklnmcaaDoor.Cut
open Go.Proofs.YthmleabmklnmcaaDoor.Com Go.Proofs.YthmleabmklnmcaaDoor.Fam

def lkGo (k : Int) (w : Bool) : List Fm → Option Lk
  | [] => none
  | x :: r => if (x.k == k) = true then some (x.at w) else lkGo k w r
def lkOf (k : Int) (w : Bool) : Option Lk := lkGo k w fams
def lkCells : Option Lk → Array Value
  | some x => #[.int .i64 x.t, .int .i64 x.c, .bool x.o]
  | none => #[.int .i64 0, .int .i64 0, .bool false]
theorem lk_some {k : Int} (h : 1 ≤ k) (h2 : k ≤ 6) (w : Bool) : ∃ x, lkOf k w = some x ∧ x.t = (made k w).1 ∧ x.c = (made k w).2 := by
  rcases (show k = 1 ∨ k = 2 ∨ k = 3 ∨ k = 4 ∨ k = 5 ∨ k = 6 by omega) with rfl | rfl | rfl | rfl | rfl | rfl <;> cases w <;> exact ⟨_, rfl, rfl, rfl⟩
theorem lk_none {k : Int} (h : k < 1 ∨ 6 < k) (w : Bool) : lkOf k w = none := by
  have a : ∀ i : Int, 1 ≤ i → i ≤ 6 → (i == k) = false := fun i h1 h2 => by rw [beq_eq_false_iff_ne]; omega
  simp [lkOf, fams, lkGo, a]
theorem oneL (a b : Int) (c : Bool) : (#[.int .i64 a, .int .i64 b, .bool c] : Array Value).all (·.oneCell') = true := by simp [Value.oneCell']

set_option maxHeartbeats 1000000 in
set_option maxRecDepth 100000 in
theorem look_narrow (k : Int) (w : World) (hf : Fam w) : Calls Tryd.prog 33 #[.int .i64 k, .bool false] w fun e w' => e = .returned (.tuple #[.agg (lkCells (lkOf k false)), .bool (lkOf k false).isSome]) ∧ Below w.heap.size w w' := by
  have B0 := Lib.hid ((Below.refl w.heap.size w).alloc (Nat.le_refl _) (.cells #[.int .i64 0, .int .i64 0, .bool false] 54))
  have P0 := Lib.hid (Blk.new w 54 #[.int .i64 0, .int .i64 0, .bool false])
  have F0 := Lib.hid (hf.alloc (.cells #[.int .i64 0, .int .i64 0, .bool false] 54))
  have KE : Hid (lkGo k false (fams.drop 0) = lkOf k false) := Lib.hid rfl
  clear hf
  obtain ⟨R, hR⟩ : ∃ R, R = lkOf k false := ⟨_, rfl⟩
  rw [← hR] at KE ⊢
  clear hR
  obtain ⟨ft, fr, hfm⟩ := F0.out
  go_enter Tryd.func33, Tryd.ntmps33
  go_wp2_with (refine Loads.wpList_load_w rfl 62 _ rfl (0 : Nat) rfl ft famCells fr _ hfm (Tryd.underlying62) rfl (by kernel_rfl) ?_)
  go_loopw [9] (fun i wr => ∃ j : Nat, i = .int .i64 (j : Int) ∧ j ≤ 6 ∧ Hid (lkGo k false (fams.drop j) = R) ∧ Hid (Blk wr w.heap.size 54 #[.int .i64 0, .int .i64 0, .bool false]) ∧ Hid (Below w.heap.size w wr)) (fun i _ => 6 - (intOf i).toNat)
  case atStart => exact ⟨0, rfl, by omega, KE, P0, B0⟩
  case round =>
    obtain ⟨j, rfl, hj, HK, HP, HB⟩ := hrel
    clear hfm F0 B0 P0 KE
    by_cases hlt : j < 6
    · rcases (show j = 0 ∨ j = 1 ∨ j = 2 ∨ j = 3 ∨ j = 4 ∨ j = 5 by omega) with rfl | rfl | rfl | rfl | rfl | rfl
      · have HD : Hid (lkGo k false (fams.drop 0) = if ((1 : Int) == k) = true then some ⟨8, 0, false⟩ else lkGo k false (fams.drop 1)) := Lib.hid rfl
        have hix : (Instr.index 62 (.agg famCells) (.int .i64 0)).run Tryd.prog wr = .ok (.agg #[.int .i64 1, .int .i64 8, .int .i64 0, .bool false, .int .i64 128, .int .i64 0, .bool false]) wr := by kernel_rfl
        have R1 := Blk.new wr 61 #[.int .i64 1, .int .i64 8, .int .i64 0, .bool false, .int .i64 128, .int .i64 0, .bool false]
        have r0 := R1.cell 0
        have r1 := R1.cell 1
        have r2 := R1.cell 2
        have r3 := R1.cell 3
        have BA := Lib.hid (HB.out.alloc HB.out.size (.cells #[.int .i64 1, .int .i64 8, .int .i64 0, .bool false, .int .i64 128, .int .i64 0, .bool false] 61))
        have PA := Lib.hid (HP.out.alloc (.cells #[.int .i64 1, .int .i64 8, .int .i64 0, .bool false, .int .i64 128, .int .i64 0, .bool false] 61))
        clear R1
        cases hz : ((1 : Int) == k) with
        | true =>
          have KZ : Hid (R = some ⟨8, 0, false⟩) := Lib.hid (by rw [← HK.out, HD.out, hz]; rfl)
          go_wp2_with (refine wpList_store_row rfl 54 (.tmp 4) (.tmp _) rfl w.heap.size #[.int .i64 8, .int .i64 0, .bool false] rfl rfl 54 _ PA.out (by kernel_rfl) rfl (oneL _ _ _) ?_)
          exact bodyPost_ret (results_pair rfl _ _ w.heap.size 54 _ (0, 0) _ _ rfl rfl (setRow_heap _ _ _ _ _ _ PA.out) Tryd.underlying54 rfl (by kernel_rfl)) rfl ⟨by rw [KZ.out]; rfl, setRow_bel BA.out (Nat.le_refl _) _⟩
        | false =>
          have KZ : Hid (lkGo k false (fams.drop 1) = R) := Lib.hid (by rw [← HK.out, HD.out, hz]; rfl)
          go_wp2_with fail
          go_roundw
          case rel => exact ⟨1, by go_num, by omega, KZ, PA, BA⟩
          case measure => simp [intOf]
      · have HD : Hid (lkGo k false (fams.drop 1) = if ((2 : Int) == k) = true then some ⟨0, 0, false⟩ else lkGo k false (fams.drop 2)) := Lib.hid rfl
        have hix : (Instr.index 62 (.agg famCells) (.int .i64 1)).run Tryd.prog wr = .ok (.agg #[.int .i64 2, .int .i64 0, .int .i64 0, .bool false, .int .i64 129, .int .i64 0, .bool false]) wr := by kernel_rfl
        have R1 := Blk.new wr 61 #[.int .i64 2, .int .i64 0, .int .i64 0, .bool false, .int .i64 129, .int .i64 0, .bool false]
        have r0 := R1.cell 0
        have r1 := R1.cell 1
        have r2 := R1.cell 2
        have r3 := R1.cell 3
        have BA := Lib.hid (HB.out.alloc HB.out.size (.cells #[.int .i64 2, .int .i64 0, .int .i64 0, .bool false, .int .i64 129, .int .i64 0, .bool false] 61))
        have PA := Lib.hid (HP.out.alloc (.cells #[.int .i64 2, .int .i64 0, .int .i64 0, .bool false, .int .i64 129, .int .i64 0, .bool false] 61))
        clear R1
        cases hz : ((2 : Int) == k) with
        | true =>
          have KZ : Hid (R = some ⟨0, 0, false⟩) := Lib.hid (by rw [← HK.out, HD.out, hz]; rfl)
          go_wp2_with (refine wpList_store_row rfl 54 (.tmp 4) (.tmp _) rfl w.heap.size #[.int .i64 0, .int .i64 0, .bool false] rfl rfl 54 _ PA.out (by kernel_rfl) rfl (oneL _ _ _) ?_)
          exact bodyPost_ret (results_pair rfl _ _ w.heap.size 54 _ (0, 0) _ _ rfl rfl (setRow_heap _ _ _ _ _ _ PA.out) Tryd.underlying54 rfl (by kernel_rfl)) rfl ⟨by rw [KZ.out]; rfl, setRow_bel BA.out (Nat.le_refl _) _⟩
        | false =>
          have KZ : Hid (lkGo k false (fams.drop 2) = R) := Lib.hid (by rw [← HK.out, HD.out, hz]; rfl)
          go_wp2_with fail
          go_roundw
          case rel => exact ⟨2, by go_num, by omega, KZ, PA, BA⟩
          case measure => simp [intOf]
      · have HD : Hid (lkGo k false (fams.drop 2) = if ((4 : Int) == k) = true then some ⟨3, 4, false⟩ else lkGo k false (fams.drop 3)) := Lib.hid rfl
        have hix : (Instr.index 62 (.agg famCells) (.int .i64 2)).run Tryd.prog wr = .ok (.agg #[.int .i64 4, .int .i64 3, .int .i64 4, .bool false, .int .i64 2, .int .i64 0, .bool true]) wr := by kernel_rfl
        have R1 := Blk.new wr 61 #[.int .i64 4, .int .i64 3, .int .i64 4, .bool false, .int .i64 2, .int .i64 0, .bool true]
        have r0 := R1.cell 0
        have r1 := R1.cell 1
        have r2 := R1.cell 2
        have r3 := R1.cell 3
        have BA := Lib.hid (HB.out.alloc HB.out.size (.cells #[.int .i64 4, .int .i64 3, .int .i64 4, .bool false, .int .i64 2, .int .i64 0, .bool true] 61))
        have PA := Lib.hid (HP.out.alloc (.cells #[.int .i64 4, .int .i64 3, .int .i64 4, .bool false, .int .i64 2, .int .i64 0, .bool true] 61))
        clear R1
        cases hz : ((4 : Int) == k) with
        | true =>
          have KZ : Hid (R = some ⟨3, 4, false⟩) := Lib.hid (by rw [← HK.out, HD.out, hz]; rfl)
          go_wp2_with (refine wpList_store_row rfl 54 (.tmp 4) (.tmp _) rfl w.heap.size #[.int .i64 3, .int .i64 4, .bool false] rfl rfl 54 _ PA.out (by kernel_rfl) rfl (oneL _ _ _) ?_)
          exact bodyPost_ret (results_pair rfl _ _ w.heap.size 54 _ (0, 0) _ _ rfl rfl (setRow_heap _ _ _ _ _ _ PA.out) Tryd.underlying54 rfl (by kernel_rfl)) rfl ⟨by rw [KZ.out]; rfl, setRow_bel BA.out (Nat.le_refl _) _⟩
        | false =>
          have KZ : Hid (lkGo k false (fams.drop 3) = R) := Lib.hid (by rw [← HK.out, HD.out, hz]; rfl)
          go_wp2_with fail
          go_roundw
          case rel => exact ⟨3, by go_num, by omega, KZ, PA, BA⟩
          case measure => simp [intOf]
      · have HD : Hid (lkGo k false (fams.drop 3) = if ((3 : Int) == k) = true then some ⟨3, 1, true⟩ else lkGo k false (fams.drop 4)) := Lib.hid rfl
        have hix : (Instr.index 62 (.agg famCells) (.int .i64 3)).run Tryd.prog wr = .ok (.agg #[.int .i64 3, .int .i64 3, .int .i64 1, .bool true, .int .i64 1, .int .i64 0, .bool true]) wr := by kernel_rfl
        have R1 := Blk.new wr 61 #[.int .i64 3, .int .i64 3, .int .i64 1, .bool true, .int .i64 1, .int .i64 0, .bool true]
        have r0 := R1.cell 0
        have r1 := R1.cell 1
        have r2 := R1.cell 2
        have r3 := R1.cell 3
        have BA := Lib.hid (HB.out.alloc HB.out.size (.cells #[.int .i64 3, .int .i64 3, .int .i64 1, .bool true, .int .i64 1, .int .i64 0, .bool true] 61))
        have PA := Lib.hid (HP.out.alloc (.cells #[.int .i64 3, .int .i64 3, .int .i64 1, .bool true, .int .i64 1, .int .i64 0, .bool true] 61))
        clear R1
        cases hz : ((3 : Int) == k) with
        | true =>
          have KZ : Hid (R = some ⟨3, 1, true⟩) := Lib.hid (by rw [← HK.out, HD.out, hz]; rfl)
          go_wp2_with (refine wpList_store_row rfl 54 (.tmp 4) (.tmp _) rfl w.heap.size #[.int .i64 3, .int .i64 1, .bool true] rfl rfl 54 _ PA.out (by kernel_rfl) rfl (oneL _ _ _) ?_)
          exact bodyPost_ret (results_pair rfl _ _ w.heap.size 54 _ (0, 0) _ _ rfl rfl (setRow_heap _ _ _ _ _ _ PA.out) Tryd.underlying54 rfl (by kernel_rfl)) rfl ⟨by rw [KZ.out]; rfl, setRow_bel BA.out (Nat.le_refl _) _⟩
        | false =>
          have KZ : Hid (lkGo k false (fams.drop 4) = R) := Lib.hid (by rw [← HK.out, HD.out, hz]; rfl)
          go_wp2_with fail
          go_roundw
          case rel => exact ⟨4, by go_num, by omega, KZ, PA, BA⟩
          case measure => simp [intOf]
      · have HD : Hid (lkGo k false (fams.drop 4) = if ((5 : Int) == k) = true then some ⟨11, 0, true⟩ else lkGo k false (fams.drop 5)) := Lib.hid rfl
        have hix : (Instr.index 62 (.agg famCells) (.int .i64 4)).run Tryd.prog wr = .ok (.agg #[.int .i64 5, .int .i64 11, .int .i64 0, .bool true, .int .i64 3, .int .i64 0, .bool true]) wr := by kernel_rfl
        have R1 := Blk.new wr 61 #[.int .i64 5, .int .i64 11, .int .i64 0, .bool true, .int .i64 3, .int .i64 0, .bool true]
        have r0 := R1.cell 0
        have r1 := R1.cell 1
        have r2 := R1.cell 2
        have r3 := R1.cell 3
        have BA := Lib.hid (HB.out.alloc HB.out.size (.cells #[.int .i64 5, .int .i64 11, .int .i64 0, .bool true, .int .i64 3, .int .i64 0, .bool true] 61))
        have PA := Lib.hid (HP.out.alloc (.cells #[.int .i64 5, .int .i64 11, .int .i64 0, .bool true, .int .i64 3, .int .i64 0, .bool true] 61))
        clear R1
        cases hz : ((5 : Int) == k) with
        | true =>
          have KZ : Hid (R = some ⟨11, 0, true⟩) := Lib.hid (by rw [← HK.out, HD.out, hz]; rfl)
          go_wp2_with (refine wpList_store_row rfl 54 (.tmp 4) (.tmp _) rfl w.heap.size #[.int .i64 11, .int .i64 0, .bool true] rfl rfl 54 _ PA.out (by kernel_rfl) rfl (oneL _ _ _) ?_)
          exact bodyPost_ret (results_pair rfl _ _ w.heap.size 54 _ (0, 0) _ _ rfl rfl (setRow_heap _ _ _ _ _ _ PA.out) Tryd.underlying54 rfl (by kernel_rfl)) rfl ⟨by rw [KZ.out]; rfl, setRow_bel BA.out (Nat.le_refl _) _⟩
        | false =>
          have KZ : Hid (lkGo k false (fams.drop 5) = R) := Lib.hid (by rw [← HK.out, HD.out, hz]; rfl)
          go_wp2_with fail
          go_roundw
          case rel => exact ⟨5, by go_num, by omega, KZ, PA, BA⟩
          case measure => simp [intOf]
      · have HD : Hid (lkGo k false (fams.drop 5) = if ((6 : Int) == k) = true then some ⟨12, 0, true⟩ else lkGo k false (fams.drop 6)) := Lib.hid rfl
        have hix : (Instr.index 62 (.agg famCells) (.int .i64 5)).run Tryd.prog wr = .ok (.agg #[.int .i64 6, .int .i64 12, .int .i64 0, .bool true, .int .i64 4, .int .i64 0, .bool true]) wr := by kernel_rfl
        have R1 := Blk.new wr 61 #[.int .i64 6, .int .i64 12, .int .i64 0, .bool true, .int .i64 4, .int .i64 0, .bool true]
        have r0 := R1.cell 0
        have r1 := R1.cell 1
        have r2 := R1.cell 2
        have r3 := R1.cell 3
        have BA := Lib.hid (HB.out.alloc HB.out.size (.cells #[.int .i64 6, .int .i64 12, .int .i64 0, .bool true, .int .i64 4, .int .i64 0, .bool true] 61))
        have PA := Lib.hid (HP.out.alloc (.cells #[.int .i64 6, .int .i64 12, .int .i64 0, .bool true, .int .i64 4, .int .i64 0, .bool true] 61))
        clear R1
        cases hz : ((6 : Int) == k) with
        | true =>
          have KZ : Hid (R = some ⟨12, 0, true⟩) := Lib.hid (by rw [← HK.out, HD.out, hz]; rfl)
          go_wp2_with (refine wpList_store_row rfl 54 (.tmp 4) (.tmp _) rfl w.heap.size #[.int .i64 12, .int .i64 0, .bool true] rfl rfl 54 _ PA.out (by kernel_rfl) rfl (oneL _ _ _) ?_)
          exact bodyPost_ret (results_pair rfl _ _ w.heap.size 54 _ (0, 0) _ _ rfl rfl (setRow_heap _ _ _ _ _ _ PA.out) Tryd.underlying54 rfl (by kernel_rfl)) rfl ⟨by rw [KZ.out]; rfl, setRow_bel BA.out (Nat.le_refl _) _⟩
        | false =>
          have KZ : Hid (lkGo k false (fams.drop 6) = R) := Lib.hid (by rw [← HK.out, HD.out, hz]; rfl)
          go_wp2_with fail
          go_roundw
          case rel => exact ⟨6, by go_num, by omega, KZ, PA, BA⟩
          case measure => simp [intOf]
    · obtain rfl : j = 6 := by omega
      have KZ : Hid (R = none) := Lib.hid (by rw [← HK.out]; rfl)
      go_wp2_with (refine wpList_store_row rfl 54 (.tmp 4) (.tmp _) rfl w.heap.size #[.int .i64 0, .int .i64 0, .bool false] rfl rfl 54 _ HP.out (by kernel_rfl) rfl (oneL _ _ _) ?_)
      exact bodyPost_ret (results_pair rfl _ _ w.heap.size 54 _ (0, 0) _ _ rfl rfl (setRow_heap _ _ _ _ _ _ HP.out) Tryd.underlying54 rfl (by kernel_rfl)) rfl ⟨by rw [KZ.out]; rfl, setRow_bel HB.out (Nat.le_refl _) _⟩

set_option maxHeartbeats 1000000 in
set_option maxRecDepth 100000 in
theorem look_broad (k : Int) (w : World) (hf : Fam w) : Calls Tryd.prog 33 #[.int .i64 k, .bool true] w fun e w' => e = .returned (.tuple #[.agg (lkCells (lkOf k true)), .bool (lkOf k true).isSome]) ∧ Below w.heap.size w w' := by
  have B0 := Lib.hid ((Below.refl w.heap.size w).alloc (Nat.le_refl _) (.cells #[.int .i64 0, .int .i64 0, .bool false] 54))
  have P0 := Lib.hid (Blk.new w 54 #[.int .i64 0, .int .i64 0, .bool false])
  have F0 := Lib.hid (hf.alloc (.cells #[.int .i64 0, .int .i64 0, .bool false] 54))
  have KE : Hid (lkGo k true (fams.drop 0) = lkOf k true) := Lib.hid rfl
  clear hf
  obtain ⟨R, hR⟩ : ∃ R, R = lkOf k true := ⟨_, rfl⟩
  rw [← hR] at KE ⊢
  clear hR
  obtain ⟨ft, fr, hfm⟩ := F0.out
  go_enter Tryd.func33, Tryd.ntmps33
  go_wp2_with (refine Loads.wpList_load_w rfl 62 _ rfl (0 : Nat) rfl ft famCells fr _ hfm (Tryd.underlying62) rfl (by kernel_rfl) ?_)
  go_loopw [9] (fun i wr => ∃ j : Nat, i = .int .i64 (j : Int) ∧ j ≤ 6 ∧ Hid (lkGo k true (fams.drop j) = R) ∧ Hid (Blk wr w.heap.size 54 #[.int .i64 0, .int .i64 0, .bool false]) ∧ Hid (Below w.heap.size w wr)) (fun i _ => 6 - (intOf i).toNat)
  case atStart => exact ⟨0, rfl, by omega, KE, P0, B0⟩
  case round =>
    obtain ⟨j, rfl, hj, HK, HP, HB⟩ := hrel
    clear hfm F0 B0 P0 KE
    by_cases hlt : j < 6
    · rcases (show j = 0 ∨ j = 1 ∨ j = 2 ∨ j = 3 ∨ j = 4 ∨ j = 5 by omega) with rfl | rfl | rfl | rfl | rfl | rfl
      · have HD : Hid (lkGo k true (fams.drop 0) = if ((1 : Int) == k) = true then some ⟨128, 0, false⟩ else lkGo k true (fams.drop 1)) := Lib.hid rfl
        have hix : (Instr.index 62 (.agg famCells) (.int .i64 0)).run Tryd.prog wr = .ok (.agg #[.int .i64 1, .int .i64 8, .int .i64 0, .bool false, .int .i64 128, .int .i64 0, .bool false]) wr := by kernel_rfl
        have R1 := Blk.new wr 61 #[.int .i64 1, .int .i64 8, .int .i64 0, .bool false, .int .i64 128, .int .i64 0, .bool false]
        have r0 := R1.cell 0
        have r1 := R1.cell 4
        have r2 := R1.cell 5
        have r3 := R1.cell 6
        have BA := Lib.hid (HB.out.alloc HB.out.size (.cells #[.int .i64 1, .int .i64 8, .int .i64 0, .bool false, .int .i64 128, .int .i64 0, .bool false] 61))
        have PA := Lib.hid (HP.out.alloc (.cells #[.int .i64 1, .int .i64 8, .int .i64 0, .bool false, .int .i64 128, .int .i64 0, .bool false] 61))
        clear R1
        cases hz : ((1 : Int) == k) with
        | true =>
          have KZ : Hid (R = some ⟨128, 0, false⟩) := Lib.hid (by rw [← HK.out, HD.out, hz]; rfl)
          go_wp2_with (refine wpList_store_row rfl 54 (.tmp 4) (.tmp _) rfl w.heap.size #[.int .i64 128, .int .i64 0, .bool false] rfl rfl 54 _ PA.out (by kernel_rfl) rfl (oneL _ _ _) ?_)
          exact bodyPost_ret (results_pair rfl _ _ w.heap.size 54 _ (0, 0) _ _ rfl rfl (setRow_heap _ _ _ _ _ _ PA.out) Tryd.underlying54 rfl (by kernel_rfl)) rfl ⟨by rw [KZ.out]; rfl, setRow_bel BA.out (Nat.le_refl _) _⟩
        | false =>
          have KZ : Hid (lkGo k true (fams.drop 1) = R) := Lib.hid (by rw [← HK.out, HD.out, hz]; rfl)
          go_wp2_with fail
          go_roundw
          case rel => exact ⟨1, by go_num, by omega, KZ, PA, BA⟩
          case measure => simp [intOf]
      · have HD : Hid (lkGo k true (fams.drop 1) = if ((2 : Int) == k) = true then some ⟨129, 0, false⟩ else lkGo k true (fams.drop 2)) := Lib.hid rfl
        have hix : (Instr.index 62 (.agg famCells) (.int .i64 1)).run Tryd.prog wr = .ok (.agg #[.int .i64 2, .int .i64 0, .int .i64 0, .bool false, .int .i64 129, .int .i64 0, .bool false]) wr := by kernel_rfl
        have R1 := Blk.new wr 61 #[.int .i64 2, .int .i64 0, .int .i64 0, .bool false, .int .i64 129, .int .i64 0, .bool false]
        have r0 := R1.cell 0
        have r1 := R1.cell 4
        have r2 := R1.cell 5
        have r3 := R1.cell 6
        have BA := Lib.hid (HB.out.alloc HB.out.size (.cells #[.int .i64 2, .int .i64 0, .int .i64 0, .bool false, .int .i64 129, .int .i64 0, .bool false] 61))
        have PA := Lib.hid (HP.out.alloc (.cells #[.int .i64 2, .int .i64 0, .int .i64 0, .bool false, .int .i64 129, .int .i64 0, .bool false] 61))
        clear R1
        cases hz : ((2 : Int) == k) with
        | true =>
          have KZ : Hid (R = some ⟨129, 0, false⟩) := Lib.hid (by rw [← HK.out, HD.out, hz]; rfl)
          go_wp2_with (refine wpList_store_row rfl 54 (.tmp 4) (.tmp _) rfl w.heap.size #[.int .i64 129, .int .i64 0, .bool false] rfl rfl 54 _ PA.out (by kernel_rfl) rfl (oneL _ _ _) ?_)
          exact bodyPost_ret (results_pair rfl _ _ w.heap.size 54 _ (0, 0) _ _ rfl rfl (setRow_heap _ _ _ _ _ _ PA.out) Tryd.underlying54 rfl (by kernel_rfl)) rfl ⟨by rw [KZ.out]; rfl, setRow_bel BA.out (Nat.le_refl _) _⟩
        | false =>
          have KZ : Hid (lkGo k true (fams.drop 2) = R) := Lib.hid (by rw [← HK.out, HD.out, hz]; rfl)
          go_wp2_with fail
          go_roundw
          case rel => exact ⟨2, by go_num, by omega, KZ, PA, BA⟩
          case measure => simp [intOf]
      · have HD : Hid (lkGo k true (fams.drop 2) = if ((4 : Int) == k) = true then some ⟨2, 0, true⟩ else lkGo k true (fams.drop 3)) := Lib.hid rfl
        have hix : (Instr.index 62 (.agg famCells) (.int .i64 2)).run Tryd.prog wr = .ok (.agg #[.int .i64 4, .int .i64 3, .int .i64 4, .bool false, .int .i64 2, .int .i64 0, .bool true]) wr := by kernel_rfl
        have R1 := Blk.new wr 61 #[.int .i64 4, .int .i64 3, .int .i64 4, .bool false, .int .i64 2, .int .i64 0, .bool true]
        have r0 := R1.cell 0
        have r1 := R1.cell 4
        have r2 := R1.cell 5
        have r3 := R1.cell 6
        have BA := Lib.hid (HB.out.alloc HB.out.size (.cells #[.int .i64 4, .int .i64 3, .int .i64 4, .bool false, .int .i64 2, .int .i64 0, .bool true] 61))
        have PA := Lib.hid (HP.out.alloc (.cells #[.int .i64 4, .int .i64 3, .int .i64 4, .bool false, .int .i64 2, .int .i64 0, .bool true] 61))
        clear R1
        cases hz : ((4 : Int) == k) with
        | true =>
          have KZ : Hid (R = some ⟨2, 0, true⟩) := Lib.hid (by rw [← HK.out, HD.out, hz]; rfl)
          go_wp2_with (refine wpList_store_row rfl 54 (.tmp 4) (.tmp _) rfl w.heap.size #[.int .i64 2, .int .i64 0, .bool true] rfl rfl 54 _ PA.out (by kernel_rfl) rfl (oneL _ _ _) ?_)
          exact bodyPost_ret (results_pair rfl _ _ w.heap.size 54 _ (0, 0) _ _ rfl rfl (setRow_heap _ _ _ _ _ _ PA.out) Tryd.underlying54 rfl (by kernel_rfl)) rfl ⟨by rw [KZ.out]; rfl, setRow_bel BA.out (Nat.le_refl _) _⟩
        | false =>
          have KZ : Hid (lkGo k true (fams.drop 3) = R) := Lib.hid (by rw [← HK.out, HD.out, hz]; rfl)
          go_wp2_with fail
          go_roundw
          case rel => exact ⟨3, by go_num, by omega, KZ, PA, BA⟩
          case measure => simp [intOf]
      · have HD : Hid (lkGo k true (fams.drop 3) = if ((3 : Int) == k) = true then some ⟨1, 0, true⟩ else lkGo k true (fams.drop 4)) := Lib.hid rfl
        have hix : (Instr.index 62 (.agg famCells) (.int .i64 3)).run Tryd.prog wr = .ok (.agg #[.int .i64 3, .int .i64 3, .int .i64 1, .bool true, .int .i64 1, .int .i64 0, .bool true]) wr := by kernel_rfl
        have R1 := Blk.new wr 61 #[.int .i64 3, .int .i64 3, .int .i64 1, .bool true, .int .i64 1, .int .i64 0, .bool true]
        have r0 := R1.cell 0
        have r1 := R1.cell 4
        have r2 := R1.cell 5
        have r3 := R1.cell 6
        have BA := Lib.hid (HB.out.alloc HB.out.size (.cells #[.int .i64 3, .int .i64 3, .int .i64 1, .bool true, .int .i64 1, .int .i64 0, .bool true] 61))
        have PA := Lib.hid (HP.out.alloc (.cells #[.int .i64 3, .int .i64 3, .int .i64 1, .bool true, .int .i64 1, .int .i64 0, .bool true] 61))
        clear R1
        cases hz : ((3 : Int) == k) with
        | true =>
          have KZ : Hid (R = some ⟨1, 0, true⟩) := Lib.hid (by rw [← HK.out, HD.out, hz]; rfl)
          go_wp2_with (refine wpList_store_row rfl 54 (.tmp 4) (.tmp _) rfl w.heap.size #[.int .i64 1, .int .i64 0, .bool true] rfl rfl 54 _ PA.out (by kernel_rfl) rfl (oneL _ _ _) ?_)
          exact bodyPost_ret (results_pair rfl _ _ w.heap.size 54 _ (0, 0) _ _ rfl rfl (setRow_heap _ _ _ _ _ _ PA.out) Tryd.underlying54 rfl (by kernel_rfl)) rfl ⟨by rw [KZ.out]; rfl, setRow_bel BA.out (Nat.le_refl _) _⟩
        | false =>
          have KZ : Hid (lkGo k true (fams.drop 4) = R) := Lib.hid (by rw [← HK.out, HD.out, hz]; rfl)
          go_wp2_with fail
          go_roundw
          case rel => exact ⟨4, by go_num, by omega, KZ, PA, BA⟩
          case measure => simp [intOf]
      · have HD : Hid (lkGo k true (fams.drop 4) = if ((5 : Int) == k) = true then some ⟨3, 0, true⟩ else lkGo k true (fams.drop 5)) := Lib.hid rfl
        have hix : (Instr.index 62 (.agg famCells) (.int .i64 4)).run Tryd.prog wr = .ok (.agg #[.int .i64 5, .int .i64 11, .int .i64 0, .bool true, .int .i64 3, .int .i64 0, .bool true]) wr := by kernel_rfl
        have R1 := Blk.new wr 61 #[.int .i64 5, .int .i64 11, .int .i64 0, .bool true, .int .i64 3, .int .i64 0, .bool true]
        have r0 := R1.cell 0
        have r1 := R1.cell 4
        have r2 := R1.cell 5
        have r3 := R1.cell 6
        have BA := Lib.hid (HB.out.alloc HB.out.size (.cells #[.int .i64 5, .int .i64 11, .int .i64 0, .bool true, .int .i64 3, .int .i64 0, .bool true] 61))
        have PA := Lib.hid (HP.out.alloc (.cells #[.int .i64 5, .int .i64 11, .int .i64 0, .bool true, .int .i64 3, .int .i64 0, .bool true] 61))
        clear R1
        cases hz : ((5 : Int) == k) with
        | true =>
          have KZ : Hid (R = some ⟨3, 0, true⟩) := Lib.hid (by rw [← HK.out, HD.out, hz]; rfl)
          go_wp2_with (refine wpList_store_row rfl 54 (.tmp 4) (.tmp _) rfl w.heap.size #[.int .i64 3, .int .i64 0, .bool true] rfl rfl 54 _ PA.out (by kernel_rfl) rfl (oneL _ _ _) ?_)
          exact bodyPost_ret (results_pair rfl _ _ w.heap.size 54 _ (0, 0) _ _ rfl rfl (setRow_heap _ _ _ _ _ _ PA.out) Tryd.underlying54 rfl (by kernel_rfl)) rfl ⟨by rw [KZ.out]; rfl, setRow_bel BA.out (Nat.le_refl _) _⟩
        | false =>
          have KZ : Hid (lkGo k true (fams.drop 5) = R) := Lib.hid (by rw [← HK.out, HD.out, hz]; rfl)
          go_wp2_with fail
          go_roundw
          case rel => exact ⟨5, by go_num, by omega, KZ, PA, BA⟩
          case measure => simp [intOf]
      · have HD : Hid (lkGo k true (fams.drop 5) = if ((6 : Int) == k) = true then some ⟨4, 0, true⟩ else lkGo k true (fams.drop 6)) := Lib.hid rfl
        have hix : (Instr.index 62 (.agg famCells) (.int .i64 5)).run Tryd.prog wr = .ok (.agg #[.int .i64 6, .int .i64 12, .int .i64 0, .bool true, .int .i64 4, .int .i64 0, .bool true]) wr := by kernel_rfl
        have R1 := Blk.new wr 61 #[.int .i64 6, .int .i64 12, .int .i64 0, .bool true, .int .i64 4, .int .i64 0, .bool true]
        have r0 := R1.cell 0
        have r1 := R1.cell 4
        have r2 := R1.cell 5
        have r3 := R1.cell 6
        have BA := Lib.hid (HB.out.alloc HB.out.size (.cells #[.int .i64 6, .int .i64 12, .int .i64 0, .bool true, .int .i64 4, .int .i64 0, .bool true] 61))
        have PA := Lib.hid (HP.out.alloc (.cells #[.int .i64 6, .int .i64 12, .int .i64 0, .bool true, .int .i64 4, .int .i64 0, .bool true] 61))
        clear R1
        cases hz : ((6 : Int) == k) with
        | true =>
          have KZ : Hid (R = some ⟨4, 0, true⟩) := Lib.hid (by rw [← HK.out, HD.out, hz]; rfl)
          go_wp2_with (refine wpList_store_row rfl 54 (.tmp 4) (.tmp _) rfl w.heap.size #[.int .i64 4, .int .i64 0, .bool true] rfl rfl 54 _ PA.out (by kernel_rfl) rfl (oneL _ _ _) ?_)
          exact bodyPost_ret (results_pair rfl _ _ w.heap.size 54 _ (0, 0) _ _ rfl rfl (setRow_heap _ _ _ _ _ _ PA.out) Tryd.underlying54 rfl (by kernel_rfl)) rfl ⟨by rw [KZ.out]; rfl, setRow_bel BA.out (Nat.le_refl _) _⟩
        | false =>
          have KZ : Hid (lkGo k true (fams.drop 6) = R) := Lib.hid (by rw [← HK.out, HD.out, hz]; rfl)
          go_wp2_with fail
          go_roundw
          case rel => exact ⟨6, by go_num, by omega, KZ, PA, BA⟩
          case measure => simp [intOf]
    · obtain rfl : j = 6 := by omega
      have KZ : Hid (R = none) := Lib.hid (by rw [← HK.out]; rfl)
      go_wp2_with (refine wpList_store_row rfl 54 (.tmp 4) (.tmp _) rfl w.heap.size #[.int .i64 0, .int .i64 0, .bool false] rfl rfl 54 _ HP.out (by kernel_rfl) rfl (oneL _ _ _) ?_)
      exact bodyPost_ret (results_pair rfl _ _ w.heap.size 54 _ (0, 0) _ _ rfl rfl (setRow_heap _ _ _ _ _ _ HP.out) Tryd.underlying54 rfl (by kernel_rfl)) rfl ⟨by rw [KZ.out]; rfl, setRow_bel HB.out (Nat.le_refl _) _⟩
theorem look_any (k : Int) (wide : Bool) (w : World) (hf : Fam w) : Calls Tryd.prog 33 #[.int .i64 k, .bool wide] w fun e w' => e = .returned (.tuple #[.agg (lkCells (lkOf k wide)), .bool (lkOf k wide).isSome]) ∧ Below w.heap.size w w' := by
  cases wide
  · exact look_narrow k w hf
  · exact look_broad k w hf
end Go.Proofs.YthmleabmklnmcaaDoor.Look
