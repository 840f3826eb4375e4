/- The contract of the code's Words; an array's place by value. -/
import Derived.Test.YtbcfeecdmkcngaaDoorDig2
set_option linter.unusedVariables false
namespace Go.Proofs.YtbcfeecdmkcngaaDoor.Dig3
open Go.RowKit Go.PlainAid Go.Proofs.YtbcfeecdmkcngaaDoor.Sums Go.Proofs.YtbcfeecdmkcngaaDoor.Mem Go.Proofs.YtbcfeecdmkcngaaDoor.Blk Go.Proofs.YtbcfeecdmkcngaaDoor.Bits Go.Proofs.YtbcfeecdmkcngaaDoor.Bits3 Go.Proofs.YtbcfeecdmkcngaaDoor.Ints Go.Proofs.YtbcfeecdmkcngaaDoor.IntsO Go.Proofs.YtbcfeecdmkcngaaDoor.ShaD Go.Proofs.YtbcfeecdmkcngaaDoor.Dig1 Go.Proofs.YtbcfeecdmkcngaaDoor.OpsU Go.Proofs.YtbcfeecdmkcngaaDoor.Dig2

theorem run_index_u {ty : TypeId} {n : Nat} (hu : Tryd.prog.underlying ty = some (.array n 39)) {l : List Nat} {j : Nat} (hl : l.length = n) (hj : j < n) (w : World) :
    (Instr.index ty (.agg (ucells l)) (.int .i64 (j : Int))).run Tryd.prog w = .ok (.int .u32 ((l.getD j 0 : Nat) : Int)) w := by
  obtain ⟨inf, hif, _, hsz, _⟩ := info_parts u32_info
  have hg := ucells_get l j (by omega)
  have h1 : (0 : Int) ≤ (j : Int) ∧ (j : Int) < (n : Int) := by omega
  have ha : (isAgg 39).run Tryd.prog w = .ok false w := by kernel_rfl
  simp [Instr.index, run_underlying hu, asIntOf, sizeOf, typeInfo, hif, hsz, hj, part, ha, hg, Result.andThen]

theorem words_bad (A : Option Addr) (n c : Nat) (w : World) (hn : n ≠ 64) (h3 : n ≤ 140737488355328) :
    Calls Tryd.prog 8 #[.slice A n c] w fun e w' => e = .returned (.tuple #[.slice none 0 0, .int .i64 1]) ∧ w = w' := by
  have g : ((n : Int) != 64) = true := by rw [bne_iff_ne]; omega
  clear hn
  go_enter Tryd.func8, Tryd.ntmps8
  go_wp2_with fail
  go_ret2
  exact ⟨rfl, rfl⟩

set_option maxHeartbeats 1000000 in
set_option maxRecDepth 100000 in
theorem words_ok (A : Option Addr) (c : Nat) (bs : List Int) (w : World) (B : Nat) (h : Holds w B A 64 c bs) (hB : B ≤ w.heap.size) :
    Calls Tryd.prog 8 #[.slice A 64 c] w fun e w' => ∃ v, e = .returned (.tuple #[v, .int .i64 0]) ∧ IOwn w' w.heap.size v (words (nats bs)) ∧ Below w.heap.size w w' := by
  have WM := Lib.hid (fun i => getD_M (words_lt (nats_lt fun z hz => h.2.2.2.1 z hz)) i)
  have WL := words_len (nats bs)
  obtain ⟨f, hf⟩ : ∃ f : Nat → Nat, f = fun i => (words (nats bs)).getD i 0 := ⟨_, rfl⟩
  have FI := Lib.hid (fun i => congrFun hf i)
  have WA := words_all (nats bs)
  rw [← hf] at WA
  have mk : ∀ W : World, (Instr.makeSlice 22 (.int .i64 64) (.int .i64 64)).run Tryd.prog W = .ok (.slice (some ⟨W.heap.size, 0, none⟩) 64 64) (W.alloc (.cells (icells (List.replicate 64 0)) 3)) := fun W => make_i 64 (by decide) W
  have R0 : Hid (IRow (w.alloc (.cells (icells (List.replicate 64 0)) 3)) w.heap.size (fil f 64 0)) := Lib.hid (by rw [fil_zero]; exact IRow.new w _)
  obtain ⟨Z, hZ⟩ : ∃ Z, Z = icells (List.replicate 64 0) := ⟨_, rfl⟩
  rw [← hZ] at mk R0
  have B0 := Lib.hid ((Below.refl w.heap.size w).alloc (Nat.le_refl _) (.cells Z 3))
  have C := Lib.hid (scheduled_no A c bs (w.alloc (.cells Z 3)) w.heap.size (h.below ((Below.refl w.heap.size w).alloc (Nat.le_refl _) (.cells Z 3) |>.mono hB) |>.more hB) (by simp))
  obtain ⟨WW, hWW⟩ : ∃ WW, WW = words (nats bs) := ⟨_, rfl⟩
  rw [← hWW] at WA WM FI C WL ⊢
  have WAH := Lib.hid WA
  clear h hf hWW WA hZ
  go_enter Tryd.func8, Tryd.ntmps8
  go_wp2_with fail
  refine C.out.mono ?_
  rintro e w2 ⟨rfl, hb⟩
  have R1 := Lib.hid (R0.out.up hb)
  have B1 := Lib.hid (B0.out.trans (hb.mono B0.out.size))
  have IX := Lib.hid (fun (j : Nat) (hj : j < 64) (W : World) => run_index_u (ty := 41) Tryd.underlying41 WL hj W)
  generalize ucells WW = cW at *
  clear hb R0 B0 mk
  go_wp2_with fail
  go_loopw [13] (fun kv wr => ∃ j : Nat, kv = .int .i64 (j : Int) ∧ j ≤ 64 ∧ Hid (IRow wr w.heap.size (fil f 64 j)) ∧ Hid (Below w.heap.size w wr)) (fun kv _ => 64 - (intOf kv).toNat)
  case atStart => exact ⟨0, rfl, by omega, R1, B1⟩
  case round =>
    obtain ⟨j, rfl, hj, HR, HB⟩ := hrel
    clear R1 B1
    by_cases hlt : j < 64
    · have ix := IX.out j hlt wr
      have c0 := HR.out.cell j (by rw [fil_len]; exact hlt)
      have f0 := HR.out.free j
      have R2 : Hid (IRow (wr.setCell ⟨w.heap.size, j, none⟩ (.int .i64 ((f j : Nat) : Int))) w.heap.size (fil f 64 (j + 1))) := Lib.hid (by have := HR.out.put j (f j); rwa [fil_set] at this)
      have B2 := Lib.hid (HB.out.setCell (p := ⟨w.heap.size, j, none⟩) (Nat.le_refl _) (.int .i64 ((f j : Nat) : Int)))
      have M1 := WM.out j
      have FJ := FI.out j
      rw [← FJ] at ix M1
      unfold M at M1
      generalize (fil f 64 j).getD j 0 = old at *
      generalize f j = y at *
      have f1 : IntKind.i64.wrap (y : Int) = (y : Int) := IntWalk.i64_in _ (by omega)
      clear FJ HR HB
      go_wp2_with fail
      go_roundw
      case rel => exact ⟨j + 1, by go_num, by omega, R2, B2⟩
      case measure => simp [intOf]; omega
    · obtain rfl : j = 64 := by omega
      have OF : Hid (IOwn wr w.heap.size (.slice (some ⟨w.heap.size, 0, none⟩) 64 64) WW) := Lib.hid (by
        have := IOwn.of_row HR.out (Nat.le_refl _) (by rw [fil_len]; decide)
        rw [fil_len, fil_full, WAH.out] at this
        exact this)
      have BF := HB
      clear HR HB
      go_wp2_with fail
      go_ret2
      exact ⟨_, rfl, OF.out, BF.out⟩
end Go.Proofs.YtbcfeecdmkcngaaDoor.Dig3
