/- Contracts of the document: with. -/
import Derived.Test.YthjbcdjphokjbaaAesR2
set_option linter.unusedVariables false
namespace Go.Proofs.Ythjbcdjphokjbaa.AesR3
open Go.RowKit Go.Proofs.Ythjbcdjphokjbaa.Sums Go.Proofs.Ythjbcdjphokjbaa.Mem Go.Proofs.Ythjbcdjphokjbaa.Blk Go.Proofs.Ythjbcdjphokjbaa.Bits3 Go.Proofs.Ythjbcdjphokjbaa.Ints Go.Proofs.Ythjbcdjphokjbaa.AesF Go.Proofs.Ythjbcdjphokjbaa.AesB Go.Proofs.Ythjbcdjphokjbaa.AesR Go.Proofs.Ythjbcdjphokjbaa.AesR2

theorem nats_byt {l : List Int} (h : Bytes l) : Byt (nats l) := nats_lt (fun z hz => h z hz)

set_option maxHeartbeats 2000000 in
set_option maxRecDepth 100000 in
theorem with_ref (gb : Nat) (b : List Nat) (A : Option Addr) (n c : Nat) (ks : List Int) (w : World) (B : Nat) (hb : IRow w gb b) (h16 : b.length = 16) (hB1 : Byt b) (h : Holds w B A n c ks) (hB : B ≤ w.heap.size) (hn : 16 ≤ n) :
    Calls Try.prog 34 #[.slice (some ⟨gb, 0, none⟩) 16 16, .slice A n c] w fun e w' => e = .returned (.slice (some ⟨w.heap.size, 0, none⟩) 16 16) ∧ IRow w' w.heap.size (wth b (nats ks)) ∧ Below w.heap.size w w' := by
  obtain ⟨q, p, rfl, _⟩ := h.2.2.2.2 (by omega)
  have hm := h.2.2.1
  have hnc := h.2.1
  unfold maxLen at hm
  have KB := nats_byt h.2.2.2.1
  obtain ⟨f, hf⟩ : ∃ f : Nat → Nat, f = fun i => b.getD i 0 ^^^ (nats ks).getD i 0 := ⟨_, rfl⟩
  have FW : Hid (wth b (nats ks) = fil f 16 16) := Lib.hid (by rw [fil_full, hf]; rfl)
  have FI : Hid (∀ i, f i = b.getD i 0 ^^^ (nats ks).getD i 0) := Lib.hid fun i => by rw [hf]
  have HBb := Lib.hid hb
  have HK := Lib.hid h
  have H16 := Lib.hid h16
  have NB := Lib.hid (fun i => nats_getD h.2.2.2.1 i)
  have hmk : (Instr.makeSlice 45 (.int .i64 16) (.int .i64 16)).run Try.prog w = .ok (.slice (some ⟨w.heap.size, 0, none⟩) 16 16) (w.alloc (.cells (icells (List.replicate 16 0)) 3)) := make_i 16 (by decide) w
  obtain ⟨Z, hZ⟩ : ∃ Z, Z = List.replicate 16 0 := ⟨_, rfl⟩
  have HZ : Hid (fil f 16 0 = Z) := Lib.hid (by rw [fil_zero, hZ])
  rw [← hZ] at hmk
  have R0 : Hid (IRow (w.alloc (.cells (icells Z) 3)) w.heap.size (fil f 16 0)) := Lib.hid (by rw [HZ.out]; exact IRow.new w _)
  have B0 := Lib.hid ((Below.refl w.heap.size w).alloc (Nat.le_refl _) (.cells (icells Z) 3))
  clear hZ hf h hb h16
  go_enter Try.func34, Try.ntmps34
  go_wp2_with fail
  clear hmk
  generalize w.alloc (.cells (icells Z) 3) = w1 at *
  go_loopw [6] (fun kv wr => ∃ j : Nat, kv = .int .i64 (j : Int) ∧ j ≤ 16 ∧ Hid (IRow wr w.heap.size (fil f 16 j)) ∧ Hid (Below w.heap.size w wr)) (fun kv _ => 16 - (intOf kv).toNat)
  case atStart => exact ⟨0, rfl, by omega, R0, B0⟩
  case round =>
    obtain ⟨j, rfl, hj, HR, HB⟩ := hrel
    clear R0 B0
    by_cases hlt : j < 16
    · have c0 := HR.out.cell j (by rw [fil_len]; exact hlt)
      have f0 := HR.out.free j
      have x0 := (HBb.out.up HB.out).cell j (by rw [H16.out]; exact hlt)
      have y0 := cell_getD (HK.out.below (HB.out.mono hB)) j (by omega)
      rw [NB.out j] at y0
      have bx := hB1.get j
      have by0 := KB.get j
      have FJ := FI.out j
      have jn : j < n := by omega
      have R2 : Hid (IRow (wr.setCell ⟨w.heap.size, j, none⟩ (.int .i64 ((f j : Nat) : Int))) w.heap.size (fil f 16 (j + 1))) := Lib.hid (by have := HR.out.put j (f j); rwa [fil_set] at this)
      have B2 := Lib.hid (HB.out.setCell (p := ⟨w.heap.size, j, none⟩) (Nat.le_refl _) (.int .i64 ((f j : Nat) : Int)))
      generalize (fil f 16 j).getD j 0 = old at *
      generalize f j = fj at *
      generalize b.getD j 0 = x at *
      generalize (nats ks).getD j 0 = y at *
      have e1 : bits .xor .i64 (x : Int) (y : Int) = (fj : Int) := by rw [i64_xor (by omega) (by omega), FJ]
      have e2 : IntKind.i64.wrap (y : Int) = (y : Int) := IntWalk.i64_in _ (by omega)
      clear FJ HR HB
      go_wp2_with fail
      go_region
      go_wp2_with fail
      go_roundw
      case rel => exact ⟨j + 1, by go_num, by omega, R2, Lib.hid (below_drewN B2.out 1)⟩
      case measure => simp [intOf]; omega
    · obtain rfl : j = 16 := by omega
      have RF : Hid (IRow wr w.heap.size (wth b (nats ks))) := Lib.hid (by rw [FW.out]; exact HR.out)
      go_wp2_with fail
      go_ret
      exact ⟨rfl, RF.out, HB.out⟩
end Go.Proofs.Ythjbcdjphokjbaa.AesR3
