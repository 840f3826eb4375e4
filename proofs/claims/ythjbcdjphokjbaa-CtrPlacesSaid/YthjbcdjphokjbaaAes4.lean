/- Contracts of the code: a word turned; a block whose rows are turned. -/
import Derived.Test.YthjbcdjphokjbaaAes3
set_option linter.unusedVariables false
namespace Go.Proofs.Ythjbcdjphokjbaa.Aes4
open Go.RowKit Go.PlainAid Go.Proofs.Ythjbcdjphokjbaa.Sums Go.Proofs.Ythjbcdjphokjbaa.Mem Go.Proofs.Ythjbcdjphokjbaa.Blk Go.Proofs.Ythjbcdjphokjbaa.Bits3 Go.Proofs.Ythjbcdjphokjbaa.Ints Go.Proofs.Ythjbcdjphokjbaa.AesF Go.Proofs.Ythjbcdjphokjbaa.AesB Go.Proofs.Ythjbcdjphokjbaa.AesR2 Go.Proofs.Ythjbcdjphokjbaa.AesR3 Go.Proofs.Ythjbcdjphokjbaa.Aes1 Go.Proofs.Ythjbcdjphokjbaa.Aes2 Go.Proofs.Ythjbcdjphokjbaa.Aes3

set_option maxHeartbeats 1000000 in
set_option maxRecDepth 100000 in
theorem wturned (a b c d : Nat) (w : World) : Calls Try.prog 29 #[.agg (bcells [a, b, c, d])] w fun e w' => e = .returned (.agg (bcells [b, c, d, a])) ∧ Below w.heap.size w w' := by
  have N := ARow.new2 w 52 52 [a, b, c, d] (List.replicate 4 0)
  have c0 := N.1.cell 0 (by simp)
  have c1 := N.1.cell 1 (by simp)
  have c2 := N.1.cell 2 (by simp)
  have c3 := N.1.cell 3 (by simp)
  simp only [List.getD_cons_zero, List.getD_cons_succ] at c0 c1 c2 c3
  have S0 := N.2.1
  have B0 := Lib.hid N.2.2
  have hz : ∀ v : World, (zeroValue 52).run Try.prog v = .ok (.agg (bcells (List.replicate 4 0))) v := zero_4
  have SZ : (bcells (List.replicate 4 0)).size = 4 := by rw [bcells_size, List.length_replicate]
  have ST : ((((((bcells (List.replicate 4 0)).setIfInBounds 0 (.int .u8 (b : Int))).setIfInBounds 1 (.int .u8 (c : Int))).setIfInBounds 2 (.int .u8 (d : Int))).setIfInBounds 3 (.int .u8 (a : Int))) = bcells [b, c, d, a]) := rfl
  obtain ⟨cZ, hcZ⟩ : ∃ cZ, cZ = bcells (List.replicate 4 0) := ⟨_, rfl⟩
  have hne : (cZ = #[]) = False := by rw [hcZ]; exact bcells_ne (by decide)
  unfold ARow at S0
  rw [← hcZ] at S0 hz SZ ST c0 c1 c2 c3 B0
  obtain ⟨cl, hcl⟩ : ∃ cl, cl = bcells [a, b, c, d] := ⟨_, rfl⟩
  rw [← hcl] at S0 c0 c1 c2 c3 B0 ⊢
  have sR : (bcells [b, c, d, a]).size = 4 := rfl
  have oR := bcells_one [b, c, d, a]
  obtain ⟨cR, hcR⟩ : ∃ cR, cR = bcells [b, c, d, a] := ⟨_, rfl⟩
  rw [← hcR] at sR oR ST ⊢
  clear N hcZ hcl hcR
  go_enter Try.func29, Try.ntmps29
  go_wp2_with (first
    | (refine wpList_store_row rfl _ _ _ rfl (w.heap.size + 1) cR rfl rfl 52 _ S0 (by rw [sR]; kernel_rfl) (by rw [sR, SZ]) oR ?_))
  exact bodyPost_ret (results_cell_row rfl _ _ (w.heap.size + 1) 52 cR (0, 0) _ rfl (setRow_heap _ _ _ _ _ _ S0) Try.underlying52 rfl (by rw [sR]; kernel_rfl)) rfl ⟨rfl, below_setRow B0.out (by omega)⟩

/-- Three blocks made. -/
theorem ARow.new3 (w : World) (t : TypeId) (l m n : List Nat) : ARow (((w.alloc (.cells (bcells l) t)).alloc (.cells (bcells m) t)).alloc (.cells (bcells n) t)) w.heap.size t l ∧ ARow (((w.alloc (.cells (bcells l) t)).alloc (.cells (bcells m) t)).alloc (.cells (bcells n) t)) (w.heap.size + 1) t m ∧ ARow (((w.alloc (.cells (bcells l) t)).alloc (.cells (bcells m) t)).alloc (.cells (bcells n) t)) (w.heap.size + 2) t n ∧ Below w.heap.size w (((w.alloc (.cells (bcells l) t)).alloc (.cells (bcells m) t)).alloc (.cells (bcells n) t)) := by
  have N := ARow.new2 w t t l m
  have M := ARow.new ((w.alloc (.cells (bcells l) t)).alloc (.cells (bcells m) t)) t n
  rw [show ((w.alloc (.cells (bcells l) t)).alloc (.cells (bcells m) t)).heap.size = w.heap.size + 2 by simp] at M
  exact ⟨N.1.alloc _, N.2.1.alloc _, M, N.2.2.alloc (by simp; omega) _⟩

set_option maxHeartbeats 1000000 in
set_option maxRecDepth 100000 in
/-- Each row turned. -/
theorem bshifted (l : List Nat) (hn : l.length = 16) (w : World) :
    Calls Try.prog 37 #[.agg (bcells l)] w fun e w' => e = .returned (.agg (bcells ((List.range 16).map fun i => l.getD (src i) 0))) ∧ Below w.heap.size w w' := by
  obtain ⟨f, hf⟩ : ∃ f : Nat → Nat, f = fun i => l.getD (src i) 0 := ⟨_, rfl⟩
  have FI := Lib.hid (fun i => congrFun hf i)
  have L16 := Lib.hid hn
  rw [← hf]
  have hz : ∀ v : World, (zeroValue 59).run Try.prog v = .ok (.agg (bcells (List.replicate 16 0))) v := zero_16
  have N := ARow.new3 w 59 l (List.replicate 16 0) (List.replicate 16 0)
  have SZ : (bcells (List.replicate 16 0)).size = 16 := by rw [bcells_size, List.length_replicate]
  obtain ⟨Z, hZ⟩ : ∃ Z, Z = List.replicate 16 0 := ⟨_, rfl⟩
  rw [← hZ] at hz N SZ
  have FZ : Z = fil f 16 0 := by rw [fil_zero, hZ]
  have L0 := Lib.hid N.1
  have S0 := Lib.hid N.2.1
  have R0 : Hid (ARow (((w.alloc (.cells (bcells l) 59)).alloc (.cells (bcells Z) 59)).alloc (.cells (bcells Z) 59)) (w.heap.size + 2) 59 (fil f 16 0)) := Lib.hid (by rw [← FZ]; exact N.2.2.1)
  have B0 := Lib.hid N.2.2.2
  clear N hZ hf hn FZ
  go_enter Try.func37, Try.ntmps37
  go_wp2_with fail
  clear hz
  generalize ((w.alloc (.cells (bcells l) 59)).alloc (.cells (bcells Z) 59)).alloc (.cells (bcells Z) 59) = w1 at *
  go_loopw [5] (fun kv wr => ∃ j : Nat, kv = .int .i64 (j : Int) ∧ j ≤ 16 ∧ Hid (ARow wr w.heap.size 59 l) ∧ Hid (ARow wr (w.heap.size + 1) 59 Z) ∧ Hid (ARow wr (w.heap.size + 2) 59 (fil f 16 j)) ∧ Hid (Below w.heap.size w wr)) (fun kv _ => 16 - (intOf kv).toNat)
  case atStart => exact ⟨0, rfl, by omega, L0, S0, R0, B0⟩
  case round =>
    obtain ⟨j, rfl, hj, HL, HS, HR, HB⟩ := hrel
    clear L0 S0 R0 B0
    by_cases hlt : j < 16
    · have c0 := HR.out.cell j (by rw [fil_len]; exact hlt)
      have f0 := HR.out.free j
      have hs : src j < 16 := by unfold src; omega
      have hsd : src j = (j + 4 * (j % 4)) % 16 := by unfold src; omega
      have x0 := HL.out.cell (src j) (by rw [L16.out]; exact hs)
      have FJ := FI.out j
      have LN : Hid (ARow (wr.setCell ⟨w.heap.size + 2, j, none⟩ (.int .u8 ((f j : Nat) : Int))) w.heap.size 59 l) := Lib.hid (HL.out.far (p := ⟨w.heap.size + 2, j, none⟩) (by simp) _)
      have SN : Hid (ARow (wr.setCell ⟨w.heap.size + 2, j, none⟩ (.int .u8 ((f j : Nat) : Int))) (w.heap.size + 1) 59 Z) := Lib.hid (HS.out.far (p := ⟨w.heap.size + 2, j, none⟩) (by simp) _)
      have RN : Hid (ARow (wr.setCell ⟨w.heap.size + 2, j, none⟩ (.int .u8 ((f j : Nat) : Int))) (w.heap.size + 2) 59 (fil f 16 (j + 1))) := Lib.hid (by have := HR.out.put j (f j); rwa [fil_set] at this)
      have BN := Lib.hid (HB.out.setCell (p := ⟨w.heap.size + 2, j, none⟩) (by simp) (.int .u8 ((f j : Nat) : Int)))
      rw [FJ] at LN SN RN BN
      obtain ⟨s, hsv⟩ : ∃ s, s = src j := ⟨_, rfl⟩
      rw [← hsv] at hs hsd x0 LN SN RN BN
      generalize (fil f 16 j).getD j 0 = old at *
      generalize l.getD s 0 = x at *
      have e1 : (j : Int).tmod 4 = (j : Int) % 4 := Int.tmod_eq_emod_of_nonneg (by omega)
      have e2 : IntKind.i64.wrap (4 * ((j : Int) % 4)) = 4 * ((j : Int) % 4) := IntWalk.i64_in _ (by omega)
      have e3 : IntKind.i64.wrap ((j : Int) + 4 * ((j : Int) % 4)) = (j : Int) + 4 * ((j : Int) % 4) := IntWalk.i64_in _ (by omega)
      have e4 : ((j : Int) + 4 * ((j : Int) % 4)).tmod 16 = (s : Int) := by rw [Int.tmod_eq_emod_of_nonneg (by omega)]; omega
      clear FJ HR HL HS HB hsd hsv
      go_wp2_with fail
      go_roundw
      case rel => exact ⟨j + 1, by go_num, by omega, LN, SN, RN, BN⟩
      case measure => simp [intOf]; omega
    · obtain rfl : j = 16 := by omega
      have RF : ARow wr (w.heap.size + 2) 59 ((List.range 16).map f) := by have := HR.out; rwa [fil_full] at this
      have SF := HS.out
      have sz : (bcells ((List.range 16).map f)).size = 16 := by simp [bcells]
      have one := bcells_one ((List.range 16).map f)
      obtain ⟨cR, hcR⟩ : ∃ cR, cR = bcells ((List.range 16).map f) := ⟨_, rfl⟩
      have CE := Lib.hid hcR
      have BF := Lib.hid HB.out
      clear HR HL HS HB hlt hj FI L16
      unfold ARow at RF SF
      rw [← hcR] at RF sz one
      clear hcR
      generalize bcells Z = cZ at *
      go_wp2_with (first
        | (refine wpList_load_row rfl _ _ rfl (w.heap.size + 2) rfl 59 cR (0, 0) _ RF (Try.underlying59) rfl (by rw [sz]; kernel_rfl) ?_)
        | (refine wpList_store_row rfl _ _ _ rfl (w.heap.size + 1) cR rfl rfl 59 _ SF (by rw [sz]; kernel_rfl) (by rw [sz, SZ]) one ?_))
      exact bodyPost_ret (results_cell_row rfl _ _ (w.heap.size + 1) 59 cR (0, 0) _ rfl (setRow_heap _ _ _ _ _ _ SF) Try.underlying59 rfl (by rw [sz]; kernel_rfl)) rfl ⟨by rw [CE.out], below_setRow BF.out (by omega)⟩

end Go.Proofs.Ythjbcdjphokjbaa.Aes4
