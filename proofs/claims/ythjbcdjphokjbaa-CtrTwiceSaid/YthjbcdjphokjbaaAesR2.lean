/- Contracts of the document: Box, May, Table, with. -/
import Derived.Test.YthjbcdjphokjbaaAesR
import Derived.Lib.QuietBelow
import Derived.BigQuiet
import Derived.Deep.QuietTactic
set_option linter.unusedVariables false
namespace Go.Proofs.Ythjbcdjphokjbaa.AesR2
open Go.RowKit Go.Proofs.Ythjbcdjphokjbaa.Sums Go.Proofs.Ythjbcdjphokjbaa.Mem Go.Proofs.Ythjbcdjphokjbaa.Blk Go.Proofs.Ythjbcdjphokjbaa.Bits3 Go.Proofs.Ythjbcdjphokjbaa.Ints Go.Proofs.Ythjbcdjphokjbaa.AesF Go.Proofs.Ythjbcdjphokjbaa.AesB Go.Proofs.Ythjbcdjphokjbaa.AesR

theorem inv_lt {x : Nat} (hx : x < 256) : inv x < 256 := by
  have : ∀ x : Fin 256, inv x.val < 256 := by decide +kernel
  exact this ⟨x, hx⟩
theorem rotl_lt {b : Nat} (h : b < 256) : rotl b < 512 := by unfold rotl; omega
theorem rotl_byte {b : Nat} (h : b < 256) : rotl b < 256 := by
  have : ∀ x : Fin 256, rotl x.val < 256 := by decide +kernel
  exact this ⟨b, h⟩

set_option maxHeartbeats 1000000 in
theorem box_ref (x : Nat) (hx : x < 256) (w : World) : Calls Try.prog 33 #[.int .i64 (x : Int)] w fun e w' => e = .returned (.int .i64 ((Box x : Nat) : Int)) ∧ w = w' := by
  have E : Hid (bgo 4 (inv x) (inv x ^^^ 99) = Box x) := Lib.hid rfl
  have C := Lib.hid (inverse_ref x hx w)
  have BI := Lib.hid (inv_lt hx)
  obtain ⟨t, ht⟩ : ∃ t, t = Box x := ⟨_, rfl⟩
  rw [← ht] at E ⊢
  obtain ⟨v, hv⟩ : ∃ v, v = inv x := ⟨_, rfl⟩
  rw [← hv] at E C BI
  have f0 : bits .xor .i64 (v : Int) 99 = ((v ^^^ 99 : Nat) : Int) := i64_xor (b := 99) (by have := BI.out; omega) (by omega)
  have BN := Lib.hid (xor_lt BI.out (show 99 < 256 by decide))
  obtain ⟨n0, hn0⟩ : ∃ n0, n0 = v ^^^ 99 := ⟨_, rfl⟩
  rw [← hn0] at E f0 BN
  clear ht hv hn0 hx
  go_enter Try.func33, Try.ntmps33
  go_wp2_with fail
  refine C.out.mono ?_
  rintro e w' ⟨rfl, rfl⟩
  go_wp2_with fail
  clear f0 C
  go_loopw [3, 4, 5] (fun bv nv kv wr => ∃ j b n : Nat, kv = .int .i64 ((j : Int) + 1) ∧ bv = .int .i64 (b : Int) ∧ nv = .int .i64 (n : Int) ∧ j ≤ 4 ∧ Hid (b < 256) ∧ Hid (n < 256) ∧ Hid (bgo (4 - j) b n = t) ∧ Hid (wr = w)) (fun _ _ kv _ => 8 - (intOf kv).toNat)
  case atStart => exact ⟨0, v, n0, rfl, rfl, rfl, by omega, BI, BN, E, Lib.hid rfl⟩
  case round =>
    obtain ⟨j, b, n, rfl, rfl, rfl, hj, BP, BN2, HE, HW⟩ := hrel
    obtain rfl := HW.out
    clear E BI BN
    by_cases hlt : j < 4
    · have HE2 : Hid (bgo (4 - (j + 1)) (rotl b) (n ^^^ rotl b) = t) := Lib.hid (by
        rw [← HE.out, show 4 - j = (4 - (j + 1)) + 1 by omega]; rfl)
      have bb := BP.out
      have bn := BN2.out
      have BR := rotl_byte bb
      have BX := Lib.hid (xor_lt bn BR)
      have RB : rotl b = b * 2 % 256 + b / 128 := rfl
      obtain ⟨r, hr⟩ : ∃ r, r = rotl b := ⟨_, rfl⟩
      rw [← hr] at HE2 BR BX RB
      have f1 : IntKind.i64.wrap ((b : Int) * 2) = (b : Int) * 2 := IntWalk.i64_in _ (by omega)
      have f2 : ((b : Int) * 2).tmod 256 = (b : Int) * 2 % 256 := Int.tmod_eq_emod_of_nonneg (by omega)
      have f3 : (b : Int).tdiv 128 = (b : Int) / 128 := Int.tdiv_eq_ediv_of_nonneg (by omega)
      have f4 : IntKind.i64.wrap ((b : Int) / 128) = (b : Int) / 128 := IntWalk.i64_in _ (by omega)
      have f5 : IntKind.i64.wrap ((b : Int) * 2 % 256 + (b : Int) / 128) = (r : Int) := by rw [IntWalk.i64_in _ (by omega)]; omega
      have f6 : bits .xor .i64 (n : Int) (r : Int) = ((n ^^^ r : Nat) : Int) := i64_xor (by omega) (by omega)
      have BRH := Lib.hid BR
      obtain ⟨nx, hnx⟩ : ∃ nx, nx = n ^^^ r := ⟨_, rfl⟩
      rw [← hnx] at f6 HE2 BX
      have g1 : ((j : Int) + 1 ≤ 4) = True := eq_true (by omega)
      have g2 : IntKind.i64.wrap ((j : Int) + 1 + 1) = ((j + 1 : Nat) : Int) + 1 := by rw [IntWalk.i64_in _ (by omega)]; omega
      clear hr hnx HE RB BR bb bn
      go_wp2_with fail
      go_roundw
      case rel => exact ⟨j + 1, r, nx, by go_num, rfl, rfl, by omega, BRH, BX, HE2, Lib.hid (by trivial)⟩
      case measure => simp [intOf]; omega
    · obtain rfl : j = 4 := by omega
      have HF : n = t := HE.out
      subst HF
      clear HE
      go_wp2_with fail
      go_ret
      exact ⟨rfl, rfl⟩

def mayB (n : Nat) : Bool := decide (n = 16) || decide (n = 32)
theorem may_ref (A : Option Addr) (n c : Nat) (w : World) (hn : n ≤ 140737488355328) : Calls Try.prog 21 #[.slice A n c] w fun e w' => e = .returned (.bool (mayB n)) ∧ w = w' := by
  by_cases h : n = 16
  · subst h
    go_enter Try.func21, Try.ntmps21
    go_wp2_with fail
    go_ret
    exact ⟨rfl, rfl⟩
  · by_cases h2 : n = 32
    · subst h2
      go_enter Try.func21, Try.ntmps21
      go_wp2_with fail
      go_ret
      exact ⟨rfl, rfl⟩
    · have F : Hid (mayB n = false) := Lib.hid (by simp [mayB, h, h2])
      have g1 : ((n : Int) == 16) = false := by rw [beq_eq_false_iff_ne]; omega
      have g2 : ((n : Int) == 32) = false := by rw [beq_eq_false_iff_ne]; omega
      clear h h2
      go_enter Try.func21, Try.ntmps21
      go_wp2_with fail
      go_ret
      exact ⟨by rw [F.out]; rfl, rfl⟩

/-- All of Box. -/
def boxes : List Nat := (List.range 256).map Box
theorem boxes_len : boxes.length = 256 := by simp [boxes]
theorem boxes_get {x : Nat} (h : x < 256) : boxes.getD x 0 = Box x := by
  rw [List.getD_eq_getElem?_getD, boxes, List.getElem?_map, List.getElem?_range h]
  rfl

set_option maxHeartbeats 1000000 in
set_option maxRecDepth 100000 in
theorem table_ref (w : World) : Calls Try.prog 23 #[] w fun e w' => e = .returned (.slice (some ⟨w.heap.size, 0, none⟩) 256 256) ∧ IRow w' w.heap.size boxes ∧ Below w.heap.size w w' := by
  have hmk : (Instr.makeSlice 45 (.int .i64 256) (.int .i64 256)).run Try.prog w = .ok (.slice (some ⟨w.heap.size, 0, none⟩) 256 256) (w.alloc (.cells (icells (List.replicate 256 0)) 3)) := make_i 256 (by decide) w
  obtain ⟨Z, hZ⟩ : ∃ Z, Z = List.replicate 256 0 := ⟨_, rfl⟩
  have HZ : Hid (fil Box 256 0 = Z) := Lib.hid (by rw [fil_zero, hZ])
  rw [← hZ] at hmk
  clear hZ
  have R0 : Hid (IRow (w.alloc (.cells (icells Z) 3)) w.heap.size (fil Box 256 0)) := Lib.hid (by rw [HZ.out]; exact IRow.new w _)
  have B0 := Lib.hid ((Below.refl w.heap.size w).alloc (Nat.le_refl _) (.cells (icells Z) 3))
  go_enter Try.func23, Try.ntmps23
  go_wp2_with fail
  clear hmk
  generalize w.alloc (.cells (icells Z) 3) = w1 at *
  go_loopw [2] (fun kv wr => ∃ j : Nat, kv = .int .i64 (j : Int) ∧ j ≤ 256 ∧ Hid (IRow wr w.heap.size (fil Box 256 j)) ∧ Hid (Below w.heap.size w wr)) (fun kv _ => 256 - (intOf kv).toNat)
  case atStart => exact ⟨0, rfl, by omega, R0, B0⟩
  case round =>
    obtain ⟨j, rfl, hj, HR, HB⟩ := hrel
    clear R0 B0
    by_cases hlt : j < 256
    · have C := Lib.hid (box_ref j hlt wr)
      have c0 := HR.out.cell j (by rw [fil_len]; exact hlt)
      have f0 := HR.out.free j
      have R2 : Hid (IRow (wr.setCell ⟨w.heap.size, j, none⟩ (.int .i64 ((Box j : Nat) : Int))) w.heap.size (fil Box 256 (j + 1))) := Lib.hid (by have := HR.out.put j (Box j); rwa [fil_set] at this)
      have B2 := Lib.hid (HB.out.setCell (p := ⟨w.heap.size, j, none⟩) (Nat.le_refl _) (.int .i64 ((Box j : Nat) : Int)))
      generalize Box j = bj at *
      generalize (fil Box 256 j).getD j 0 = old at *
      clear HR HB
      go_wp2_with fail
      refine C.out.mono ?_
      rintro e w' ⟨rfl, rfl⟩
      go_wp2_with fail
      go_roundw
      case rel => exact ⟨j + 1, by go_num, by omega, R2, B2⟩
      case measure => simp [intOf]; omega
    · obtain rfl : j = 256 := by omega
      have RF : Hid (IRow wr w.heap.size boxes) := Lib.hid (by have := HR.out; rwa [fil_full] at this)
      go_wp2_with fail
      go_ret
      exact ⟨rfl, RF.out, HB.out⟩
end Go.Proofs.Ythjbcdjphokjbaa.AesR2
