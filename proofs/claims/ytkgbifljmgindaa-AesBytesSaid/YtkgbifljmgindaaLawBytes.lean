/- The laws AesBytes and AesField: their walks, for any bytes. -/
import Derived.Test.YtkgbifljmgindaaAesA
import Derived.Test.YtkgbifljmgindaaAesR2
set_option linter.unusedVariables false
namespace Go.Proofs.Ytkgbifljmgindaa.LawBytes
open Go.RowKit Go.Proofs.Ytkgbifljmgindaa.Sums Go.Proofs.Ytkgbifljmgindaa.Mem Go.Proofs.Ytkgbifljmgindaa.Blk Go.Proofs.Ytkgbifljmgindaa.Bits3 Go.Proofs.Ytkgbifljmgindaa.Ints Go.Proofs.Ytkgbifljmgindaa.AesF Go.Proofs.Ytkgbifljmgindaa.AesB Go.Proofs.Ytkgbifljmgindaa.AesR Go.Proofs.Ytkgbifljmgindaa.AesR2 Go.Proofs.Ytkgbifljmgindaa.Aes1 Go.Proofs.Ytkgbifljmgindaa.Aes3 Go.Proofs.Ytkgbifljmgindaa.AesA

theorem conv_i (x : Nat) (h : x < 256) : IntKind.i64.wrap (x : Int) = (x : Int) := IntWalk.i64_in _ (by omega)

set_option maxHeartbeats 1000000 in
theorem bytes_nat (x y : Nat) (hx : x < 256) (hy : y < 256) (w : World) : Calls Try.prog 3 #[.int .u8 (x : Int), .int .u8 (y : Int)] w fun e w' => e = .returned (.bool true) ∧ Below w.heap.size w w' := by
  have A := Lib.hid (awake_any w)
  have C1 := Lib.hid (fun W => box_no x hx W)
  have C2 := Lib.hid (fun W => box_ref x hx W)
  have C3 := Lib.hid (fun W => times_no x y hx hy W)
  have C4 := Lib.hid (fun W => times_ref x y hx hy W)
  have vx := conv_i x hx
  have vy := conv_i y hy
  have vb := conv_i _ (Box_lt hx)
  have vt := conv_i _ (T_lt hx y)
  generalize Box x = b at *
  generalize T x y = t at *
  clear hx hy
  go_enter Try.func3, Try.ntmps3
  go_wp2_with fail
  refine A.out.mono ?_
  rintro e w1 ⟨rfl, hb1⟩
  go_wp2_with fail
  refine (C1.out _).mono ?_
  rintro e w2 ⟨rfl, hb2⟩
  go_wp2_with fail
  refine (C2.out _).mono ?_
  rintro e w' ⟨rfl, rfl⟩
  go_wp2_with fail
  refine (C3.out _).mono ?_
  rintro e w' ⟨rfl, rfl⟩
  go_wp2_with fail
  refine (C4.out _).mono ?_
  rintro e w' ⟨rfl, rfl⟩
  go_wp2_with fail
  go_ret
  exact ⟨rfl, hb1.trans (hb2.mono hb1.size)⟩
theorem bytes_any (x y : Int) (hx : 0 ≤ x ∧ x ≤ 255) (hy : 0 ≤ y ∧ y ≤ 255) (w : World) : Calls Try.prog 3 #[.int .u8 x, .int .u8 y] w fun e w' => e = .returned (.bool true) ∧ Below w.heap.size w w' := by
  obtain ⟨a, rfl⟩ : ∃ a : Nat, x = (a : Int) := ⟨x.toNat, by omega⟩
  obtain ⟨b, rfl⟩ : ∃ b : Nat, y = (b : Int) := ⟨y.toNat, by omega⟩
  exact bytes_nat a b (by omega) (by omega) w

set_option maxHeartbeats 1000000 in
theorem field_nat (x y z : Nat) (hx : x < 256) (hy : y < 256) (hz : z < 256) (w : World) : Calls Try.prog 5 #[.int .u8 (x : Int), .int .u8 (y : Int), .int .u8 (z : Int)] w fun e w' => e = .returned (.bool true) ∧ Below w.heap.size w w' := by
  have A := Lib.hid (awake_any w)
  have lyz := xor_lt hy hz
  have txy := T_lt hx y
  have txz := T_lt hx z
  have tyz := T_lt hy z
  have C1 := Lib.hid (fun W => times_no x y hx hy W)
  have C2 := Lib.hid (fun W => times_no y x hy hx W)
  rw [T_comm hy hx] at C2
  have C3 := Lib.hid (fun W => times_no x 1 hx (by decide) W)
  rw [T_one hx] at C3
  have C4 := Lib.hid (fun W => times_no x (y ^^^ z) hx lyz W)
  rw [T_right] at C4
  have C5 := Lib.hid (fun W => times_no x z hx hz W)
  have C6 := Lib.hid (fun W => times_no y z hy hz W)
  have C7 := Lib.hid (fun W => times_no x (T y z) hx tyz W)
  have C8 := Lib.hid (fun W => times_no (T x y) z txy hz W)
  rw [← T_assoc hx hy hz] at C8
  have e1 : bits .xor .u8 (y : Int) (z : Int) = ((y ^^^ z : Nat) : Int) := Bits3.u8_xor hy hz
  have e2 : bits .xor .u8 ((T x y : Nat) : Int) ((T x z : Nat) : Int) = ((T x y ^^^ T x z : Nat) : Int) := Bits3.u8_xor txy txz
  generalize T x (T y z) = v at *
  generalize T x y ^^^ T x z = s at *
  generalize T x y = t1 at *
  generalize T x z = t2 at *
  generalize T y z = t3 at *
  generalize y ^^^ z = q at *
  clear hx hy hz lyz txy txz tyz
  go_enter Try.func5, Try.ntmps5
  go_wp2_with fail
  refine A.out.mono ?_
  rintro e w1 ⟨rfl, hb1⟩
  go_wp2_with fail
  refine (C1.out _).mono ?_
  rintro e w' ⟨rfl, rfl⟩
  go_wp2_with fail
  refine (C2.out _).mono ?_
  rintro e w' ⟨rfl, rfl⟩
  go_wp2_with fail
  refine (C3.out _).mono ?_
  rintro e w' ⟨rfl, rfl⟩
  go_wp2_with fail
  refine (C4.out _).mono ?_
  rintro e w' ⟨rfl, rfl⟩
  go_wp2_with fail
  refine (C1.out _).mono ?_
  rintro e w' ⟨rfl, rfl⟩
  go_wp2_with fail
  refine (C5.out _).mono ?_
  rintro e w' ⟨rfl, rfl⟩
  go_wp2_with fail
  refine (C6.out _).mono ?_
  rintro e w' ⟨rfl, rfl⟩
  go_wp2_with fail
  refine (C7.out _).mono ?_
  rintro e w' ⟨rfl, rfl⟩
  go_wp2_with fail
  refine (C1.out _).mono ?_
  rintro e w' ⟨rfl, rfl⟩
  go_wp2_with fail
  refine (C8.out _).mono ?_
  rintro e w' ⟨rfl, rfl⟩
  go_wp2_with fail
  go_ret
  exact ⟨rfl, hb1⟩
theorem field_any (x y z : Int) (hx : 0 ≤ x ∧ x ≤ 255) (hy : 0 ≤ y ∧ y ≤ 255) (hz : 0 ≤ z ∧ z ≤ 255) (w : World) : Calls Try.prog 5 #[.int .u8 x, .int .u8 y, .int .u8 z] w fun e w' => e = .returned (.bool true) ∧ Below w.heap.size w w' := by
  obtain ⟨a, rfl⟩ : ∃ a : Nat, x = (a : Int) := ⟨x.toNat, by omega⟩
  obtain ⟨b, rfl⟩ : ∃ b : Nat, y = (b : Int) := ⟨y.toNat, by omega⟩
  obtain ⟨c, rfl⟩ : ∃ c : Nat, z = (c : Int) := ⟨z.toNat, by omega⟩
  exact field_nat a b c (by omega) (by omega) (by omega) w
end Go.Proofs.Ytkgbifljmgindaa.LawBytes
