/- Contracts: Two, Four of the document's words. -/
import Derived.Test.YtjfieoleoodfdaaHdr6
set_option linter.unusedVariables false
namespace Go.Proofs.Ytjfieoleoodfdaa.Four6
open Go.RowKit Go.Proofs.Ytjfieoleoodfdaa.Sums Go.Proofs.Ytjfieoleoodfdaa.Mem Go.Proofs.Ytjfieoleoodfdaa.P6 Go.Proofs.Ytjfieoleoodfdaa.Blk

theorem two_any (z : Int) (w : World) (z0 : 0 ≤ z) (z1 : z ≤ 65535) :
    Calls Try.prog 30 #[.int .i64 z] w fun e w' => ∃ A, e = .returned (.slice A 2 2) ∧ Holds w' w'.heap.size A 2 2 [z / 256, z % 256] ∧ Below w.heap.size w w' := by
  have e1 : z.tdiv 256 = z / 256 := Int.tdiv_eq_ediv_of_nonneg z0
  have e2 : z.tmod 256 = z % 256 := Int.tmod_eq_emod_of_nonneg z0
  have e3 : IntKind.u8.wrap (z / 256) = z / 256 := by rw [IntKind.wrap_u8]; omega
  have e4 : IntKind.u8.wrap (z % 256) = z % 256 := by rw [IntKind.wrap_u8]; omega
  have HL := Lib.hid (Holds.lit w [z / 256, z % 256] #[.int .u8 (z / 256), .int .u8 (z % 256)] rfl (by simp [maxLen]) (fun y hy => by simp at hy; omega))
  go_enter Try.func30, Try.ntmps30
  go_wp2_with fail
  go_ret
  exact ⟨_, rfl, by simpa using HL.out, (Below.refl _ _).alloc (Nat.le_refl _) _⟩
theorem four_any (z : Int) (w : World) (z0 : 0 ≤ z) (z1 : z ≤ 4294967295) :
    Calls Try.prog 29 #[.int .i64 z] w fun e w' => ∃ A, e = .returned (.slice A 4 4) ∧ Holds w' w'.heap.size A 4 4 [z / 16777216, z / 65536 % 256, z / 256 % 256, z % 256] ∧ Below w.heap.size w w' := by
  have e1 : z.tdiv 16777216 = z / 16777216 := Int.tdiv_eq_ediv_of_nonneg z0
  have e2 : z.tdiv 65536 = z / 65536 := Int.tdiv_eq_ediv_of_nonneg z0
  have e3 : z.tdiv 256 = z / 256 := Int.tdiv_eq_ediv_of_nonneg z0
  have e4 : z.tmod 256 = z % 256 := Int.tmod_eq_emod_of_nonneg z0
  have e5 : (z / 65536).tmod 256 = z / 65536 % 256 := Int.tmod_eq_emod_of_nonneg (by omega)
  have e6 : (z / 256).tmod 256 = z / 256 % 256 := Int.tmod_eq_emod_of_nonneg (by omega)
  have f1 : IntKind.u8.wrap (z / 16777216) = z / 16777216 := by rw [IntKind.wrap_u8]; omega
  have f2 : IntKind.u8.wrap (z / 65536 % 256) = z / 65536 % 256 := by rw [IntKind.wrap_u8]; omega
  have f3 : IntKind.u8.wrap (z / 256 % 256) = z / 256 % 256 := by rw [IntKind.wrap_u8]; omega
  have f4 : IntKind.u8.wrap (z % 256) = z % 256 := by rw [IntKind.wrap_u8]; omega
  have HL := Lib.hid (Holds.lit w [z / 16777216, z / 65536 % 256, z / 256 % 256, z % 256] #[.int .u8 (z / 16777216), .int .u8 (z / 65536 % 256), .int .u8 (z / 256 % 256), .int .u8 (z % 256)] rfl (by simp [maxLen]) (fun y hy => by simp at hy; omega))
  go_enter Try.func29, Try.ntmps29
  go_wp2_with fail
  go_ret
  exact ⟨_, rfl, by simpa using HL.out, (Below.refl _ _).alloc (Nat.le_refl _) _⟩
theorem ent_two : Enters Try.prog 30 := enters_of Try.func30 (by kernel_rfl) rfl
theorem ent_four : Enters Try.prog 29 := enters_of Try.func29 (by kernel_rfl) rfl
theorem ent_size : Enters Try.prog 25 := enters_of Try.func25 (by kernel_rfl) rfl
theorem ent_kind : Enters Try.prog 31 := enters_of Try.func31 (by kernel_rfl) rfl
theorem ent_both : Enters Try.prog 17 := enters_of Try.func17 (by kernel_rfl) rfl
end Go.Proofs.Ytjfieoleoodfdaa.Four6
