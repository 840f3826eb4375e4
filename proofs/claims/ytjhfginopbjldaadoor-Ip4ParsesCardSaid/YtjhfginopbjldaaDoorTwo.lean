/- Contracts: Two of the document's words; the pieces of the document's Bytes. -/
import Derived.Test.YtjhfginopbjldaaDoorBoth
import Derived.Test.YtjhfginopbjldaaDoorRefSum
import Derived.Test.YtjhfginopbjldaaDoorCheck
import Derived.Test.YtjhfginopbjldaaDoorSteps
import Derived.Test.YtjhfginopbjldaaDoorBlk
namespace Go.Proofs.YtjhfginopbjldaaDoor.Two
open Go.RowKit Go.Proofs.YtjhfginopbjldaaDoor.Sums Go.Proofs.YtjhfginopbjldaaDoor.Mem Go.Proofs.YtjhfginopbjldaaDoor.Blk Go.Proofs.YtjhfginopbjldaaDoor.Pkt Go.Proofs.YtjhfginopbjldaaDoor.Both

theorem two_any (z : Int) (w : World) (z0 : 0 ≤ z) (z1 : z ≤ 65535) :
    Calls Tryd.prog 29 #[.int .i64 z] w fun e w' => ∃ A, e = .returned (.slice A 2 2) ∧ Holds w' w'.heap.size A 2 2 [z / 256, z % 256] ∧ Below w.heap.size w w' := by
  have e1 : z.tdiv 256 = z / 256 := Int.tdiv_eq_ediv_of_nonneg z0
  have e2 : z.tmod 256 = z % 256 := Int.tmod_eq_emod_of_nonneg z0
  have e3 : IntKind.u8.wrap (z / 256) = z / 256 := by rw [IntKind.wrap_u8]; omega
  have e4 : IntKind.u8.wrap (z % 256) = z % 256 := by rw [IntKind.wrap_u8]; omega
  have HL := Lib.hid (Holds.lit w [z / 256, z % 256] #[.int .u8 (z / 256), .int .u8 (z % 256)] rfl (by simp [maxLen]) (fun y hy => by simp at hy; omega))
  go_enter Tryd.func29, Tryd.ntmps29
  go_wp2_with fail
  go_ret
  exact ⟨_, rfl, by simpa using HL.out, (Below.refl _ _).alloc (Nat.le_refl _) _⟩
theorem ent_two : Enters Tryd.prog 29 := enters_of Tryd.func29 (by kernel_rfl) rfl
theorem ent_both : Enters Tryd.prog 9 := enters_of Tryd.func9 (by kernel_rfl) rfl

end Go.Proofs.YtjhfginopbjldaaDoor.Two
