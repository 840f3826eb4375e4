/- What errno makes of a failure. -/
import Derived.Test.YtibfdacgdffpiaaDoorAsWalk
namespace Go.Proofs.YtibfdacgdffpiaaDoor.Errno
open Go.RowKit

theorem errno_nil (w : World) : Calls Tryd.prog 19 #[.nilIface] w fun e w' => e = .returned (.int .i64 0) ∧ Below w.heap.size w w' := by
  go_enter Tryd.func19, Tryd.ntmps19
  go_wp2_with fail
  refine (as_nil _ _).mono ?_
  rintro e w' ⟨rfl, rfl⟩
  go_wp2_with fail
  go_ret
  exact ⟨rfl, (Below.refl _ _).alloc (Nat.le_refl _) _⟩

theorem errno_fault (s : ByteArray) (k : Int) (w : World) (hg : Handle w) : Calls Tryd.prog 19 #[.iface 63 (.agg #[.string s, .iface 27 (.int .i64 k)])] w fun e w' => e = .returned (.int .i64 k) ∧ Below w.heap.size w w' := by
  have A := Lib.hid (as_fault s k ⟨w.heap.size, 0, none⟩ (.int .i64 0) (w.alloc (.cells #[.int .i64 0] 27)) (hg.keep ((Below.refl _ _).alloc (Nat.le_refl _) _)) (by simp) (by simp))
  go_enter Tryd.func19, Tryd.ntmps19
  go_wp2_with fail
  refine A.out.mono ?_
  rintro e w' ⟨rfl, w1, rfl, hb⟩
  have hs : w.heap.size < w1.heap.size := by have := hb.size; simp at this; omega
  have hc : (w1.setCell ⟨w.heap.size, 0, none⟩ (.int .i64 k)).cell? ⟨w.heap.size, 0, none⟩ = some (.int .i64 k) := by
    have h0 : w1.cell? ⟨w.heap.size, 0, none⟩ = some (.int .i64 0) := (hb.cell (by simp)).trans (by simp)
    exact World.cell?_setCell_same _ _ _ h0
  go_wp2_with fail
  go_ret
  exact ⟨rfl, (((Below.refl _ _).alloc (Nat.le_refl _) _).trans (hb.mono (by simp))).setCell (Nat.le_refl _) _⟩
end Go.Proofs.YtibfdacgdffpiaaDoor.Errno
