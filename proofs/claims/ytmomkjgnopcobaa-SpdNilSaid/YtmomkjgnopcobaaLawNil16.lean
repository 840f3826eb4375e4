/- SpdNil's walk. -/
import Derived.Test.YtmomkjgnopcobaaLawL16
set_option linter.unusedVariables false
namespace Go.Proofs.Ytmomkjgnopcobaa.LawNil16
open Go.RowKit Go.Proofs.Ytmomkjgnopcobaa.Mem Go.Proofs.Ytmomkjgnopcobaa.Blk Go.Proofs.Ytmomkjgnopcobaa.Ahead Go.Proofs.Ytmomkjgnopcobaa.PickD Go.Proofs.Ytmomkjgnopcobaa.PickR1 Go.Proofs.Ytmomkjgnopcobaa.PickR2 Go.Proofs.Ytmomkjgnopcobaa.Pick1 Go.Proofs.Ytmomkjgnopcobaa.Pick2 Go.Proofs.Ytmomkjgnopcobaa.Pick3 Go.Proofs.Ytmomkjgnopcobaa.Pick4 Go.Proofs.Ytmomkjgnopcobaa.Free Go.Proofs.Ytmomkjgnopcobaa.Steps Go.Proofs.Ytmomkjgnopcobaa.Regs Go.Proofs.Ytmomkjgnopcobaa.ArgT Go.Proofs.Ytmomkjgnopcobaa.MapK Go.Proofs.Ytmomkjgnopcobaa.Quest Go.Proofs.Ytmomkjgnopcobaa.RowN Go.Proofs.Ytmomkjgnopcobaa.SpdD Go.Proofs.Ytmomkjgnopcobaa.Spd1 Go.Proofs.Ytmomkjgnopcobaa.Spd3 Go.Proofs.Ytmomkjgnopcobaa.Spd4 Go.Proofs.Ytmomkjgnopcobaa.Spd5 Go.Proofs.Ytmomkjgnopcobaa.Spd6 Go.Proofs.Ytmomkjgnopcobaa.Spd7 Go.Proofs.Ytmomkjgnopcobaa.Spd8 Go.Proofs.Ytmomkjgnopcobaa.SpdA Go.Proofs.Ytmomkjgnopcobaa.Com Go.Proofs.Ytmomkjgnopcobaa.LawL16

set_option maxRecDepth 100000 in
set_option maxHeartbeats 2000000 in
theorem nil_any (at_ : Int) (r : RuleR) (a b : ByteArray) (x y z : Int) (w : World) : Calls Try.prog 5 #[.int .i64 at_, .agg (RA r), .agg (FA ⟨a, b, x, y, z, true⟩)] w fun e w' => e = .returned (.bool true) ∧ Below w.heap.size w w' := by
  have B0 := Lib.hid (((Below.refl w.heap.size w).alloc (Nat.le_refl _) (.cells (RA r) 35)).alloc (by simp) (.cells (FA ⟨a, b, x, y, z, true⟩) 24))
  have K0 := Lib.hid (Blk.alloc (Blk.new w 35 (RA r)) (.cells (FA ⟨a, b, x, y, z, true⟩) 24))
  have J0 : Hid (Blk ((w.alloc (.cells (RA r) 35)).alloc (.cells (FA ⟨a, b, x, y, z, true⟩) 24)) (w.heap.size + 1) 24 (FA ⟨a, b, x, y, z, true⟩)) := Lib.hid (by
    have := Blk.new (w.alloc (.cells (RA r) 35)) 24 (FA ⟨a, b, x, y, z, true⟩)
    simpa using this)
  go_enter Try.func5, Try.ntmps5
  go_wp2_with (refine Store.at_load 24 (.tmp 5) ?_ ?_; exact rfl; refine Loads.wpList_load_w rfl 24 (.tmp 5) rfl (w.heap.size + 1) rfl 24 (FA ⟨a, b, x, y, z, true⟩) (0, 0) _ (J0.out) Try.underlying24 rfl (by kernel_rfl) ?_)
  refine (find_nil ⟨a, b, x, y, z, true⟩ _).mono ?_
  rintro e w1 ⟨rfl, hb⟩
  have B1 := Lib.hid (B0.out.trans (hb.mono B0.out.size))
  have K1 := Lib.hid (K0.out.below hb K0.out.lt)
  clear hb K0 J0
  go_wp2_with (refine Store.at_load 35 (.tmp 4) ?_ ?_; exact rfl; refine Loads.wpList_load_w rfl 35 (.tmp 4) rfl w.heap.size rfl 35 (RA r) (0, 0) _ (K1.out) Try.underlying35 rfl (by kernel_rfl) ?_)
  refine (add_nil at_ r _).mono ?_
  rintro e w2 ⟨rfl, hb⟩
  have B2 := Lib.hid (B1.out.trans (hb.mono B1.out.size))
  clear hb K1
  go_wp2_with fail
  refine (awake_any _).mono ?_
  rintro e w3 ⟨rfl, hb⟩
  have B3 := Lib.hid (B2.out.trans (hb.mono B2.out.size))
  clear hb
  go_wp2_with fail
  refine (remove_nil at_ _).mono ?_
  rintro e w4 ⟨rfl, rfl⟩
  go_wp2_with fail
  refine (list_nil _).mono ?_
  rintro e w5 ⟨rfl, rfl⟩
  go_wp2_with fail
  go_ret
  exact ⟨rfl, B3.out⟩
end Go.Proofs.Ytmomkjgnopcobaa.LawNil16
