/- The law SadNil. -/
import Derived.Test.YtppnkkpjfjhfkaaDoorM40
set_option linter.unusedVariables false
set_option maxRecDepth 100000
namespace Go.Proofs.YtppnkkpjfjhfkaaDoor.LawNil17
open Go.RowKit Go.Proofs.YtppnkkpjfjhfkaaDoor.Mem Go.Proofs.YtppnkkpjfjhfkaaDoor.Blk Go.Proofs.YtppnkkpjfjhfkaaDoor.ArgT Go.Proofs.YtppnkkpjfjhfkaaDoor.SadM Go.Proofs.YtppnkkpjfjhfkaaDoor.SadR6 Go.Proofs.YtppnkkpjfjhfkaaDoor.SadR7 Go.Proofs.YtppnkkpjfjhfkaaDoor.Ob17 Go.Proofs.YtppnkkpjfjhfkaaDoor.Errno

set_option maxHeartbeats 4000000 in
theorem nil_any (now spi : Int) (r : LifeR) (W : World) (hg : Handle W) : Calls Tryd.prog 6 #[.int .i64 now, .int .i64 spi, .agg #[.int .i64 r.x0, .string r.x1, .string r.x2, .string r.x3, .bool r.x4, .int .i64 r.x5, .int .i64 r.x6, .bool r.x7, .int .i64 r.x8, .int .i64 r.x9, .int .i64 r.x10, .int .i64 r.x11]] W fun er w' => er = .returned (.bool true) ∧ Below W.heap.size W w' := by
  have B0 := Lib.hid ((Below.refl W.heap.size W).alloc (Nat.le_refl _) (.cells #[.int .i64 r.x0, .string r.x1, .string r.x2, .string r.x3, .bool r.x4, .int .i64 r.x5, .int .i64 r.x6, .bool r.x7, .int .i64 r.x8, .int .i64 r.x9, .int .i64 r.x10, .int .i64 r.x11] 34))
  have K0 := Lib.hid (Blk.new W 34 #[.int .i64 r.x0, .string r.x1, .string r.x2, .string r.x3, .bool r.x4, .int .i64 r.x5, .int .i64 r.x6, .bool r.x7, .int .i64 r.x8, .int .i64 r.x9, .int .i64 r.x10, .int .i64 r.x11])
  have G0 := Lib.hid (hg.keep B0.out)
  clear hg
  have n0 : IntKind.i64.wrap (0 + 0) = 0 := by decide
  have n1 : IntKind.u64.wrap (0 + 0) = 0 := by decide
  go_enter Tryd.func6, Tryd.ntmps6
  go_wp2_with fail
  refine (Cad3.age_nil now spi true _ G0.out).mono ?_
  rintro er w1 ⟨rfl, hb⟩
  have B1 := Lib.hid (B0.out.trans (hb.mono B0.out.size))
  have G1 := Lib.hid (G0.out.keep hb)
  have K1 := Lib.hid (Blk.below K0.out hb (Blk.lt K0.out))
  clear hb B0 G0 K0
  go_wp2_with fail
  refine (Cad3.pick_nil now spi _).mono ?_
  rintro er w2 ⟨rfl, hb⟩
  have B2 := Lib.hid (B1.out.trans (hb.mono B1.out.size))
  have G2 := Lib.hid (G1.out.keep hb)
  have K2 := Lib.hid (Blk.below K1.out hb (Blk.lt K1.out))
  clear hb B1 G1 K1
  go_wp2_with fail
  refine (Cad6.send_nil now spi 1 _ G2.out).mono ?_
  rintro er w3 ⟨rfl, hb⟩
  have B3 := Lib.hid (B2.out.trans (hb.mono B2.out.size))
  have G3 := Lib.hid (G2.out.keep hb)
  have K3 := Lib.hid (Blk.below K2.out hb (Blk.lt K2.out))
  have J3 := Blk.new w3 32 #[.int .i64 0, .string ⟨#[]⟩, .string ⟨#[]⟩, .string ⟨#[]⟩, .bool false, .int .i64 0]
  have bb := Com.setRow_bel ((Below.refl w3.heap.size w3).alloc (Nat.le_refl _) (.cells #[.int .i64 0, .string ⟨#[]⟩, .string ⟨#[]⟩, .string ⟨#[]⟩, .bool false, .int .i64 0] 32)) (Nat.le_refl _) #[.int .i64 0, .string ⟨#[]⟩, .string ⟨#[]⟩, .string ⟨#[]⟩, .bool false, .int .i64 0]
  have B4 := Lib.hid (B3.out.trans (bb.mono B3.out.size))
  have G4 := Lib.hid (G3.out.keep bb)
  have K4 := Lib.hid (Blk.below K3.out bb (Blk.lt K3.out))
  clear hb B2 G2 K2 bb B3 G3 K3
  have e3 : (saC zeroL).toArray = #[.int .i64 0, .string ⟨#[]⟩, .string ⟨#[]⟩, .string ⟨#[]⟩, .bool false, .int .i64 0] := rfl
  rw [e3]
  clear e3
  go_wp2_with (refine wpList_store_row rfl 32 (.tmp 12) (.tmp 37) rfl w3.heap.size #[.int .i64 0, .string ⟨#[]⟩, .string ⟨#[]⟩, .string ⟨#[]⟩, .bool false, .int .i64 0] rfl rfl 32 _ J3 (by kernel_rfl) (by kernel_rfl) (by kernel_rfl) ?_)
  clear J3
  generalize (w3.alloc (.cells #[.int .i64 0, .string ⟨#[]⟩, .string ⟨#[]⟩, .string ⟨#[]⟩, .bool false, .int .i64 0] 32)).setRow w3.heap.size #[.int .i64 0, .string ⟨#[]⟩, .string ⟨#[]⟩, .string ⟨#[]⟩, .bool false, .int .i64 0] = w4 at *
  refine (Cad7.look_nil now spi 1 _ G4.out).mono ?_
  rintro er w5 ⟨rfl, hb⟩
  have B5 := Lib.hid (B4.out.trans (hb.mono B4.out.size))
  have G5 := Lib.hid (G4.out.keep hb)
  have K5 := Lib.hid (Blk.below K4.out hb (Blk.lt K4.out))
  have J5 := Blk.new w5 34 #[.int .i64 0, .string ⟨#[]⟩, .string ⟨#[]⟩, .string ⟨#[]⟩, .bool false, .int .i64 0, .int .i64 0, .bool false, .int .i64 0, .int .i64 0, .int .i64 0, .int .i64 0]
  have bb := Com.setRow_bel ((Below.refl w5.heap.size w5).alloc (Nat.le_refl _) (.cells #[.int .i64 0, .string ⟨#[]⟩, .string ⟨#[]⟩, .string ⟨#[]⟩, .bool false, .int .i64 0, .int .i64 0, .bool false, .int .i64 0, .int .i64 0, .int .i64 0, .int .i64 0] 34)) (Nat.le_refl _) #[.int .i64 0, .string ⟨#[]⟩, .string ⟨#[]⟩, .string ⟨#[]⟩, .bool false, .int .i64 0, .int .i64 0, .bool false, .int .i64 0, .int .i64 0, .int .i64 0, .int .i64 0]
  have B6 := Lib.hid (B5.out.trans (bb.mono B5.out.size))
  have G6 := Lib.hid (G5.out.keep bb)
  have K6 := Lib.hid (Blk.below K5.out bb (Blk.lt K5.out))
  clear hb B4 G4 K4 bb B5 G5 K5
  have e3 : zeroL.cells.toArray = #[.int .i64 0, .string ⟨#[]⟩, .string ⟨#[]⟩, .string ⟨#[]⟩, .bool false, .int .i64 0, .int .i64 0, .bool false, .int .i64 0, .int .i64 0, .int .i64 0, .int .i64 0] := rfl
  rw [e3]
  clear e3
  go_wp2_with (refine wpList_store_row rfl 34 (.tmp 15) (.tmp 45) rfl w5.heap.size #[.int .i64 0, .string ⟨#[]⟩, .string ⟨#[]⟩, .string ⟨#[]⟩, .bool false, .int .i64 0, .int .i64 0, .bool false, .int .i64 0, .int .i64 0, .int .i64 0, .int .i64 0] rfl rfl 34 _ J5 (by kernel_rfl) (by kernel_rfl) (by kernel_rfl) ?_)
  clear J5
  generalize (w5.alloc (.cells #[.int .i64 0, .string ⟨#[]⟩, .string ⟨#[]⟩, .string ⟨#[]⟩, .bool false, .int .i64 0, .int .i64 0, .bool false, .int .i64 0, .int .i64 0, .int .i64 0, .int .i64 0] 34)).setRow w5.heap.size #[.int .i64 0, .string ⟨#[]⟩, .string ⟨#[]⟩, .string ⟨#[]⟩, .bool false, .int .i64 0, .int .i64 0, .bool false, .int .i64 0, .int .i64 0, .int .i64 0, .int .i64 0] = w6 at *
  refine (awake_any _ G6.out).mono ?_
  rintro er w7 ⟨rfl, hb⟩
  have B7 := Lib.hid (B6.out.trans (hb.mono B6.out.size))
  have G7 := Lib.hid (G6.out.keep hb)
  have K7 := Lib.hid (Blk.below K6.out hb (Blk.lt K6.out))
  clear hb B6 G6 K6
  go_wp2_with (refine Store.at_load 34 (.tmp 5) ?_ ?_; exact rfl; refine Loads.wpList_load_w rfl 34 (.tmp 5) rfl W.heap.size rfl 34 #[.int .i64 r.x0, .string r.x1, .string r.x2, .string r.x3, .bool r.x4, .int .i64 r.x5, .int .i64 r.x6, .bool r.x7, .int .i64 r.x8, .int .i64 r.x9, .int .i64 r.x10, .int .i64 r.x11] (0, 0) _ (K7.out) Tryd.underlying34 rfl (by kernel_rfl) ?_)
  refine (Cad10.add_nil now r _).mono ?_
  rintro er w8 ⟨rfl, hb⟩
  have B8 := Lib.hid (B7.out.trans (hb.mono B7.out.size))
  have G8 := Lib.hid (G7.out.keep hb)
  clear hb B7 G7 K7
  go_wp2_with fail
  refine (Cad8.remove_nil spi true _ G8.out).mono ?_
  rintro er w9 ⟨rfl, hb⟩
  have B9 := Lib.hid (B8.out.trans (hb.mono B8.out.size))
  have G9 := Lib.hid (G8.out.keep hb)
  clear hb B8 G8
  go_wp2_with fail
  refine (Cad7.take_nil now spi 1 1 _ G9.out).mono ?_
  rintro er wa ⟨rfl, hb⟩
  have BA := Lib.hid (B9.out.trans (hb.mono B9.out.size))
  clear hb B9 G9
  go_wp2_with fail
  refine (Cad11.list_nil _).mono ?_
  rintro er wb ⟨rfl, rfl⟩
  go_wp2_with fail
  go_ret
  exact ⟨rfl, BA.out⟩
end Go.Proofs.YtppnkkpjfjhfkaaDoor.LawNil17
