/- JoinNil's walk, given a joiner's contract. -/
import Derived.Test.YtnpggkpcadefjaaDoorM21
import Derived.Test.YtnpggkpcadefjaaDoorSame
set_option linter.unusedVariables false
set_option maxRecDepth 100000
namespace Go.Proofs.YtnpggkpcadefjaaDoor.LawNil20
open Go.RowKit Go.Proofs.YtnpggkpcadefjaaDoor.Sums Go.Proofs.YtnpggkpcadefjaaDoor.Mem Go.Proofs.YtnpggkpcadefjaaDoor.Blk Go.Proofs.YtnpggkpcadefjaaDoor.Pkt Go.Proofs.YtnpggkpcadefjaaDoor.Check Go.Proofs.YtnpggkpcadefjaaDoor.RowN Go.Proofs.YtnpggkpcadefjaaDoor.Obj Go.Proofs.YtnpggkpcadefjaaDoor.JoiM Go.Proofs.YtnpggkpcadefjaaDoor.JoiP Go.Proofs.YtnpggkpcadefjaaDoor.JoiA Go.Proofs.YtnpggkpcadefjaaDoor.SplP Go.Proofs.YtnpggkpcadefjaaDoor.Errno Go.Proofs.YtnpggkpcadefjaaDoor.Same
variable {JA : (Nat → Prop) → World → Nat → JSt → Prop}
set_option maxHeartbeats 2000000 in
theorem nil_any (S : JoinSpec JA) (now : Int) (p : Pkt) (D : Value) (w : World) (hg : Handle w) : Calls Tryd.prog 6 #[.int .i64 now, val p D] w fun e w' => e = .returned (.bool true) ∧ Below w.heap.size w w' := by
  have B0 := Lib.hid ((Below.refl w.heap.size w).alloc (Nat.le_refl _) (.cells (pcCells p D).toArray 32))
  have RP := Lib.hid (blk_pkt (Blk.new w 32 (pcCells p D).toArray))
  have GH : Hid (∀ W, Below w.heap.size w W → Handle W) := Lib.hid fun W hW => hg.keep hW
  have PN := Lib.hid (fun W => S.put_nil now p D W)
  have TN := Lib.hid (fun W => S.tick_nil now W)
  have WN := Lib.hid (fun W => S.waiting_nil W)
  have AW := Lib.hid (fun W h => awake_any S W h)
  have SY := Lib.hid (fun (W : World) => same_yes Pkt.zero none none 0 0 0 0 W.heap.size [] W (Holds.nil _ _ _) (Holds.nil _ _ _) (Nat.le_refl _))
  unfold val at PN
  unfold val pcCells at *
  clear hg
  go_enter Tryd.func6, Tryd.ntmps6
  go_wp2_with (refine Part.wpList_load_part rfl 32 (.tmp 3) rfl w.heap.size 0 [.int .i64 p.tos, .int .i64 p.id, .int .i64 p.ttl, .int .i64 p.proto, .bool p.df, .bool p.mf, .int .i64 p.off, .string p.src, .string p.dst, .string p.opt, D] rfl RP.out ?_)
  refine (PN.out _).mono ?_
  rintro e w1 ⟨rfl, hb⟩
  have B1 := Lib.hid (B0.out.trans (hb.mono B0.out.size))
  clear B0 RP PN hb
  unfold Pkt.zero
  have J2 := Lib.hid (Blk.new w1 32 #[.int .i64 0, .int .i64 0, .int .i64 0, .int .i64 0, .bool false, .bool false, .int .i64 0, .string ⟨#[]⟩, .string ⟨#[]⟩, .string ⟨#[]⟩, .slice none 0 0])
  have X2 := Lib.hid ((Below.refl w1.heap.size w1).alloc (Nat.le_refl _) (.cells #[.int .i64 0, .int .i64 0, .int .i64 0, .int .i64 0, .bool false, .bool false, .int .i64 0, .string ⟨#[]⟩, .string ⟨#[]⟩, .string ⟨#[]⟩, .slice none 0 0] 32))
  go_wp2_with fail
  have B2 := Lib.hid (B1.out.trans (X2.out.mono B1.out.size))
  generalize w1.alloc (.cells #[.int .i64 0, .int .i64 0, .int .i64 0, .int .i64 0, .bool false, .bool false, .int .i64 0, .string ⟨#[]⟩, .string ⟨#[]⟩, .string ⟨#[]⟩, .slice none 0 0] 32) = w2 at *
  refine (AW.out w2 (GH.out w2 B2.out)).mono ?_
  rintro e w3 ⟨rfl, hb⟩
  have B3 := Lib.hid (B2.out.trans (hb.mono B2.out.size))
  have RZ := Lib.hid (blk_pkt (p := Pkt.zero) (D := .slice none 0 0) (J2.out.below hb J2.out.lt))
  have SY3 := Lib.hid (SY.out w3)
  unfold pcCells Pkt.zero at RZ
  unfold val Pkt.zero at SY3
  clear J2 X2 B1 B2 AW SY hb
  go_wp2_with (refine Part.wpList_load_part rfl 32 (.tmp 6) rfl w1.heap.size 0 [.int .i64 0, .int .i64 0, .int .i64 0, .int .i64 0, .bool false, .bool false, .int .i64 0, .string ⟨#[]⟩, .string ⟨#[]⟩, .string ⟨#[]⟩, .slice none 0 0] rfl RZ.out ?_)
  refine SY3.out.mono ?_
  rintro e w4 ⟨rfl, hb⟩
  have B4 := Lib.hid (B3.out.trans (hb.mono B3.out.size))
  clear hb SY3 RZ B3
  go_wp2_with fail
  refine (TN.out w4).mono ?_
  rintro e w5 ⟨⟨A5, c5, rfl⟩, hb⟩
  have B5 := Lib.hid (B4.out.trans (hb.mono B4.out.size))
  clear hb B4
  go_wp2_with fail
  refine (WN.out w5).mono ?_
  rintro e w6 ⟨rfl, hb⟩
  have B6 := Lib.hid (B5.out.trans (hb.mono B5.out.size))
  clear hb B5
  go_wp2_with fail
  go_ret
  exact ⟨rfl, B6.out⟩
end Go.Proofs.YtnpggkpcadefjaaDoor.LawNil20
