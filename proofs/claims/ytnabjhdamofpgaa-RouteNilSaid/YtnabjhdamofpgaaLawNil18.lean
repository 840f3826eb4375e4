/- RouteNil's walk. -/
import Derived.Test.YtnabjhdamofpgaaRtA
set_option linter.unusedVariables false
namespace Go.Proofs.Ytnabjhdamofpgaa.LawNil18
open Go.RowKit Go.PlainAid Go.Proofs.Ytnabjhdamofpgaa.Sums Go.Proofs.Ytnabjhdamofpgaa.Mem Go.Proofs.Ytnabjhdamofpgaa.Blk Go.Proofs.Ytnabjhdamofpgaa.Grp Go.Proofs.Ytnabjhdamofpgaa.AdrD Go.Proofs.Ytnabjhdamofpgaa.AdrR Go.Proofs.Ytnabjhdamofpgaa.Steps Go.Proofs.Ytnabjhdamofpgaa.Com Go.Proofs.Ytnabjhdamofpgaa.RowN Go.Proofs.Ytnabjhdamofpgaa.RowA Go.Proofs.Ytnabjhdamofpgaa.ArgT Go.Proofs.Ytnabjhdamofpgaa.TabD Go.Proofs.Ytnabjhdamofpgaa.TabOps Go.Proofs.Ytnabjhdamofpgaa.TabM Go.Proofs.Ytnabjhdamofpgaa.Free Go.Proofs.Ytnabjhdamofpgaa.RtD Go.Proofs.Ytnabjhdamofpgaa.Rt4 Go.Proofs.Ytnabjhdamofpgaa.Rt9 Go.Proofs.Ytnabjhdamofpgaa.RtA

set_option maxRecDepth 100000 in
set_option maxHeartbeats 2000000 in
theorem nil_any (r : RouteR) (d : ByteArray) (w : World) : Calls Try.prog 6 #[.agg (RA r), .string d] w fun e w' => e = .returned (.bool true) ∧ Below w.heap.size w w' := by
  have B0 := Lib.hid ((Below.refl w.heap.size w).alloc (Nat.le_refl _) (.cells (RA r) 33))
  have K0 := Lib.hid (Blk.new w 33 (RA r))
  go_enter Try.func6, Try.ntmps6
  go_wp2_with fail
  refine (find_nil d _).mono ?_
  rintro e w1 ⟨rfl, hb⟩
  have B1 := Lib.hid ((B0.out.trans (hb.mono B0.out.size)).alloc (B0.out.trans (hb.mono B0.out.size)).size (.cells (RA ZR) 33))
  have K1 := Lib.hid (Blk.alloc (K0.out.below hb K0.out.lt) (.cells (RA ZR) 33))
  clear hb K0 B0
  go_wp2_with fail
  refine (awake_any _).mono ?_
  rintro e w2 ⟨rfl, hb⟩
  have B2 := Lib.hid (B1.out.trans (hb.mono B1.out.size))
  have K2 := Lib.hid (K1.out.below hb K1.out.lt)
  clear hb K1 B1
  go_wp2_with (refine Store.at_load 33 (.tmp 2) ?_ ?_; exact rfl; refine Loads.wpList_load_w rfl 33 (.tmp 2) rfl w.heap.size rfl 33 (RA r) (0, 0) _ (K2.out) Try.underlying33 rfl (by kernel_rfl) ?_)
  refine (add_nil r _).mono ?_
  rintro e w3 ⟨rfl, hb⟩
  have B3 := Lib.hid (B2.out.trans (hb.mono B2.out.size))
  have K3 := Lib.hid (K2.out.below hb K2.out.lt)
  have RP : (loadVar 31 ⟨w.heap.size, 0, none⟩).run Try.prog w3 = .ok (.agg #[.string r.x0, .int .i64 r.x1]) w3 := Part.run_part _ w.heap.size 0 31 [.string r.x0, .int .i64 r.x1] _ Try.underlying31 rfl (by kernel_rfl) (TabOps.blk_part K3.out 0 2)
  clear hb K2 B2
  go_wp2_with (refine Store.at_load 31 (.tmp 28) ?_ ?_; exact rfl; refine Part.wpList_load_part rfl 31 (.tmp 28) rfl w.heap.size 0 [.string r.x0, .int .i64 r.x1] rfl RP ?_)
  refine (remove_nil r.x0 r.x1 _).mono ?_
  rintro e w4 ⟨rfl, hb⟩
  have B4 := Lib.hid (B3.out.trans (hb.mono B3.out.size))
  clear hb B3 K3 RP
  go_wp2_with fail
  refine (list_nil _).mono ?_
  rintro e w5 ⟨rfl, rfl⟩
  go_wp2_with fail
  go_ret
  exact ⟨rfl, B4.out⟩
end Go.Proofs.Ytnabjhdamofpgaa.LawNil18
