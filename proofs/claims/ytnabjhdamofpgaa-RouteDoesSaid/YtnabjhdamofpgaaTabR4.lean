/- The document's Add: what is refused. -/
import Derived.Test.YtnabjhdamofpgaaRt6
set_option linter.unusedVariables false
namespace Go.Proofs.Ytnabjhdamofpgaa.TabR4
open Go.RowKit Go.PlainAid Go.Proofs.Ytnabjhdamofpgaa.Sums Go.Proofs.Ytnabjhdamofpgaa.Mem Go.Proofs.Ytnabjhdamofpgaa.Blk Go.Proofs.Ytnabjhdamofpgaa.Grp Go.Proofs.Ytnabjhdamofpgaa.AdrD Go.Proofs.Ytnabjhdamofpgaa.AdrR Go.Proofs.Ytnabjhdamofpgaa.Steps Go.Proofs.Ytnabjhdamofpgaa.Com Go.Proofs.Ytnabjhdamofpgaa.RowN Go.Proofs.Ytnabjhdamofpgaa.RowA Go.Proofs.Ytnabjhdamofpgaa.ArgT Go.Proofs.Ytnabjhdamofpgaa.TabD Go.Proofs.Ytnabjhdamofpgaa.TabR1 Go.Proofs.Ytnabjhdamofpgaa.TabR2 Go.Proofs.Ytnabjhdamofpgaa.TabA Go.Proofs.Ytnabjhdamofpgaa.TabR3 Go.Proofs.Ytnabjhdamofpgaa.TabM Go.Proofs.Ytnabjhdamofpgaa.TabOps Go.Proofs.Ytnabjhdamofpgaa.Free Go.Proofs.Ytnabjhdamofpgaa.Rt6

attribute [local irreducible] wpList
theorem ref_bad (r : RouteR) (h : addB r.x0 r.x1 r.x2 r.x3 = false) : fitB r.x0.size r.x1 = false ∨ (fitB r.x0.size r.x1 = true ∧ r.x2.toList.isEmpty = false ∧ ((r.x2.size : Int) != ((pfx r.x0 r.x1).size : Int)) = true) ∨ (fitB r.x0.size r.x1 = true ∧ r.x2.toList.isEmpty = true ∧ decide (r.x3 < 0) = true) ∨ (fitB r.x0.size r.x1 = true ∧ r.x2.toList.isEmpty = false ∧ ((r.x2.size : Int) != ((pfx r.x0 r.x1).size : Int)) = false ∧ decide (r.x3 < 0) = true) := by
  unfold addB at h
  revert h
  cases fitB r.x0.size r.x1 <;> cases r.x2.toList.isEmpty <;> cases ((r.x2.size : Int) != ((pfx r.x0 r.x1).size : Int)) <;> cases decide (r.x3 < 0) <;> simp
theorem ref_ok (r : RouteR) (h : addB r.x0 r.x1 r.x2 r.x3 = true) : fitB r.x0.size r.x1 = true ∧ decide (r.x3 < 0) = false ∧ (r.x2.toList.isEmpty = true ∨ (r.x2.toList.isEmpty = false ∧ ((r.x2.size : Int) != ((pfx r.x0 r.x1).size : Int)) = false)) := by
  unfold addB at h
  revert h
  cases fitB r.x0.size r.x1 <;> cases r.x2.toList.isEmpty <;> cases ((r.x2.size : Int) != ((pfx r.x0 r.x1).size : Int)) <;> cases decide (r.x3 < 0) <;> simp
set_option maxRecDepth 100000 in
set_option maxHeartbeats 1600000 in
theorem bad_ref (F : Nat → Prop) (g : Nat) (rs : List RouteR) (r : RouteR) (w : World) (h : TabAt F w g rs) (hF : ∀ k, F k → k < w.heap.size) (ha : r.x0.size ≤ 300) (hv : r.x2.size ≤ 300) (hb : addB r.x0 r.x1 r.x2 r.x3 = false) :
    Calls Try.prog 11 #[.pointer (some ⟨g, 0, none⟩), .agg (RA r)] w fun e w' => e = .returned (.int .i64 1) ∧ TabAt F w' g rs ∧ Keep F w w' := by
  have way := ref_bad r hb
  have H := Lib.hid h
  have HF := Lib.hid hF
  have qs := pfx_size r.x0 r.x1
  obtain ⟨q, hq⟩ : ∃ q, pfx r.x0 r.x1 = q := ⟨_, rfl⟩
  obtain ⟨fb, hfb⟩ : ∃ fb, fitB r.x0.size r.x1 = fb := ⟨_, rfl⟩
  have PC := Lib.hid (fun W => prefix_ref r.x0 r.x1 ha W)
  rw [hq, hfb] at PC
  rw [hq] at qs
  have B0 := Lib.hid ((Below.refl w.heap.size w).alloc (Nat.le_refl _) (.cells (RA r) 33))
  have K0 := Lib.hid (Blk.new w 33 (RA r))
  have RP : (loadVar 31 ⟨w.heap.size, 0, none⟩).run Try.prog (w.alloc (.cells (RA r) 33)) = .ok (.agg #[.string r.x0, .int .i64 r.x1]) (w.alloc (.cells (RA r) 33)) := Part.run_part _ w.heap.size 0 31 [.string r.x0, .int .i64 r.x1] _ Try.underlying31 rfl (by kernel_rfl) (TabOps.blk_part K0.out 0 2)
  rw [hq, hfb] at way
  clear h hF hq hfb hb
  go_enter Try.func11, Try.ntmps11
  go_wp2_with (refine Store.at_load 31 (.tmp 11) ?_ ?_; exact rfl; refine Part.wpList_load_part rfl 31 (.tmp 11) rfl w.heap.size 0 [.string r.x0, .int .i64 r.x1] rfl RP ?_)
  refine (PC.out _).mono ?_
  rintro e w2 ⟨rfl, hb2⟩
  have B2 := Lib.hid (B0.out.trans (hb2.mono B0.out.size))
  have L2 : Hid (w.heap.size < w2.heap.size) := Lib.hid (by have := hb2.size; simp at this; omega)
  have KR2 := Lib.hid (K0.out.below hb2 K0.out.lt)
  have J2 := Lib.hid (Blk.new w2 31 #[.string ⟨#[]⟩, .int .i64 0])
  have K3 := Lib.hid (Part.setRow_blk J2.out #[.string q, .int .i64 r.x1])
  have B3 : Hid (Below w.heap.size w ((w2.alloc (.cells #[.string ⟨#[]⟩, .int .i64 0] 31)).setRow w2.heap.size #[.string q, .int .i64 r.x1])) := Lib.hid (setRow_bel (B2.out.alloc B2.out.size _) B2.out.size _)
  have KR3 : Hid (Blk ((w2.alloc (.cells #[.string ⟨#[]⟩, .int .i64 0] 31)).setRow w2.heap.size #[.string q, .int .i64 r.x1]) w.heap.size 33 (RA r)) := Lib.hid ((setRow_other _ _ _ _ (by have := L2.out; omega)).trans (Blk.alloc KR2.out _))
  clear hb2 RP K0 B0 B2 KR2 PC
  rcases way with rfl | ⟨rfl, z1, z2⟩ | ⟨rfl, z1, z2⟩ | ⟨rfl, z1, z2, z3⟩
  · go_wp2_with (first
      | (refine Store.at_store 31 (.tmp 5) (.tmp 14) ?_ ?_; exact rfl; refine wpList_store_row rfl 31 (.tmp 5) (.tmp 14) rfl w2.heap.size #[.string q, .int .i64 r.x1] rfl rfl 31 _ J2.out (by kernel_rfl) rfl (one_pf _ _) ?_))
    go_ret
    exact ⟨rfl, H.out.below B3.out, Keep.of B3.out⟩
  · go_wp2_with (first
      | (refine Store.at_store 31 (.tmp 5) (.tmp 14) ?_ ?_; exact rfl; refine wpList_store_row rfl 31 (.tmp 5) (.tmp 14) rfl w2.heap.size #[.string q, .int .i64 r.x1] rfl rfl 31 _ J2.out (by kernel_rfl) rfl (one_pf _ _) ?_)
      | (refine Store.at_load 9 (.tmp 19) ?_ ?_; exact rfl; refine Store2.wpList_load_cell rfl 9 (.tmp 19) rfl w.heap.size 2 (.string r.x2) rfl _ Try.underlying9 rfl 33 _ KR3.out rfl ?_)
      | (refine Store.at_load 9 (.tmp 23) ?_ ?_; exact rfl; refine Store2.wpList_load_cell rfl 9 (.tmp 23) rfl w.heap.size 2 (.string r.x2) rfl _ Try.underlying9 rfl 33 _ KR3.out rfl ?_)
      | (refine Store.at_load 9 (.tmp 26) ?_ ?_; exact rfl; refine Store2.wpList_load_cell rfl 9 (.tmp 26) rfl w2.heap.size 0 (.string q) rfl _ Try.underlying9 rfl 31 _ K3.out rfl ?_))
    go_ret
    exact ⟨rfl, H.out.below B3.out, Keep.of B3.out⟩
  · go_wp2_with (first
      | (refine Store.at_store 31 (.tmp 5) (.tmp 14) ?_ ?_; exact rfl; refine wpList_store_row rfl 31 (.tmp 5) (.tmp 14) rfl w2.heap.size #[.string q, .int .i64 r.x1] rfl rfl 31 _ J2.out (by kernel_rfl) rfl (one_pf _ _) ?_)
      | (refine Store.at_load 9 (.tmp 19) ?_ ?_; exact rfl; refine Store2.wpList_load_cell rfl 9 (.tmp 19) rfl w.heap.size 2 (.string r.x2) rfl _ Try.underlying9 rfl 33 _ KR3.out rfl ?_)
      | (refine Store.at_load 3 (.tmp 33) ?_ ?_; exact rfl; refine Store2.wpList_load_cell rfl 3 (.tmp 33) rfl w.heap.size 3 (.int .i64 r.x3) rfl _ Try.underlying3 rfl 33 _ KR3.out rfl ?_))
    go_ret
    exact ⟨rfl, H.out.below B3.out, Keep.of B3.out⟩
  · go_wp2_with (first
      | (refine Store.at_store 31 (.tmp 5) (.tmp 14) ?_ ?_; exact rfl; refine wpList_store_row rfl 31 (.tmp 5) (.tmp 14) rfl w2.heap.size #[.string q, .int .i64 r.x1] rfl rfl 31 _ J2.out (by kernel_rfl) rfl (one_pf _ _) ?_)
      | (refine Store.at_load 9 (.tmp 19) ?_ ?_; exact rfl; refine Store2.wpList_load_cell rfl 9 (.tmp 19) rfl w.heap.size 2 (.string r.x2) rfl _ Try.underlying9 rfl 33 _ KR3.out rfl ?_)
      | (refine Store.at_load 9 (.tmp 23) ?_ ?_; exact rfl; refine Store2.wpList_load_cell rfl 9 (.tmp 23) rfl w.heap.size 2 (.string r.x2) rfl _ Try.underlying9 rfl 33 _ KR3.out rfl ?_)
      | (refine Store.at_load 9 (.tmp 26) ?_ ?_; exact rfl; refine Store2.wpList_load_cell rfl 9 (.tmp 26) rfl w2.heap.size 0 (.string q) rfl _ Try.underlying9 rfl 31 _ K3.out rfl ?_)
      | (refine Store.at_load 3 (.tmp 33) ?_ ?_; exact rfl; refine Store2.wpList_load_cell rfl 3 (.tmp 33) rfl w.heap.size 3 (.int .i64 r.x3) rfl _ Try.underlying3 rfl 33 _ KR3.out rfl ?_))
    go_ret
    exact ⟨rfl, H.out.below B3.out, Keep.of B3.out⟩
end Go.Proofs.Ytnabjhdamofpgaa.TabR4
