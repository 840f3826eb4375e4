/- The code's Add: what is refused ahead of its place. -/
import Derived.Test.YtnabjhdamofpgaaRt4
set_option linter.unusedVariables false
namespace Go.Proofs.Ytnabjhdamofpgaa.Rt5
open Go.RowKit Go.PlainAid Go.Proofs.Ytnabjhdamofpgaa.Sums Go.Proofs.Ytnabjhdamofpgaa.Mem Go.Proofs.Ytnabjhdamofpgaa.Blk Go.Proofs.Ytnabjhdamofpgaa.Grp Go.Proofs.Ytnabjhdamofpgaa.AdrD Go.Proofs.Ytnabjhdamofpgaa.AdrR Go.Proofs.Ytnabjhdamofpgaa.Steps Go.Proofs.Ytnabjhdamofpgaa.Com Go.Proofs.Ytnabjhdamofpgaa.RowN Go.Proofs.Ytnabjhdamofpgaa.RowA Go.Proofs.Ytnabjhdamofpgaa.ArgT Go.Proofs.Ytnabjhdamofpgaa.TabD Go.Proofs.Ytnabjhdamofpgaa.TabOps Go.Proofs.Ytnabjhdamofpgaa.TabM Go.Proofs.Ytnabjhdamofpgaa.Free Go.Proofs.Ytnabjhdamofpgaa.RtD Go.Proofs.Ytnabjhdamofpgaa.Rt1 Go.Proofs.Ytnabjhdamofpgaa.Rt3 Go.Proofs.Ytnabjhdamofpgaa.Rt4

theorem code_bad (r : RouteR) (h : addB r.x0 r.x1 r.x2 r.x3 = false) : fitB r.x0.size r.x1 = false ∨ (fitB r.x0.size r.x1 = true ∧ viaB r.x2 r.x0 = false) ∨ (fitB r.x0.size r.x1 = true ∧ viaB r.x2 r.x0 = true ∧ decide (r.x3 < 0) = true) := by
  rw [via_add] at h
  cases h1 : fitB r.x0.size r.x1 <;> cases h2 : viaB r.x2 r.x0 <;> cases h3 : decide (r.x3 < 0) <;> simp_all
theorem code_ok (r : RouteR) (h : addB r.x0 r.x1 r.x2 r.x3 = true) : fitB r.x0.size r.x1 = true ∧ viaB r.x2 r.x0 = true ∧ decide (r.x3 < 0) = false := by
  rw [via_add] at h
  cases h1 : fitB r.x0.size r.x1 <;> cases h2 : viaB r.x2 r.x0 <;> cases h3 : decide (r.x3 < 0) <;> simp_all
set_option maxRecDepth 100000 in
set_option maxHeartbeats 1600000 in
theorem add_fit (F : Nat → Prop) (g : Nat) (rs : List RouteR) (r : RouteR) (w : World) (h : RtAt F w g rs) (hF : ∀ k, F k → k < w.heap.size) (ha : r.x0.size ≤ maxLen) (hv : r.x2.size ≤ maxLen) (hfb : fitB r.x0.size r.x1 = false) :
    Calls Try.prog 10 #[.pointer (some ⟨g, 0, none⟩), .agg (RA r)] w fun e w' => e = .returned (.int .i64 1) ∧ RtAt F w' g rs ∧ Keep F w w' := by
  have H := Lib.hid h
  have HF := Lib.hid hF
  obtain ⟨mm, hmm⟩ : ∃ mm, (if fitB r.x0.size r.x1 then r.x1 else 0) = mm := ⟨_, rfl⟩
  obtain ⟨ec, hec⟩ : ∃ ec, (if fitB r.x0.size r.x1 then (0 : Int) else 1) = ec := ⟨_, rfl⟩
  obtain ⟨q, hq⟩ : ∃ q, pfx r.x0 r.x1 = q := ⟨_, rfl⟩
  have MC := Lib.hid (fun W => masked_any r.x0 r.x1 ha W)
  rw [hmm, hec, hq] at MC
  have VC := Lib.hid (fun W => via_c r ha hv W)
  have B0 := Lib.hid ((Below.refl w.heap.size w).alloc (Nat.le_refl _) (.cells (RA r) 33))
  have K0 := Lib.hid (Blk.new w 33 (RA r))
  have RP : (loadVar 31 ⟨w.heap.size, 0, none⟩).run Try.prog (w.alloc (.cells (RA r) 33)) = .ok (.agg #[.string r.x0, .int .i64 r.x1]) (w.alloc (.cells (RA r) 33)) := Part.run_part _ w.heap.size 0 31 [.string r.x0, .int .i64 r.x1] _ Try.underlying31 rfl (by kernel_rfl) (TabOps.blk_part K0.out 0 2)
  obtain rfl : ec = 1 := by rw [← hec, hfb]; rfl
  clear h hF hq hmm hec hfb ha hv VC
  go_enter Try.func10, Try.ntmps10
  go_wp2_with (refine Store.at_load 31 (.tmp 12) ?_ ?_; exact rfl; refine Part.wpList_load_part rfl 31 (.tmp 12) rfl w.heap.size 0 [.string r.x0, .int .i64 r.x1] rfl RP ?_)
  refine (MC.out _).mono ?_
  rintro e w2 ⟨rfl, hb2⟩
  have B2 := Lib.hid (B0.out.trans (hb2.mono B0.out.size))
  have L2 : Hid (w.heap.size < w2.heap.size) := Lib.hid (by have := hb2.size; simp at this; omega)
  have KR2 := Lib.hid (K0.out.below hb2 K0.out.lt)
  have J2 := Lib.hid (Blk.new w2 31 #[.string ⟨#[]⟩, .int .i64 0])
  have K3 := Lib.hid (Part.setRow_blk J2.out #[.string q, .int .i64 mm])
  have B3 : Hid (Below w.heap.size w ((w2.alloc (.cells #[.string ⟨#[]⟩, .int .i64 0] 31)).setRow w2.heap.size #[.string q, .int .i64 mm])) := Lib.hid (setRow_bel (B2.out.alloc B2.out.size _) B2.out.size _)
  have KR3 : Hid (Blk ((w2.alloc (.cells #[.string ⟨#[]⟩, .int .i64 0] 31)).setRow w2.heap.size #[.string q, .int .i64 mm]) w.heap.size 33 (RA r)) := Lib.hid ((setRow_other _ _ _ _ (by have := L2.out; omega)).trans (Blk.alloc KR2.out _))
  clear hb2 RP K0 B0 B2 KR2 MC
  go_wp2_with (refine Store.at_store 31 (.tmp 5) (.tmp 15) ?_ ?_; exact rfl; refine wpList_store_row rfl 31 (.tmp 5) (.tmp 15) rfl w2.heap.size #[.string q, .int .i64 mm] rfl rfl 31 _ J2.out (by kernel_rfl) rfl (one_pf _ _) ?_)
  go_ret
  exact ⟨rfl, H.out.below B3.out, Keep.of B3.out⟩
set_option maxRecDepth 100000 in
set_option maxHeartbeats 1600000 in
theorem add_via (F : Nat → Prop) (g : Nat) (rs : List RouteR) (r : RouteR) (w : World) (h : RtAt F w g rs) (hF : ∀ k, F k → k < w.heap.size) (ha : r.x0.size ≤ maxLen) (hv : r.x2.size ≤ maxLen) (hfb : fitB r.x0.size r.x1 = true) (hvb : viaB r.x2 r.x0 = false) :
    Calls Try.prog 10 #[.pointer (some ⟨g, 0, none⟩), .agg (RA r)] w fun e w' => e = .returned (.int .i64 1) ∧ RtAt F w' g rs ∧ Keep F w w' := by
  have H := Lib.hid h
  have HF := Lib.hid hF
  obtain ⟨mm, hmm⟩ : ∃ mm, (if fitB r.x0.size r.x1 then r.x1 else 0) = mm := ⟨_, rfl⟩
  obtain ⟨ec, hec⟩ : ∃ ec, (if fitB r.x0.size r.x1 then (0 : Int) else 1) = ec := ⟨_, rfl⟩
  obtain ⟨q, hq⟩ : ∃ q, pfx r.x0 r.x1 = q := ⟨_, rfl⟩
  have MC := Lib.hid (fun W => masked_any r.x0 r.x1 ha W)
  rw [hmm, hec, hq] at MC
  have VC := Lib.hid (fun W => via_c r ha hv W)
  have B0 := Lib.hid ((Below.refl w.heap.size w).alloc (Nat.le_refl _) (.cells (RA r) 33))
  have K0 := Lib.hid (Blk.new w 33 (RA r))
  have RP : (loadVar 31 ⟨w.heap.size, 0, none⟩).run Try.prog (w.alloc (.cells (RA r) 33)) = .ok (.agg #[.string r.x0, .int .i64 r.x1]) (w.alloc (.cells (RA r) 33)) := Part.run_part _ w.heap.size 0 31 [.string r.x0, .int .i64 r.x1] _ Try.underlying31 rfl (by kernel_rfl) (TabOps.blk_part K0.out 0 2)
  obtain rfl : ec = 0 := by rw [← hec, hfb]; rfl
  rw [hvb] at VC
  clear h hF hq hmm hec hfb ha hv hvb
  go_enter Try.func10, Try.ntmps10
  go_wp2_with (refine Store.at_load 31 (.tmp 12) ?_ ?_; exact rfl; refine Part.wpList_load_part rfl 31 (.tmp 12) rfl w.heap.size 0 [.string r.x0, .int .i64 r.x1] rfl RP ?_)
  refine (MC.out _).mono ?_
  rintro e w2 ⟨rfl, hb2⟩
  have B2 := Lib.hid (B0.out.trans (hb2.mono B0.out.size))
  have L2 : Hid (w.heap.size < w2.heap.size) := Lib.hid (by have := hb2.size; simp at this; omega)
  have KR2 := Lib.hid (K0.out.below hb2 K0.out.lt)
  have J2 := Lib.hid (Blk.new w2 31 #[.string ⟨#[]⟩, .int .i64 0])
  have K3 := Lib.hid (Part.setRow_blk J2.out #[.string q, .int .i64 mm])
  have B3 : Hid (Below w.heap.size w ((w2.alloc (.cells #[.string ⟨#[]⟩, .int .i64 0] 31)).setRow w2.heap.size #[.string q, .int .i64 mm])) := Lib.hid (setRow_bel (B2.out.alloc B2.out.size _) B2.out.size _)
  have KR3 : Hid (Blk ((w2.alloc (.cells #[.string ⟨#[]⟩, .int .i64 0] 31)).setRow w2.heap.size #[.string q, .int .i64 mm]) w.heap.size 33 (RA r)) := Lib.hid ((setRow_other _ _ _ _ (by have := L2.out; omega)).trans (Blk.alloc KR2.out _))
  clear hb2 RP K0 B0 B2 KR2 MC
  go_wp2_with (first | (refine Store.at_store 31 (.tmp 5) (.tmp 15) ?_ ?_; exact rfl; refine wpList_store_row rfl 31 (.tmp 5) (.tmp 15) rfl w2.heap.size #[.string q, .int .i64 mm] rfl rfl 31 _ J2.out (by kernel_rfl) rfl (one_pf _ _) ?_) | (refine Store.at_load 33 (.tmp 3) ?_ ?_; exact rfl; refine Loads.wpList_load_w rfl 33 (.tmp 3) rfl w.heap.size rfl 33 (RA r) (0, 0) _ (KR3.out) Try.underlying33 rfl (by kernel_rfl) ?_))
  refine (VC.out _).mono ?_
  rintro e w4 ⟨rfl, hb4⟩
  have B4 := Lib.hid (B3.out.trans (hb4.mono B3.out.size))
  have KR4 := Lib.hid (KR3.out.below hb4 KR3.out.lt)
  clear hb4 VC K3 J2 KR3 B3
  go_wp2_with fail
  go_ret
  exact ⟨rfl, H.out.below B4.out, Keep.of B4.out⟩
set_option maxRecDepth 100000 in
set_option maxHeartbeats 1600000 in
theorem add_port (F : Nat → Prop) (g : Nat) (rs : List RouteR) (r : RouteR) (w : World) (h : RtAt F w g rs) (hF : ∀ k, F k → k < w.heap.size) (ha : r.x0.size ≤ maxLen) (hv : r.x2.size ≤ maxLen) (hfb : fitB r.x0.size r.x1 = true) (hvb : viaB r.x2 r.x0 = true) (hpb : decide (r.x3 < 0) = true) :
    Calls Try.prog 10 #[.pointer (some ⟨g, 0, none⟩), .agg (RA r)] w fun e w' => e = .returned (.int .i64 1) ∧ RtAt F w' g rs ∧ Keep F w w' := by
  have H := Lib.hid h
  have HF := Lib.hid hF
  obtain ⟨mm, hmm⟩ : ∃ mm, (if fitB r.x0.size r.x1 then r.x1 else 0) = mm := ⟨_, rfl⟩
  obtain ⟨ec, hec⟩ : ∃ ec, (if fitB r.x0.size r.x1 then (0 : Int) else 1) = ec := ⟨_, rfl⟩
  obtain ⟨q, hq⟩ : ∃ q, pfx r.x0 r.x1 = q := ⟨_, rfl⟩
  have MC := Lib.hid (fun W => masked_any r.x0 r.x1 ha W)
  rw [hmm, hec, hq] at MC
  have VC := Lib.hid (fun W => via_c r ha hv W)
  have B0 := Lib.hid ((Below.refl w.heap.size w).alloc (Nat.le_refl _) (.cells (RA r) 33))
  have K0 := Lib.hid (Blk.new w 33 (RA r))
  have RP : (loadVar 31 ⟨w.heap.size, 0, none⟩).run Try.prog (w.alloc (.cells (RA r) 33)) = .ok (.agg #[.string r.x0, .int .i64 r.x1]) (w.alloc (.cells (RA r) 33)) := Part.run_part _ w.heap.size 0 31 [.string r.x0, .int .i64 r.x1] _ Try.underlying31 rfl (by kernel_rfl) (TabOps.blk_part K0.out 0 2)
  obtain rfl : ec = 0 := by rw [← hec, hfb]; rfl
  rw [hvb] at VC
  clear h hF hq hmm hec hfb ha hv hvb
  go_enter Try.func10, Try.ntmps10
  go_wp2_with (refine Store.at_load 31 (.tmp 12) ?_ ?_; exact rfl; refine Part.wpList_load_part rfl 31 (.tmp 12) rfl w.heap.size 0 [.string r.x0, .int .i64 r.x1] rfl RP ?_)
  refine (MC.out _).mono ?_
  rintro e w2 ⟨rfl, hb2⟩
  have B2 := Lib.hid (B0.out.trans (hb2.mono B0.out.size))
  have L2 : Hid (w.heap.size < w2.heap.size) := Lib.hid (by have := hb2.size; simp at this; omega)
  have KR2 := Lib.hid (K0.out.below hb2 K0.out.lt)
  have J2 := Lib.hid (Blk.new w2 31 #[.string ⟨#[]⟩, .int .i64 0])
  have K3 := Lib.hid (Part.setRow_blk J2.out #[.string q, .int .i64 mm])
  have B3 : Hid (Below w.heap.size w ((w2.alloc (.cells #[.string ⟨#[]⟩, .int .i64 0] 31)).setRow w2.heap.size #[.string q, .int .i64 mm])) := Lib.hid (setRow_bel (B2.out.alloc B2.out.size _) B2.out.size _)
  have KR3 : Hid (Blk ((w2.alloc (.cells #[.string ⟨#[]⟩, .int .i64 0] 31)).setRow w2.heap.size #[.string q, .int .i64 mm]) w.heap.size 33 (RA r)) := Lib.hid ((setRow_other _ _ _ _ (by have := L2.out; omega)).trans (Blk.alloc KR2.out _))
  clear hb2 RP K0 B0 B2 KR2 MC
  go_wp2_with (first | (refine Store.at_store 31 (.tmp 5) (.tmp 15) ?_ ?_; exact rfl; refine wpList_store_row rfl 31 (.tmp 5) (.tmp 15) rfl w2.heap.size #[.string q, .int .i64 mm] rfl rfl 31 _ J2.out (by kernel_rfl) rfl (one_pf _ _) ?_) | (refine Store.at_load 33 (.tmp 3) ?_ ?_; exact rfl; refine Loads.wpList_load_w rfl 33 (.tmp 3) rfl w.heap.size rfl 33 (RA r) (0, 0) _ (KR3.out) Try.underlying33 rfl (by kernel_rfl) ?_))
  refine (VC.out _).mono ?_
  rintro e w4 ⟨rfl, hb4⟩
  have B4 := Lib.hid (B3.out.trans (hb4.mono B3.out.size))
  have KR4 := Lib.hid (KR3.out.below hb4 KR3.out.lt)
  clear hb4 VC K3 J2 KR3 B3
  go_wp2_with (refine Store.at_load 3 (.tmp 25) ?_ ?_; exact rfl; refine Store2.wpList_load_cell rfl 3 (.tmp 25) rfl w.heap.size 3 (.int .i64 r.x3) rfl _ Try.underlying3 rfl 33 _ KR4.out rfl ?_)
  go_ret
  exact ⟨rfl, H.out.below B4.out, Keep.of B4.out⟩
theorem add_bad (F : Nat → Prop) (g : Nat) (rs : List RouteR) (r : RouteR) (w : World) (h : RtAt F w g rs) (hF : ∀ k, F k → k < w.heap.size) (ha : r.x0.size ≤ maxLen) (hv : r.x2.size ≤ maxLen) (hb : addB r.x0 r.x1 r.x2 r.x3 = false) :
    Calls Try.prog 10 #[.pointer (some ⟨g, 0, none⟩), .agg (RA r)] w fun e w' => e = .returned (.int .i64 1) ∧ RtAt F w' g rs ∧ Keep F w w' := by
  rcases code_bad r hb with h1 | ⟨h1, h2⟩ | ⟨h1, h2, h3⟩
  · exact add_fit F g rs r w h hF ha hv h1
  · exact add_via F g rs r w h hF ha hv h1 h2
  · exact add_port F g rs r w h hF ha hv h1 h2 h3
end Go.Proofs.Ytnabjhdamofpgaa.Rt5
