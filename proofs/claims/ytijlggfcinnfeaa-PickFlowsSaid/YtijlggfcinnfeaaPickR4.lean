/- The document's Of. -/
import Derived.Test.YtijlggfcinnfeaaPickR3
set_option linter.unusedVariables false
namespace Go.Proofs.Ytijlggfcinnfeaa.PickR4
open Go.RowKit Go.Proofs.Ytijlggfcinnfeaa.Mem Go.Proofs.Ytijlggfcinnfeaa.Blk Go.Proofs.Ytijlggfcinnfeaa.Ahead Go.Proofs.Ytijlggfcinnfeaa.PickD Go.Proofs.Ytijlggfcinnfeaa.PickR1 Go.Proofs.Ytijlggfcinnfeaa.PickR2 Go.Proofs.Ytijlggfcinnfeaa.Free Go.Proofs.Ytijlggfcinnfeaa.Steps Go.Proofs.Ytijlggfcinnfeaa.Regs Go.Proofs.Ytijlggfcinnfeaa.Com Go.Proofs.Ytijlggfcinnfeaa.PickR3

set_option maxRecDepth 100000 in
set_option maxHeartbeats 4000000 in
theorem of_ref (src dst : ByteArray) (pr : Int) (A : Option Addr) (n c : Nat) (l : List Int) (out : Bool) (w : World) (B : Nat) (h : Holds w B A n c l) (hB : B ≤ w.heap.size) :
    Calls Try.prog 9 #[.string src, .string dst, .int .i64 pr, .slice A n c, .bool out] w fun e w' => e = .returned (.tuple #[.agg #[.string (ofR src dst pr l out).here, .string (ofR src dst pr l out).there, .int .i64 (ofR src dst pr l out).pr, .int .i64 (ofR src dst pr l out).near, .int .i64 (ofR src dst pr l out).far], .int .i64 ((ofE src dst pr l.length : Nat) : Int)]) ∧ Below w.heap.size w w' := by
  have PR := Lib.hid (pair_ref src dst)
  have J0 := Lib.hid (Blk.new w 24 #[.string ⟨#[]⟩, .string ⟨#[]⟩, .int .i64 0, .int .i64 0, .int .i64 0])
  have B0 := Lib.hid ((Below.refl w.heap.size w).alloc (Nat.le_refl _) (.cells #[.string ⟨#[]⟩, .string ⟨#[]⟩, .int .i64 0, .int .i64 0, .int .i64 0] 24))
  obtain ⟨x0, hx0⟩ : ∃ x, paired src dst = x := ⟨_, rfl⟩
  rw [hx0] at PR
  have hl := h.1
  cases x0 with
  | false =>
    have EE : Hid (ofE src dst pr l.length = 1) := Lib.hid (by unfold ofE; rw [hx0]; rfl)
    have RR : Hid (ofR src dst pr l out = zeroF) := Lib.hid (by unfold ofR; rw [EE.out]; rfl)
    clear h hx0
    go_enter Try.func9, Try.ntmps9
    go_wp2_with fail
    refine (PR.out _).mono ?_
    rintro e w1 ⟨rfl, rfl⟩
    go_wp2_with (refine wpList_store_row rfl 24 (.tmp 10) (.tmp 25) rfl w.heap.size #[.string ⟨#[]⟩, .string ⟨#[]⟩, .int .i64 0, .int .i64 0, .int .i64 0] rfl rfl 24 _ J0.out (by kernel_rfl) rfl (oneF _ _ _ _ _) ?_)
    exact bodyPost_ret (results_pair rfl _ _ w.heap.size 24 #[.string ⟨#[]⟩, .string ⟨#[]⟩, .int .i64 0, .int .i64 0, .int .i64 0] (0, 0) _ _ rfl rfl (setRow_heap _ _ _ _ _ _ J0.out) Try.underlying24 rfl (by kernel_rfl)) rfl ⟨by rw [EE.out, RR.out]; rfl, setRow_bel B0.out (Nat.le_refl _) _⟩
  | true =>
  by_cases a1 : pr < 0
  · have g1 : decide (pr < 0) = true := decide_eq_true a1
    have EE : Hid (ofE src dst pr l.length = 1) := Lib.hid (by unfold ofE; rw [hx0, decide_eq_false (show ¬ 0 ≤ pr by omega)]; rfl)
    have RR : Hid (ofR src dst pr l out = zeroF) := Lib.hid (by unfold ofR; rw [EE.out]; rfl)
    clear h hx0 a1
    go_enter Try.func9, Try.ntmps9
    go_wp2_with fail
    refine (PR.out _).mono ?_
    rintro e w1 ⟨rfl, rfl⟩
    go_wp2_with (refine wpList_store_row rfl 24 (.tmp 10) (.tmp 25) rfl w.heap.size #[.string ⟨#[]⟩, .string ⟨#[]⟩, .int .i64 0, .int .i64 0, .int .i64 0] rfl rfl 24 _ J0.out (by kernel_rfl) rfl (oneF _ _ _ _ _) ?_)
    exact bodyPost_ret (results_pair rfl _ _ w.heap.size 24 #[.string ⟨#[]⟩, .string ⟨#[]⟩, .int .i64 0, .int .i64 0, .int .i64 0] (0, 0) _ _ rfl rfl (setRow_heap _ _ _ _ _ _ J0.out) Try.underlying24 rfl (by kernel_rfl)) rfl ⟨by rw [EE.out, RR.out]; rfl, setRow_bel B0.out (Nat.le_refl _) _⟩
  have g1 : decide (pr < 0) = false := decide_eq_false a1
  by_cases a2 : 255 < pr
  · have g2 : decide (255 < pr) = true := decide_eq_true a2
    have EE : Hid (ofE src dst pr l.length = 1) := Lib.hid (by unfold ofE; rw [hx0, decide_eq_false (show ¬ pr ≤ 255 by omega), Bool.and_false]; rfl)
    have RR : Hid (ofR src dst pr l out = zeroF) := Lib.hid (by unfold ofR; rw [EE.out]; rfl)
    clear h hx0 a1 a2
    go_enter Try.func9, Try.ntmps9
    go_wp2_with fail
    refine (PR.out _).mono ?_
    rintro e w1 ⟨rfl, rfl⟩
    go_wp2_with (refine wpList_store_row rfl 24 (.tmp 10) (.tmp 25) rfl w.heap.size #[.string ⟨#[]⟩, .string ⟨#[]⟩, .int .i64 0, .int .i64 0, .int .i64 0] rfl rfl 24 _ J0.out (by kernel_rfl) rfl (oneF _ _ _ _ _) ?_)
    exact bodyPost_ret (results_pair rfl _ _ w.heap.size 24 #[.string ⟨#[]⟩, .string ⟨#[]⟩, .int .i64 0, .int .i64 0, .int .i64 0] (0, 0) _ _ rfl rfl (setRow_heap _ _ _ _ _ _ J0.out) Try.underlying24 rfl (by kernel_rfl)) rfl ⟨by rw [EE.out, RR.out]; rfl, setRow_bel B0.out (Nat.le_refl _) _⟩
  have g2 : decide (255 < pr) = false := decide_eq_false a2
  have EV : Hid (ofE src dst pr l.length = if (has pr && decide (n < 4)) = true then 8 else 0) := Lib.hid (by unfold ofE; rw [hx0, decide_eq_true (show 0 ≤ pr by omega), decide_eq_true (show pr ≤ 255 by omega), hl]; rfl)
  have J2 : Hid (Blk ((w.alloc (.cells #[.string ⟨#[]⟩, .string ⟨#[]⟩, .int .i64 0, .int .i64 0, .int .i64 0] 24)).alloc (.cells #[.string ⟨#[]⟩, .string ⟨#[]⟩, .int .i64 0, .int .i64 0, .int .i64 0] 24)) (w.heap.size + 1) 24 #[.string ⟨#[]⟩, .string ⟨#[]⟩, .int .i64 0, .int .i64 0, .int .i64 0]) := Lib.hid (by
    have := Blk.new (w.alloc (.cells #[.string ⟨#[]⟩, .string ⟨#[]⟩, .int .i64 0, .int .i64 0, .int .i64 0] 24)) 24 #[.string ⟨#[]⟩, .string ⟨#[]⟩, .int .i64 0, .int .i64 0, .int .i64 0]
    simpa using this)
  have J1 := Lib.hid (Blk.alloc J0.out (.cells #[.string ⟨#[]⟩, .string ⟨#[]⟩, .int .i64 0, .int .i64 0, .int .i64 0] 24))
  have B2 := Lib.hid (B0.out.alloc (by simp) (.cells #[.string ⟨#[]⟩, .string ⟨#[]⟩, .int .i64 0, .int .i64 0, .int .i64 0] 24))
  have HH := Lib.hid h
  have HB := Lib.hid hB
  have DD := Lib.hid (Regs.getD_in h.2.2.2.1)
  clear h hB hx0 a1 a2
  by_cases b1 : pr = 6
  · have g5 : (pr == 6) = true := by rw [beq_iff_eq]; exact b1
    have HV : Hid (has pr = true) := Lib.hid (by unfold has; simp [b1])
    by_cases q4 : n < 4
    · have g4 : decide ((n : Int) < 4) = true := decide_eq_true (by omega)
      have EE : Hid (ofE src dst pr l.length = 8) := Lib.hid (by rw [EV.out, HV.out, decide_eq_true q4]; rfl)
      have RR : Hid (ofR src dst pr l out = zeroF) := Lib.hid (by unfold ofR; rw [EE.out]; rfl)
      clear b1 HV q4
      go_enter Try.func9, Try.ntmps9
      go_wp2_with fail
      refine (PR.out _).mono ?_
      rintro e w1 ⟨rfl, rfl⟩
      have RG : Hid (Blk (((w.alloc (.cells #[.string ⟨#[]⟩, .string ⟨#[]⟩, .int .i64 0, .int .i64 0, .int .i64 0] 24)).alloc (.cells #[.string ⟨#[]⟩, .string ⟨#[]⟩, .int .i64 0, .int .i64 0, .int .i64 0] 24)).setRow (w.heap.size + 1) #[.string src, .string dst, .int .i64 pr, .int .i64 (-1), .int .i64 (-1)]) (w.heap.size + 1) 24 #[.string src, .string dst, .int .i64 pr, .int .i64 (-1), .int .i64 (-1)]) := Lib.hid (setRow_heap _ _ _ #[.string src, .string dst, .int .i64 pr, .int .i64 (-1), .int .i64 (-1)] _ _ J2.out)
      have RZ : Hid (Blk (((w.alloc (.cells #[.string ⟨#[]⟩, .string ⟨#[]⟩, .int .i64 0, .int .i64 0, .int .i64 0] 24)).alloc (.cells #[.string ⟨#[]⟩, .string ⟨#[]⟩, .int .i64 0, .int .i64 0, .int .i64 0] 24)).setRow (w.heap.size + 1) #[.string src, .string dst, .int .i64 pr, .int .i64 (-1), .int .i64 (-1)]) w.heap.size 24 #[.string ⟨#[]⟩, .string ⟨#[]⟩, .int .i64 0, .int .i64 0, .int .i64 0]) := Lib.hid ((setRow_other _ _ _ _ (by omega)).trans J1.out)
      have B3 := Lib.hid (setRow_bel (g := (w.heap.size + 1)) B2.out (by omega) #[.string src, .string dst, .int .i64 pr, .int .i64 (-1), .int .i64 (-1)])
      go_wp2_with (first | (refine wpList_store_row rfl 24 (.tmp 12) (.tmp 29) rfl (w.heap.size + 1) #[.string src, .string dst, .int .i64 pr, .int .i64 (-1), .int .i64 (-1)] rfl rfl 24 _ J2.out (by kernel_rfl) rfl (oneF _ _ _ _ _) ?_) | (refine wpList_store_row rfl 24 (.tmp 10) (.tmp 39) rfl w.heap.size #[.string ⟨#[]⟩, .string ⟨#[]⟩, .int .i64 0, .int .i64 0, .int .i64 0] rfl rfl 24 _ RZ.out (by kernel_rfl) rfl (oneF _ _ _ _ _) ?_))
      exact bodyPost_ret (results_pair rfl _ _ w.heap.size 24 #[.string ⟨#[]⟩, .string ⟨#[]⟩, .int .i64 0, .int .i64 0, .int .i64 0] (0, 0) _ _ rfl rfl (setRow_heap _ _ _ _ _ _ RZ.out) Try.underlying24 rfl (by kernel_rfl)) rfl ⟨by rw [EE.out, RR.out]; rfl, setRow_bel B3.out (Nat.le_refl _) _⟩
    · have g4 : decide ((n : Int) < 4) = false := decide_eq_false (by omega)
      have n4 : 4 ≤ n := by omega
      obtain ⟨b, p, rfl, _⟩ := HH.out.2.2.2.2 (by omega)
      cases out
      · have EE : Hid (ofE src dst pr l.length = 0) := Lib.hid (by rw [EV.out, HV.out, decide_eq_false q4]; rfl)
        have RR : Hid (ofR src dst pr l false = ⟨dst, src, pr, 256 * l.getD 2 0 + l.getD 3 0, 256 * l.getD 0 0 + l.getD 1 0⟩) := Lib.hid (by unfold ofR ofF; rw [EE.out, if_pos rfl, HV.out]; rfl)
        clear b1 q4 hl
        go_enter Try.func9, Try.ntmps9
        go_wp2_with fail
        refine (PR.out _).mono ?_
        rintro e w1 ⟨rfl, rfl⟩
        go_wp2_with (refine wpList_store_row rfl 24 (.tmp 12) (.tmp 29) rfl (w.heap.size + 1) #[.string src, .string dst, .int .i64 pr, .int .i64 (-1), .int .i64 (-1)] rfl rfl 24 _ J2.out (by kernel_rfl) rfl (oneF _ _ _ _ _) ?_)
        have RG := Lib.hid (setRow_heap _ _ _ #[.string src, .string dst, .int .i64 pr, .int .i64 (-1), .int .i64 (-1)] _ _ J2.out)
        have RZ : Hid (Blk (((w.alloc (.cells #[.string ⟨#[]⟩, .string ⟨#[]⟩, .int .i64 0, .int .i64 0, .int .i64 0] 24)).alloc (.cells #[.string ⟨#[]⟩, .string ⟨#[]⟩, .int .i64 0, .int .i64 0, .int .i64 0] 24)).setRow (w.heap.size + 1) #[.string src, .string dst, .int .i64 pr, .int .i64 (-1), .int .i64 (-1)]) w.heap.size 24 #[.string ⟨#[]⟩, .string ⟨#[]⟩, .int .i64 0, .int .i64 0, .int .i64 0]) := Lib.hid ((setRow_other _ _ _ _ (by omega)).trans J1.out)
        have B3 := Lib.hid (setRow_bel (g := (w.heap.size + 1)) B2.out (by omega) #[.string src, .string dst, .int .i64 pr, .int .i64 (-1), .int .i64 (-1)])
        replace RG : Hid (Blk (((w.alloc (.cells #[.string ⟨#[]⟩, .string ⟨#[]⟩, .int .i64 0, .int .i64 0, .int .i64 0] 24)).alloc (.cells #[.string ⟨#[]⟩, .string ⟨#[]⟩, .int .i64 0, .int .i64 0, .int .i64 0] 24)).setRow (w.heap.size + 1) #[.string src, .string dst, .int .i64 pr, .int .i64 (-1), .int .i64 (-1)]) (w.heap.size + 1) 24 #[.string src, .string dst, .int .i64 pr, .int .i64 (-1), .int .i64 (-1)]) := Lib.hid RG.out
        generalize ((w.alloc (.cells #[.string ⟨#[]⟩, .string ⟨#[]⟩, .int .i64 0, .int .i64 0, .int .i64 0] 24)).alloc (.cells #[.string ⟨#[]⟩, .string ⟨#[]⟩, .int .i64 0, .int .i64 0, .int .i64 0] 24)).setRow (w.heap.size + 1) #[.string src, .string dst, .int .i64 pr, .int .i64 (-1), .int .i64 (-1)] = w3 at *
        clear J0 J1 J2 B0 B2
        have X7 : Hid (∀ V, Below w3.drew.heap.size w3.drew V → Holds V B (some ⟨b, p, none⟩) n c l) := Lib.hid fun V hV => ((show Holds w3.drew B (some ⟨b, p, none⟩) n c l from (HH.out.below (B3.out.mono HB.out)).keep fun _ _ _ => rfl)).below (hV.mono (by have := B3.out.size; have := HB.out; exact Nat.le_trans HB.out B3.out.size))
        have d7a := DD.out 0
        have d7b := DD.out 1
        go_wp2_with fail
        -- REGION 7
        refine wp_region_free [0, 1, 2, 3, 4, 5, 6, 7, 8, 9, 10] 11 [] (fun w1 w2 => Below w1.heap.size w1 w2) (fun k' w' v => match k' with
          | 0 => v = .slice (some ⟨b, p, none⟩) n c
          | 1 => v = .pointer (some ⟨b, p + 0, none⟩)
          | 2 => v = .int .u8 (l.getD 0 0)
          | 3 => v = .int .i64 (l.getD 0 0)
          | 4 => v = .int .i64 (256 * l.getD 0 0)
          | 5 => v = .slice (some ⟨b, p, none⟩) n c
          | 6 => v = .pointer (some ⟨b, p + 1, none⟩)
          | 7 => v = .int .u8 (l.getD 1 0)
          | 8 => v = .int .i64 (l.getD 1 0)
          | 9 => v = .int .i64 (256 * l.getD 0 0 + l.getD 1 0)
          | _ => v = .pointer (some ⟨(w.heap.size + 1), 3, none⟩)) (by kernel_rfl) (by kernel_rfl) (Below.refl _ _) (fun _ _ _ h k => h.trans (k.mono h.size)) (fun k' w1 w2 v h => match k' with
          | 0 => fun x => x
          | 1 => fun x => x
          | 2 => fun x => x
          | 3 => fun x => x
          | 4 => fun x => x
          | 5 => fun x => x
          | 6 => fun x => x
          | 7 => fun x => x
          | 8 => fun x => x
          | 9 => fun x => x
          | _ + 10 => fun x => x) (fun _ _ _ _ _ h => h) ?_ _ (by rfl) ?_
        · refine obs_cons (by rfl) (fun vals w' hgr hdep K hK => ?_) (obs_cons (by rfl) (fun vals w' hgr hdep K hK => ?_) (obs_cons (by rfl) (fun vals w' hgr hdep K hK => ?_) (obs_cons (by rfl) (fun vals w' hgr hdep K hK => ?_) (obs_cons (by rfl) (fun vals w' hgr hdep K hK => ?_) (obs_cons (by rfl) (fun vals w' hgr hdep K hK => ?_) (obs_cons (by rfl) (fun vals w' hgr hdep K hK => ?_) (obs_cons (by rfl) (fun vals w' hgr hdep K hK => ?_) (obs_cons (by rfl) (fun vals w' hgr hdep K hK => ?_) (obs_cons (by rfl) (fun vals w' hgr hdep K hK => ?_) (obs_cons (by rfl) (fun vals w' hgr hdep K hK => ?_) (obs_nil)))))))))))
          · exact wp_move (.tmp 3) rfl _ (at_out _ (by kernel_rfl) rfl) (hK _ _ (Below.refl _ _) rfl)
          · exact st_byte_at (.tmp 40) (.const (.int .i64 0)) rfl b p n c 0 ((at_dst 0 (by kernel_rfl)).trans (hdep 0 (by simp) (by kernel_rfl))) rfl (by omega) (hK _ _ (Below.refl _ _) rfl)
          · exact wp_load1 (.tmp 41) rfl ⟨b, p + 0, none⟩ ((at_dst 1 (by kernel_rfl)).trans (hdep 1 (by simp) (by kernel_rfl))) Try.underlying5 rfl _ (cell_getD (X7.out _ hgr) 0 (by omega)) (hK _ _ (Below.refl _ _) rfl)
          · exact wp_conv (.tmp 42) rfl _ _ ((at_dst 2 (by kernel_rfl)).trans (hdep 2 (by simp) (by kernel_rfl))) (conv_int _ _ (by omega) (by omega)) (hK _ _ (Below.refl _ _) rfl)
          · exact wp_bin (.const (.int .i64 256)) (.tmp 43) rfl _ _ _ rfl ((at_dst 3 (by kernel_rfl)).trans (hdep 3 (by simp) (by kernel_rfl))) (b_mul _ _ _ _ _ (by omega) (by omega)) (hK _ _ (Below.refl _ _) rfl)
          · exact wp_move (.tmp 3) rfl _ (at_out _ (by kernel_rfl) rfl) (hK _ _ (Below.refl _ _) rfl)
          · exact st_byte_at (.tmp 45) (.const (.int .i64 1)) rfl b p n c 1 ((at_dst 5 (by kernel_rfl)).trans (hdep 5 (by simp) (by kernel_rfl))) rfl (by omega) (hK _ _ (Below.refl _ _) rfl)
          · exact wp_load1 (.tmp 46) rfl ⟨b, p + 1, none⟩ ((at_dst 6 (by kernel_rfl)).trans (hdep 6 (by simp) (by kernel_rfl))) Try.underlying5 rfl _ (cell_getD (X7.out _ hgr) 1 (by omega)) (hK _ _ (Below.refl _ _) rfl)
          · exact wp_conv (.tmp 47) rfl _ _ ((at_dst 7 (by kernel_rfl)).trans (hdep 7 (by simp) (by kernel_rfl))) (conv_int _ _ (by omega) (by omega)) (hK _ _ (Below.refl _ _) rfl)
          · exact wp_bin (.tmp 44) (.tmp 48) rfl _ _ _ ((at_dst 4 (by kernel_rfl)).trans (hdep 4 (by simp) (by kernel_rfl))) ((at_dst 8 (by kernel_rfl)).trans (hdep 8 (by simp) (by kernel_rfl))) (b_add _ _ _ _ _ (by omega) (by omega)) (hK _ _ (Below.refl _ _) rfl)
          · exact wp_field (.tmp 12) rfl _ _ (at_out _ (by kernel_rfl) rfl) (fldF3 _ _) (hK _ _ (Below.refl _ _) rfl)
        · intro vals w' hgr hG
          have RGw := Lib.hid (Blk.below (show Blk w3.drew (w.heap.size + 1) 24 #[.string src, .string dst, .int .i64 pr, .int .i64 (-1), .int .i64 (-1)] from RG.out) hgr (Blk.lt RG.out))
          have RZw := Lib.hid (Blk.below (show Blk w3.drew w.heap.size 24 #[.string ⟨#[]⟩, .string ⟨#[]⟩, .int .i64 0, .int .i64 0, .int .i64 0] from RZ.out) hgr (Blk.lt RZ.out))
          have BBw := Lib.hid (B3.out.trans (((below_drewN (Below.refl w3.heap.size w3) 1).trans hgr).mono B3.out.size))
          refine st_store_i (.tmp 50) (.tmp 49) rfl ⟨(w.heap.size + 1), 3, none⟩ ((at_dst 10 (by kernel_rfl)).trans (hG 10 (by simp))) (256 * l.getD 0 0 + l.getD 1 0) ((at_dst 9 (by kernel_rfl)).trans (hG 9 (by simp))) _ (RGw.out.cell 3) (RGw.out.frozen 3) (wpAnyH_done (by kernel_rfl) ?_ _)
          have RG4 : Hid (Blk (w'.setCell ⟨(w.heap.size + 1), 3, none⟩ (.int .i64 (256 * l.getD 0 0 + l.getD 1 0))) (w.heap.size + 1) 24 #[.string src, .string dst, .int .i64 pr, .int .i64 (256 * l.getD 0 0 + l.getD 1 0), .int .i64 (-1)]) := Lib.hid (Blk.put RGw.out 3 _)
          have RZ4 := Lib.hid (Blk.far RZw.out (p := ⟨(w.heap.size + 1), 3, none⟩) (show w.heap.size ≠ (w.heap.size + 1) by omega) (.int .i64 (256 * l.getD 0 0 + l.getD 1 0)))
          have B4 := Lib.hid (BBw.out.setCell (p := ⟨(w.heap.size + 1), 3, none⟩) (show w.heap.size ≤ (w.heap.size + 1) by omega) (.int .i64 (256 * l.getD 0 0 + l.getD 1 0)))
          clear hG hgr RGw RZw BBw X7 RG RZ B3
          simp only [fill, dstAt, List.getElem?_cons_zero, List.getElem?_cons_succ, Option.bind_some, Act.put, List.setIfInBounds_toArray, List.set_cons_zero, List.set_cons_succ]
          generalize vals 0 = z7_0, vals 1 = z7_1, vals 2 = z7_2, vals 3 = z7_3, vals 4 = z7_4, vals 5 = z7_5, vals 6 = z7_6, vals 7 = z7_7, vals 8 = z7_8, vals 9 = z7_9, vals 10 = z7_10 at *
          generalize w'.setCell ⟨(w.heap.size + 1), 3, none⟩ (.int .i64 (256 * l.getD 0 0 + l.getD 1 0)) = w4 at *
          have X8 : Hid (∀ V, Below w4.drew.heap.size w4.drew V → Holds V B (some ⟨b, p, none⟩) n c l) := Lib.hid fun V hV => ((show Holds w4.drew B (some ⟨b, p, none⟩) n c l from (HH.out.below (B4.out.mono HB.out)).keep fun _ _ _ => rfl)).below (hV.mono (by have := B4.out.size; have := HB.out; exact Nat.le_trans HB.out B4.out.size))
          have d8a := DD.out 2
          have d8b := DD.out 3
          go_wp2_with fail
          -- REGION 8
          refine wp_region_free [0, 1, 2, 3, 4, 5, 6, 7, 8, 9, 10] 11 [] (fun w1 w2 => Below w1.heap.size w1 w2) (fun k' w' v => match k' with
            | 0 => v = .slice (some ⟨b, p, none⟩) n c
            | 1 => v = .pointer (some ⟨b, p + 2, none⟩)
            | 2 => v = .int .u8 (l.getD 2 0)
            | 3 => v = .int .i64 (l.getD 2 0)
            | 4 => v = .int .i64 (256 * l.getD 2 0)
            | 5 => v = .slice (some ⟨b, p, none⟩) n c
            | 6 => v = .pointer (some ⟨b, p + 3, none⟩)
            | 7 => v = .int .u8 (l.getD 3 0)
            | 8 => v = .int .i64 (l.getD 3 0)
            | 9 => v = .int .i64 (256 * l.getD 2 0 + l.getD 3 0)
            | _ => v = .pointer (some ⟨(w.heap.size + 1), 4, none⟩)) (by kernel_rfl) (by kernel_rfl) (Below.refl _ _) (fun _ _ _ h k => h.trans (k.mono h.size)) (fun k' w1 w2 v h => match k' with
            | 0 => fun x => x
            | 1 => fun x => x
            | 2 => fun x => x
            | 3 => fun x => x
            | 4 => fun x => x
            | 5 => fun x => x
            | 6 => fun x => x
            | 7 => fun x => x
            | 8 => fun x => x
            | 9 => fun x => x
            | _ + 10 => fun x => x) (fun _ _ _ _ _ h => h) ?_ _ (by rfl) ?_
          · refine obs_cons (by rfl) (fun vals w' hgr hdep K hK => ?_) (obs_cons (by rfl) (fun vals w' hgr hdep K hK => ?_) (obs_cons (by rfl) (fun vals w' hgr hdep K hK => ?_) (obs_cons (by rfl) (fun vals w' hgr hdep K hK => ?_) (obs_cons (by rfl) (fun vals w' hgr hdep K hK => ?_) (obs_cons (by rfl) (fun vals w' hgr hdep K hK => ?_) (obs_cons (by rfl) (fun vals w' hgr hdep K hK => ?_) (obs_cons (by rfl) (fun vals w' hgr hdep K hK => ?_) (obs_cons (by rfl) (fun vals w' hgr hdep K hK => ?_) (obs_cons (by rfl) (fun vals w' hgr hdep K hK => ?_) (obs_cons (by rfl) (fun vals w' hgr hdep K hK => ?_) (obs_nil)))))))))))
            · exact wp_move (.tmp 3) rfl _ (at_out _ (by kernel_rfl) rfl) (hK _ _ (Below.refl _ _) rfl)
            · exact st_byte_at (.tmp 51) (.const (.int .i64 2)) rfl b p n c 2 ((at_dst 0 (by kernel_rfl)).trans (hdep 0 (by simp) (by kernel_rfl))) rfl (by omega) (hK _ _ (Below.refl _ _) rfl)
            · exact wp_load1 (.tmp 52) rfl ⟨b, p + 2, none⟩ ((at_dst 1 (by kernel_rfl)).trans (hdep 1 (by simp) (by kernel_rfl))) Try.underlying5 rfl _ (cell_getD (X8.out _ hgr) 2 (by omega)) (hK _ _ (Below.refl _ _) rfl)
            · exact wp_conv (.tmp 53) rfl _ _ ((at_dst 2 (by kernel_rfl)).trans (hdep 2 (by simp) (by kernel_rfl))) (conv_int _ _ (by omega) (by omega)) (hK _ _ (Below.refl _ _) rfl)
            · exact wp_bin (.const (.int .i64 256)) (.tmp 54) rfl _ _ _ rfl ((at_dst 3 (by kernel_rfl)).trans (hdep 3 (by simp) (by kernel_rfl))) (b_mul _ _ _ _ _ (by omega) (by omega)) (hK _ _ (Below.refl _ _) rfl)
            · exact wp_move (.tmp 3) rfl _ (at_out _ (by kernel_rfl) rfl) (hK _ _ (Below.refl _ _) rfl)
            · exact st_byte_at (.tmp 56) (.const (.int .i64 3)) rfl b p n c 3 ((at_dst 5 (by kernel_rfl)).trans (hdep 5 (by simp) (by kernel_rfl))) rfl (by omega) (hK _ _ (Below.refl _ _) rfl)
            · exact wp_load1 (.tmp 57) rfl ⟨b, p + 3, none⟩ ((at_dst 6 (by kernel_rfl)).trans (hdep 6 (by simp) (by kernel_rfl))) Try.underlying5 rfl _ (cell_getD (X8.out _ hgr) 3 (by omega)) (hK _ _ (Below.refl _ _) rfl)
            · exact wp_conv (.tmp 58) rfl _ _ ((at_dst 7 (by kernel_rfl)).trans (hdep 7 (by simp) (by kernel_rfl))) (conv_int _ _ (by omega) (by omega)) (hK _ _ (Below.refl _ _) rfl)
            · exact wp_bin (.tmp 55) (.tmp 59) rfl _ _ _ ((at_dst 4 (by kernel_rfl)).trans (hdep 4 (by simp) (by kernel_rfl))) ((at_dst 8 (by kernel_rfl)).trans (hdep 8 (by simp) (by kernel_rfl))) (b_add _ _ _ _ _ (by omega) (by omega)) (hK _ _ (Below.refl _ _) rfl)
            · exact wp_field (.tmp 12) rfl _ _ (at_out _ (by kernel_rfl) rfl) (fldF4 _ _) (hK _ _ (Below.refl _ _) rfl)
          · intro vals w' hgr hG
            have RGw := Lib.hid (Blk.below (show Blk w4.drew (w.heap.size + 1) 24 #[.string src, .string dst, .int .i64 pr, .int .i64 (256 * l.getD 0 0 + l.getD 1 0), .int .i64 (-1)] from RG4.out) hgr (Blk.lt RG4.out))
            have RZw := Lib.hid (Blk.below (show Blk w4.drew w.heap.size 24 #[.string ⟨#[]⟩, .string ⟨#[]⟩, .int .i64 0, .int .i64 0, .int .i64 0] from RZ4.out) hgr (Blk.lt RZ4.out))
            have BBw := Lib.hid (B4.out.trans (((below_drewN (Below.refl w4.heap.size w4) 1).trans hgr).mono B4.out.size))
            refine st_store_i (.tmp 61) (.tmp 60) rfl ⟨(w.heap.size + 1), 4, none⟩ ((at_dst 10 (by kernel_rfl)).trans (hG 10 (by simp))) (256 * l.getD 2 0 + l.getD 3 0) ((at_dst 9 (by kernel_rfl)).trans (hG 9 (by simp))) _ (RGw.out.cell 4) (RGw.out.frozen 4) (wpAnyH_done (by kernel_rfl) ?_ _)
            have RG5 : Hid (Blk (w'.setCell ⟨(w.heap.size + 1), 4, none⟩ (.int .i64 (256 * l.getD 2 0 + l.getD 3 0))) (w.heap.size + 1) 24 #[.string src, .string dst, .int .i64 pr, .int .i64 (256 * l.getD 0 0 + l.getD 1 0), .int .i64 (256 * l.getD 2 0 + l.getD 3 0)]) := Lib.hid (Blk.put RGw.out 4 _)
            have RZ5 := Lib.hid (Blk.far RZw.out (p := ⟨(w.heap.size + 1), 4, none⟩) (show w.heap.size ≠ (w.heap.size + 1) by omega) (.int .i64 (256 * l.getD 2 0 + l.getD 3 0)))
            have B5 := Lib.hid (BBw.out.setCell (p := ⟨(w.heap.size + 1), 4, none⟩) (show w.heap.size ≤ (w.heap.size + 1) by omega) (.int .i64 (256 * l.getD 2 0 + l.getD 3 0)))
            clear hG hgr RGw RZw BBw X8 RG4 RZ4 B4
            simp only [fill, dstAt, List.getElem?_cons_zero, List.getElem?_cons_succ, Option.bind_some, Act.put, List.setIfInBounds_toArray, List.set_cons_zero, List.set_cons_succ]
            generalize vals 0 = z8_0, vals 1 = z8_1, vals 2 = z8_2, vals 3 = z8_3, vals 4 = z8_4, vals 5 = z8_5, vals 6 = z8_6, vals 7 = z8_7, vals 8 = z8_8, vals 9 = z8_9, vals 10 = z8_10 at *
            generalize w'.setCell ⟨(w.heap.size + 1), 4, none⟩ (.int .i64 (256 * l.getD 2 0 + l.getD 3 0)) = w5 at *
            go_wp2_with (refine Loads.wpList_load_w rfl 24 (.tmp 12) rfl (w.heap.size + 1) rfl 24 #[.string src, .string dst, .int .i64 pr, .int .i64 (256 * l.getD 0 0 + l.getD 1 0), .int .i64 (256 * l.getD 2 0 + l.getD 3 0)] (0, 0) _ (RG5.out) Try.underlying24 rfl (by kernel_rfl) ?_)
            refine (turned_ref src dst pr (256 * l.getD 0 0 + l.getD 1 0) (256 * l.getD 2 0 + l.getD 3 0) w5).mono ?_
            rintro e wt ⟨rfl, hb⟩
            have RGt := Lib.hid (Blk.below RG5.out hb (Blk.lt RG5.out))
            have RZt := Lib.hid (Blk.below RZ5.out hb (Blk.lt RZ5.out))
            have BBt := Lib.hid (B5.out.trans (hb.mono B5.out.size))
            clear hb
            have RGu : Hid (Blk (wt.setRow (w.heap.size + 1) #[.string dst, .string src, .int .i64 pr, .int .i64 (256 * l.getD 2 0 + l.getD 3 0), .int .i64 (256 * l.getD 0 0 + l.getD 1 0)]) (w.heap.size + 1) 24 #[.string dst, .string src, .int .i64 pr, .int .i64 (256 * l.getD 2 0 + l.getD 3 0), .int .i64 (256 * l.getD 0 0 + l.getD 1 0)]) := Lib.hid (setRow_heap _ _ _ _ _ _ RGt.out)
            have RZu : Hid (Blk (wt.setRow (w.heap.size + 1) #[.string dst, .string src, .int .i64 pr, .int .i64 (256 * l.getD 2 0 + l.getD 3 0), .int .i64 (256 * l.getD 0 0 + l.getD 1 0)]) w.heap.size 24 #[.string ⟨#[]⟩, .string ⟨#[]⟩, .int .i64 0, .int .i64 0, .int .i64 0]) := Lib.hid ((setRow_other _ _ _ _ (by omega)).trans RZt.out)
            have BBu := Lib.hid (setRow_bel (g := (w.heap.size + 1)) BBt.out (by omega) #[.string dst, .string src, .int .i64 pr, .int .i64 (256 * l.getD 2 0 + l.getD 3 0), .int .i64 (256 * l.getD 0 0 + l.getD 1 0)])
            go_wp2_with (first | (refine wpList_store_row rfl 24 (.tmp 12) (.tmp 65) rfl (w.heap.size + 1) #[.string dst, .string src, .int .i64 pr, .int .i64 (256 * l.getD 2 0 + l.getD 3 0), .int .i64 (256 * l.getD 0 0 + l.getD 1 0)] rfl rfl 24 _ RGt.out (by kernel_rfl) rfl (oneF _ _ _ _ _) ?_) | (refine Loads.wpList_load_w rfl 24 (.tmp 12) rfl (w.heap.size + 1) rfl 24 #[.string dst, .string src, .int .i64 pr, .int .i64 (256 * l.getD 2 0 + l.getD 3 0), .int .i64 (256 * l.getD 0 0 + l.getD 1 0)] (0, 0) _ (RGu.out) Try.underlying24 rfl (by kernel_rfl) ?_) | (refine wpList_store_row rfl 24 (.tmp 10) (.tmp 66) rfl w.heap.size #[.string dst, .string src, .int .i64 pr, .int .i64 (256 * l.getD 2 0 + l.getD 3 0), .int .i64 (256 * l.getD 0 0 + l.getD 1 0)] rfl rfl 24 _ RZu.out (by kernel_rfl) rfl (oneF _ _ _ _ _) ?_))
            exact bodyPost_ret (results_pair rfl _ _ w.heap.size 24 #[.string dst, .string src, .int .i64 pr, .int .i64 (256 * l.getD 2 0 + l.getD 3 0), .int .i64 (256 * l.getD 0 0 + l.getD 1 0)] (0, 0) _ _ rfl rfl (setRow_heap _ _ _ _ _ _ RZu.out) Try.underlying24 rfl (by kernel_rfl)) rfl ⟨by rw [EE.out, RR.out]; rfl, setRow_bel BBu.out (Nat.le_refl _) _⟩
      · have EE : Hid (ofE src dst pr l.length = 0) := Lib.hid (by rw [EV.out, HV.out, decide_eq_false q4]; rfl)
        have RR : Hid (ofR src dst pr l true = ⟨src, dst, pr, 256 * l.getD 0 0 + l.getD 1 0, 256 * l.getD 2 0 + l.getD 3 0⟩) := Lib.hid (by unfold ofR ofF; rw [EE.out, if_pos rfl, HV.out]; rfl)
        clear b1 q4 hl
        go_enter Try.func9, Try.ntmps9
        go_wp2_with fail
        refine (PR.out _).mono ?_
        rintro e w1 ⟨rfl, rfl⟩
        go_wp2_with (refine wpList_store_row rfl 24 (.tmp 12) (.tmp 29) rfl (w.heap.size + 1) #[.string src, .string dst, .int .i64 pr, .int .i64 (-1), .int .i64 (-1)] rfl rfl 24 _ J2.out (by kernel_rfl) rfl (oneF _ _ _ _ _) ?_)
        have RG := Lib.hid (setRow_heap _ _ _ #[.string src, .string dst, .int .i64 pr, .int .i64 (-1), .int .i64 (-1)] _ _ J2.out)
        have RZ : Hid (Blk (((w.alloc (.cells #[.string ⟨#[]⟩, .string ⟨#[]⟩, .int .i64 0, .int .i64 0, .int .i64 0] 24)).alloc (.cells #[.string ⟨#[]⟩, .string ⟨#[]⟩, .int .i64 0, .int .i64 0, .int .i64 0] 24)).setRow (w.heap.size + 1) #[.string src, .string dst, .int .i64 pr, .int .i64 (-1), .int .i64 (-1)]) w.heap.size 24 #[.string ⟨#[]⟩, .string ⟨#[]⟩, .int .i64 0, .int .i64 0, .int .i64 0]) := Lib.hid ((setRow_other _ _ _ _ (by omega)).trans J1.out)
        have B3 := Lib.hid (setRow_bel (g := (w.heap.size + 1)) B2.out (by omega) #[.string src, .string dst, .int .i64 pr, .int .i64 (-1), .int .i64 (-1)])
        replace RG : Hid (Blk (((w.alloc (.cells #[.string ⟨#[]⟩, .string ⟨#[]⟩, .int .i64 0, .int .i64 0, .int .i64 0] 24)).alloc (.cells #[.string ⟨#[]⟩, .string ⟨#[]⟩, .int .i64 0, .int .i64 0, .int .i64 0] 24)).setRow (w.heap.size + 1) #[.string src, .string dst, .int .i64 pr, .int .i64 (-1), .int .i64 (-1)]) (w.heap.size + 1) 24 #[.string src, .string dst, .int .i64 pr, .int .i64 (-1), .int .i64 (-1)]) := Lib.hid RG.out
        generalize ((w.alloc (.cells #[.string ⟨#[]⟩, .string ⟨#[]⟩, .int .i64 0, .int .i64 0, .int .i64 0] 24)).alloc (.cells #[.string ⟨#[]⟩, .string ⟨#[]⟩, .int .i64 0, .int .i64 0, .int .i64 0] 24)).setRow (w.heap.size + 1) #[.string src, .string dst, .int .i64 pr, .int .i64 (-1), .int .i64 (-1)] = w3 at *
        clear J0 J1 J2 B0 B2
        have X7 : Hid (∀ V, Below w3.drew.heap.size w3.drew V → Holds V B (some ⟨b, p, none⟩) n c l) := Lib.hid fun V hV => ((show Holds w3.drew B (some ⟨b, p, none⟩) n c l from (HH.out.below (B3.out.mono HB.out)).keep fun _ _ _ => rfl)).below (hV.mono (by have := B3.out.size; have := HB.out; exact Nat.le_trans HB.out B3.out.size))
        have d7a := DD.out 0
        have d7b := DD.out 1
        go_wp2_with fail
        -- REGION 7
        refine wp_region_free [0, 1, 2, 3, 4, 5, 6, 7, 8, 9, 10] 11 [] (fun w1 w2 => Below w1.heap.size w1 w2) (fun k' w' v => match k' with
          | 0 => v = .slice (some ⟨b, p, none⟩) n c
          | 1 => v = .pointer (some ⟨b, p + 0, none⟩)
          | 2 => v = .int .u8 (l.getD 0 0)
          | 3 => v = .int .i64 (l.getD 0 0)
          | 4 => v = .int .i64 (256 * l.getD 0 0)
          | 5 => v = .slice (some ⟨b, p, none⟩) n c
          | 6 => v = .pointer (some ⟨b, p + 1, none⟩)
          | 7 => v = .int .u8 (l.getD 1 0)
          | 8 => v = .int .i64 (l.getD 1 0)
          | 9 => v = .int .i64 (256 * l.getD 0 0 + l.getD 1 0)
          | _ => v = .pointer (some ⟨(w.heap.size + 1), 3, none⟩)) (by kernel_rfl) (by kernel_rfl) (Below.refl _ _) (fun _ _ _ h k => h.trans (k.mono h.size)) (fun k' w1 w2 v h => match k' with
          | 0 => fun x => x
          | 1 => fun x => x
          | 2 => fun x => x
          | 3 => fun x => x
          | 4 => fun x => x
          | 5 => fun x => x
          | 6 => fun x => x
          | 7 => fun x => x
          | 8 => fun x => x
          | 9 => fun x => x
          | _ + 10 => fun x => x) (fun _ _ _ _ _ h => h) ?_ _ (by rfl) ?_
        · refine obs_cons (by rfl) (fun vals w' hgr hdep K hK => ?_) (obs_cons (by rfl) (fun vals w' hgr hdep K hK => ?_) (obs_cons (by rfl) (fun vals w' hgr hdep K hK => ?_) (obs_cons (by rfl) (fun vals w' hgr hdep K hK => ?_) (obs_cons (by rfl) (fun vals w' hgr hdep K hK => ?_) (obs_cons (by rfl) (fun vals w' hgr hdep K hK => ?_) (obs_cons (by rfl) (fun vals w' hgr hdep K hK => ?_) (obs_cons (by rfl) (fun vals w' hgr hdep K hK => ?_) (obs_cons (by rfl) (fun vals w' hgr hdep K hK => ?_) (obs_cons (by rfl) (fun vals w' hgr hdep K hK => ?_) (obs_cons (by rfl) (fun vals w' hgr hdep K hK => ?_) (obs_nil)))))))))))
          · exact wp_move (.tmp 3) rfl _ (at_out _ (by kernel_rfl) rfl) (hK _ _ (Below.refl _ _) rfl)
          · exact st_byte_at (.tmp 40) (.const (.int .i64 0)) rfl b p n c 0 ((at_dst 0 (by kernel_rfl)).trans (hdep 0 (by simp) (by kernel_rfl))) rfl (by omega) (hK _ _ (Below.refl _ _) rfl)
          · exact wp_load1 (.tmp 41) rfl ⟨b, p + 0, none⟩ ((at_dst 1 (by kernel_rfl)).trans (hdep 1 (by simp) (by kernel_rfl))) Try.underlying5 rfl _ (cell_getD (X7.out _ hgr) 0 (by omega)) (hK _ _ (Below.refl _ _) rfl)
          · exact wp_conv (.tmp 42) rfl _ _ ((at_dst 2 (by kernel_rfl)).trans (hdep 2 (by simp) (by kernel_rfl))) (conv_int _ _ (by omega) (by omega)) (hK _ _ (Below.refl _ _) rfl)
          · exact wp_bin (.const (.int .i64 256)) (.tmp 43) rfl _ _ _ rfl ((at_dst 3 (by kernel_rfl)).trans (hdep 3 (by simp) (by kernel_rfl))) (b_mul _ _ _ _ _ (by omega) (by omega)) (hK _ _ (Below.refl _ _) rfl)
          · exact wp_move (.tmp 3) rfl _ (at_out _ (by kernel_rfl) rfl) (hK _ _ (Below.refl _ _) rfl)
          · exact st_byte_at (.tmp 45) (.const (.int .i64 1)) rfl b p n c 1 ((at_dst 5 (by kernel_rfl)).trans (hdep 5 (by simp) (by kernel_rfl))) rfl (by omega) (hK _ _ (Below.refl _ _) rfl)
          · exact wp_load1 (.tmp 46) rfl ⟨b, p + 1, none⟩ ((at_dst 6 (by kernel_rfl)).trans (hdep 6 (by simp) (by kernel_rfl))) Try.underlying5 rfl _ (cell_getD (X7.out _ hgr) 1 (by omega)) (hK _ _ (Below.refl _ _) rfl)
          · exact wp_conv (.tmp 47) rfl _ _ ((at_dst 7 (by kernel_rfl)).trans (hdep 7 (by simp) (by kernel_rfl))) (conv_int _ _ (by omega) (by omega)) (hK _ _ (Below.refl _ _) rfl)
          · exact wp_bin (.tmp 44) (.tmp 48) rfl _ _ _ ((at_dst 4 (by kernel_rfl)).trans (hdep 4 (by simp) (by kernel_rfl))) ((at_dst 8 (by kernel_rfl)).trans (hdep 8 (by simp) (by kernel_rfl))) (b_add _ _ _ _ _ (by omega) (by omega)) (hK _ _ (Below.refl _ _) rfl)
          · exact wp_field (.tmp 12) rfl _ _ (at_out _ (by kernel_rfl) rfl) (fldF3 _ _) (hK _ _ (Below.refl _ _) rfl)
        · intro vals w' hgr hG
          have RGw := Lib.hid (Blk.below (show Blk w3.drew (w.heap.size + 1) 24 #[.string src, .string dst, .int .i64 pr, .int .i64 (-1), .int .i64 (-1)] from RG.out) hgr (Blk.lt RG.out))
          have RZw := Lib.hid (Blk.below (show Blk w3.drew w.heap.size 24 #[.string ⟨#[]⟩, .string ⟨#[]⟩, .int .i64 0, .int .i64 0, .int .i64 0] from RZ.out) hgr (Blk.lt RZ.out))
          have BBw := Lib.hid (B3.out.trans (((below_drewN (Below.refl w3.heap.size w3) 1).trans hgr).mono B3.out.size))
          refine st_store_i (.tmp 50) (.tmp 49) rfl ⟨(w.heap.size + 1), 3, none⟩ ((at_dst 10 (by kernel_rfl)).trans (hG 10 (by simp))) (256 * l.getD 0 0 + l.getD 1 0) ((at_dst 9 (by kernel_rfl)).trans (hG 9 (by simp))) _ (RGw.out.cell 3) (RGw.out.frozen 3) (wpAnyH_done (by kernel_rfl) ?_ _)
          have RG4 : Hid (Blk (w'.setCell ⟨(w.heap.size + 1), 3, none⟩ (.int .i64 (256 * l.getD 0 0 + l.getD 1 0))) (w.heap.size + 1) 24 #[.string src, .string dst, .int .i64 pr, .int .i64 (256 * l.getD 0 0 + l.getD 1 0), .int .i64 (-1)]) := Lib.hid (Blk.put RGw.out 3 _)
          have RZ4 := Lib.hid (Blk.far RZw.out (p := ⟨(w.heap.size + 1), 3, none⟩) (show w.heap.size ≠ (w.heap.size + 1) by omega) (.int .i64 (256 * l.getD 0 0 + l.getD 1 0)))
          have B4 := Lib.hid (BBw.out.setCell (p := ⟨(w.heap.size + 1), 3, none⟩) (show w.heap.size ≤ (w.heap.size + 1) by omega) (.int .i64 (256 * l.getD 0 0 + l.getD 1 0)))
          clear hG hgr RGw RZw BBw X7 RG RZ B3
          simp only [fill, dstAt, List.getElem?_cons_zero, List.getElem?_cons_succ, Option.bind_some, Act.put, List.setIfInBounds_toArray, List.set_cons_zero, List.set_cons_succ]
          generalize vals 0 = z7_0, vals 1 = z7_1, vals 2 = z7_2, vals 3 = z7_3, vals 4 = z7_4, vals 5 = z7_5, vals 6 = z7_6, vals 7 = z7_7, vals 8 = z7_8, vals 9 = z7_9, vals 10 = z7_10 at *
          generalize w'.setCell ⟨(w.heap.size + 1), 3, none⟩ (.int .i64 (256 * l.getD 0 0 + l.getD 1 0)) = w4 at *
          have X8 : Hid (∀ V, Below w4.drew.heap.size w4.drew V → Holds V B (some ⟨b, p, none⟩) n c l) := Lib.hid fun V hV => ((show Holds w4.drew B (some ⟨b, p, none⟩) n c l from (HH.out.below (B4.out.mono HB.out)).keep fun _ _ _ => rfl)).below (hV.mono (by have := B4.out.size; have := HB.out; exact Nat.le_trans HB.out B4.out.size))
          have d8a := DD.out 2
          have d8b := DD.out 3
          go_wp2_with fail
          -- REGION 8
          refine wp_region_free [0, 1, 2, 3, 4, 5, 6, 7, 8, 9, 10] 11 [] (fun w1 w2 => Below w1.heap.size w1 w2) (fun k' w' v => match k' with
            | 0 => v = .slice (some ⟨b, p, none⟩) n c
            | 1 => v = .pointer (some ⟨b, p + 2, none⟩)
            | 2 => v = .int .u8 (l.getD 2 0)
            | 3 => v = .int .i64 (l.getD 2 0)
            | 4 => v = .int .i64 (256 * l.getD 2 0)
            | 5 => v = .slice (some ⟨b, p, none⟩) n c
            | 6 => v = .pointer (some ⟨b, p + 3, none⟩)
            | 7 => v = .int .u8 (l.getD 3 0)
            | 8 => v = .int .i64 (l.getD 3 0)
            | 9 => v = .int .i64 (256 * l.getD 2 0 + l.getD 3 0)
            | _ => v = .pointer (some ⟨(w.heap.size + 1), 4, none⟩)) (by kernel_rfl) (by kernel_rfl) (Below.refl _ _) (fun _ _ _ h k => h.trans (k.mono h.size)) (fun k' w1 w2 v h => match k' with
            | 0 => fun x => x
            | 1 => fun x => x
            | 2 => fun x => x
            | 3 => fun x => x
            | 4 => fun x => x
            | 5 => fun x => x
            | 6 => fun x => x
            | 7 => fun x => x
            | 8 => fun x => x
            | 9 => fun x => x
            | _ + 10 => fun x => x) (fun _ _ _ _ _ h => h) ?_ _ (by rfl) ?_
          · refine obs_cons (by rfl) (fun vals w' hgr hdep K hK => ?_) (obs_cons (by rfl) (fun vals w' hgr hdep K hK => ?_) (obs_cons (by rfl) (fun vals w' hgr hdep K hK => ?_) (obs_cons (by rfl) (fun vals w' hgr hdep K hK => ?_) (obs_cons (by rfl) (fun vals w' hgr hdep K hK => ?_) (obs_cons (by rfl) (fun vals w' hgr hdep K hK => ?_) (obs_cons (by rfl) (fun vals w' hgr hdep K hK => ?_) (obs_cons (by rfl) (fun vals w' hgr hdep K hK => ?_) (obs_cons (by rfl) (fun vals w' hgr hdep K hK => ?_) (obs_cons (by rfl) (fun vals w' hgr hdep K hK => ?_) (obs_cons (by rfl) (fun vals w' hgr hdep K hK => ?_) (obs_nil)))))))))))
            · exact wp_move (.tmp 3) rfl _ (at_out _ (by kernel_rfl) rfl) (hK _ _ (Below.refl _ _) rfl)
            · exact st_byte_at (.tmp 51) (.const (.int .i64 2)) rfl b p n c 2 ((at_dst 0 (by kernel_rfl)).trans (hdep 0 (by simp) (by kernel_rfl))) rfl (by omega) (hK _ _ (Below.refl _ _) rfl)
            · exact wp_load1 (.tmp 52) rfl ⟨b, p + 2, none⟩ ((at_dst 1 (by kernel_rfl)).trans (hdep 1 (by simp) (by kernel_rfl))) Try.underlying5 rfl _ (cell_getD (X8.out _ hgr) 2 (by omega)) (hK _ _ (Below.refl _ _) rfl)
            · exact wp_conv (.tmp 53) rfl _ _ ((at_dst 2 (by kernel_rfl)).trans (hdep 2 (by simp) (by kernel_rfl))) (conv_int _ _ (by omega) (by omega)) (hK _ _ (Below.refl _ _) rfl)
            · exact wp_bin (.const (.int .i64 256)) (.tmp 54) rfl _ _ _ rfl ((at_dst 3 (by kernel_rfl)).trans (hdep 3 (by simp) (by kernel_rfl))) (b_mul _ _ _ _ _ (by omega) (by omega)) (hK _ _ (Below.refl _ _) rfl)
            · exact wp_move (.tmp 3) rfl _ (at_out _ (by kernel_rfl) rfl) (hK _ _ (Below.refl _ _) rfl)
            · exact st_byte_at (.tmp 56) (.const (.int .i64 3)) rfl b p n c 3 ((at_dst 5 (by kernel_rfl)).trans (hdep 5 (by simp) (by kernel_rfl))) rfl (by omega) (hK _ _ (Below.refl _ _) rfl)
            · exact wp_load1 (.tmp 57) rfl ⟨b, p + 3, none⟩ ((at_dst 6 (by kernel_rfl)).trans (hdep 6 (by simp) (by kernel_rfl))) Try.underlying5 rfl _ (cell_getD (X8.out _ hgr) 3 (by omega)) (hK _ _ (Below.refl _ _) rfl)
            · exact wp_conv (.tmp 58) rfl _ _ ((at_dst 7 (by kernel_rfl)).trans (hdep 7 (by simp) (by kernel_rfl))) (conv_int _ _ (by omega) (by omega)) (hK _ _ (Below.refl _ _) rfl)
            · exact wp_bin (.tmp 55) (.tmp 59) rfl _ _ _ ((at_dst 4 (by kernel_rfl)).trans (hdep 4 (by simp) (by kernel_rfl))) ((at_dst 8 (by kernel_rfl)).trans (hdep 8 (by simp) (by kernel_rfl))) (b_add _ _ _ _ _ (by omega) (by omega)) (hK _ _ (Below.refl _ _) rfl)
            · exact wp_field (.tmp 12) rfl _ _ (at_out _ (by kernel_rfl) rfl) (fldF4 _ _) (hK _ _ (Below.refl _ _) rfl)
          · intro vals w' hgr hG
            have RGw := Lib.hid (Blk.below (show Blk w4.drew (w.heap.size + 1) 24 #[.string src, .string dst, .int .i64 pr, .int .i64 (256 * l.getD 0 0 + l.getD 1 0), .int .i64 (-1)] from RG4.out) hgr (Blk.lt RG4.out))
            have RZw := Lib.hid (Blk.below (show Blk w4.drew w.heap.size 24 #[.string ⟨#[]⟩, .string ⟨#[]⟩, .int .i64 0, .int .i64 0, .int .i64 0] from RZ4.out) hgr (Blk.lt RZ4.out))
            have BBw := Lib.hid (B4.out.trans (((below_drewN (Below.refl w4.heap.size w4) 1).trans hgr).mono B4.out.size))
            refine st_store_i (.tmp 61) (.tmp 60) rfl ⟨(w.heap.size + 1), 4, none⟩ ((at_dst 10 (by kernel_rfl)).trans (hG 10 (by simp))) (256 * l.getD 2 0 + l.getD 3 0) ((at_dst 9 (by kernel_rfl)).trans (hG 9 (by simp))) _ (RGw.out.cell 4) (RGw.out.frozen 4) (wpAnyH_done (by kernel_rfl) ?_ _)
            have RG5 : Hid (Blk (w'.setCell ⟨(w.heap.size + 1), 4, none⟩ (.int .i64 (256 * l.getD 2 0 + l.getD 3 0))) (w.heap.size + 1) 24 #[.string src, .string dst, .int .i64 pr, .int .i64 (256 * l.getD 0 0 + l.getD 1 0), .int .i64 (256 * l.getD 2 0 + l.getD 3 0)]) := Lib.hid (Blk.put RGw.out 4 _)
            have RZ5 := Lib.hid (Blk.far RZw.out (p := ⟨(w.heap.size + 1), 4, none⟩) (show w.heap.size ≠ (w.heap.size + 1) by omega) (.int .i64 (256 * l.getD 2 0 + l.getD 3 0)))
            have B5 := Lib.hid (BBw.out.setCell (p := ⟨(w.heap.size + 1), 4, none⟩) (show w.heap.size ≤ (w.heap.size + 1) by omega) (.int .i64 (256 * l.getD 2 0 + l.getD 3 0)))
            clear hG hgr RGw RZw BBw X8 RG4 RZ4 B4
            simp only [fill, dstAt, List.getElem?_cons_zero, List.getElem?_cons_succ, Option.bind_some, Act.put, List.setIfInBounds_toArray, List.set_cons_zero, List.set_cons_succ]
            generalize vals 0 = z8_0, vals 1 = z8_1, vals 2 = z8_2, vals 3 = z8_3, vals 4 = z8_4, vals 5 = z8_5, vals 6 = z8_6, vals 7 = z8_7, vals 8 = z8_8, vals 9 = z8_9, vals 10 = z8_10 at *
            generalize w'.setCell ⟨(w.heap.size + 1), 4, none⟩ (.int .i64 (256 * l.getD 2 0 + l.getD 3 0)) = w5 at *
            go_wp2_with (first | (refine Loads.wpList_load_w rfl 24 (.tmp 12) rfl (w.heap.size + 1) rfl 24 #[.string src, .string dst, .int .i64 pr, .int .i64 (256 * l.getD 0 0 + l.getD 1 0), .int .i64 (256 * l.getD 2 0 + l.getD 3 0)] (0, 0) _ (RG5.out) Try.underlying24 rfl (by kernel_rfl) ?_) | (refine wpList_store_row rfl 24 (.tmp 10) (.tmp 66) rfl w.heap.size #[.string src, .string dst, .int .i64 pr, .int .i64 (256 * l.getD 0 0 + l.getD 1 0), .int .i64 (256 * l.getD 2 0 + l.getD 3 0)] rfl rfl 24 _ RZ5.out (by kernel_rfl) rfl (oneF _ _ _ _ _) ?_))
            exact bodyPost_ret (results_pair rfl _ _ w.heap.size 24 #[.string src, .string dst, .int .i64 pr, .int .i64 (256 * l.getD 0 0 + l.getD 1 0), .int .i64 (256 * l.getD 2 0 + l.getD 3 0)] (0, 0) _ _ rfl rfl (setRow_heap _ _ _ _ _ _ RZ5.out) Try.underlying24 rfl (by kernel_rfl)) rfl ⟨by rw [EE.out, RR.out]; rfl, setRow_bel B5.out (Nat.le_refl _) _⟩
  have g5 : (pr == 6) = false := by rw [beq_eq_false_iff_ne]; exact b1
  clear b1
  by_cases b1 : pr = 17
  · have g6 : (pr == 17) = true := by rw [beq_iff_eq]; exact b1
    have HV : Hid (has pr = true) := Lib.hid (by unfold has; simp [b1])
    by_cases q4 : n < 4
    · have g4 : decide ((n : Int) < 4) = true := decide_eq_true (by omega)
      have EE : Hid (ofE src dst pr l.length = 8) := Lib.hid (by rw [EV.out, HV.out, decide_eq_true q4]; rfl)
      have RR : Hid (ofR src dst pr l out = zeroF) := Lib.hid (by unfold ofR; rw [EE.out]; rfl)
      clear b1 HV q4
      go_enter Try.func9, Try.ntmps9
      go_wp2_with fail
      refine (PR.out _).mono ?_
      rintro e w1 ⟨rfl, rfl⟩
      have RG : Hid (Blk (((w.alloc (.cells #[.string ⟨#[]⟩, .string ⟨#[]⟩, .int .i64 0, .int .i64 0, .int .i64 0] 24)).alloc (.cells #[.string ⟨#[]⟩, .string ⟨#[]⟩, .int .i64 0, .int .i64 0, .int .i64 0] 24)).setRow (w.heap.size + 1) #[.string src, .string dst, .int .i64 pr, .int .i64 (-1), .int .i64 (-1)]) (w.heap.size + 1) 24 #[.string src, .string dst, .int .i64 pr, .int .i64 (-1), .int .i64 (-1)]) := Lib.hid (setRow_heap _ _ _ #[.string src, .string dst, .int .i64 pr, .int .i64 (-1), .int .i64 (-1)] _ _ J2.out)
      have RZ : Hid (Blk (((w.alloc (.cells #[.string ⟨#[]⟩, .string ⟨#[]⟩, .int .i64 0, .int .i64 0, .int .i64 0] 24)).alloc (.cells #[.string ⟨#[]⟩, .string ⟨#[]⟩, .int .i64 0, .int .i64 0, .int .i64 0] 24)).setRow (w.heap.size + 1) #[.string src, .string dst, .int .i64 pr, .int .i64 (-1), .int .i64 (-1)]) w.heap.size 24 #[.string ⟨#[]⟩, .string ⟨#[]⟩, .int .i64 0, .int .i64 0, .int .i64 0]) := Lib.hid ((setRow_other _ _ _ _ (by omega)).trans J1.out)
      have B3 := Lib.hid (setRow_bel (g := (w.heap.size + 1)) B2.out (by omega) #[.string src, .string dst, .int .i64 pr, .int .i64 (-1), .int .i64 (-1)])
      go_wp2_with (first | (refine wpList_store_row rfl 24 (.tmp 12) (.tmp 29) rfl (w.heap.size + 1) #[.string src, .string dst, .int .i64 pr, .int .i64 (-1), .int .i64 (-1)] rfl rfl 24 _ J2.out (by kernel_rfl) rfl (oneF _ _ _ _ _) ?_) | (refine wpList_store_row rfl 24 (.tmp 10) (.tmp 39) rfl w.heap.size #[.string ⟨#[]⟩, .string ⟨#[]⟩, .int .i64 0, .int .i64 0, .int .i64 0] rfl rfl 24 _ RZ.out (by kernel_rfl) rfl (oneF _ _ _ _ _) ?_))
      exact bodyPost_ret (results_pair rfl _ _ w.heap.size 24 #[.string ⟨#[]⟩, .string ⟨#[]⟩, .int .i64 0, .int .i64 0, .int .i64 0] (0, 0) _ _ rfl rfl (setRow_heap _ _ _ _ _ _ RZ.out) Try.underlying24 rfl (by kernel_rfl)) rfl ⟨by rw [EE.out, RR.out]; rfl, setRow_bel B3.out (Nat.le_refl _) _⟩
    · have g4 : decide ((n : Int) < 4) = false := decide_eq_false (by omega)
      have n4 : 4 ≤ n := by omega
      obtain ⟨b, p, rfl, _⟩ := HH.out.2.2.2.2 (by omega)
      cases out
      · have EE : Hid (ofE src dst pr l.length = 0) := Lib.hid (by rw [EV.out, HV.out, decide_eq_false q4]; rfl)
        have RR : Hid (ofR src dst pr l false = ⟨dst, src, pr, 256 * l.getD 2 0 + l.getD 3 0, 256 * l.getD 0 0 + l.getD 1 0⟩) := Lib.hid (by unfold ofR ofF; rw [EE.out, if_pos rfl, HV.out]; rfl)
        clear b1 q4 hl
        go_enter Try.func9, Try.ntmps9
        go_wp2_with fail
        refine (PR.out _).mono ?_
        rintro e w1 ⟨rfl, rfl⟩
        go_wp2_with (refine wpList_store_row rfl 24 (.tmp 12) (.tmp 29) rfl (w.heap.size + 1) #[.string src, .string dst, .int .i64 pr, .int .i64 (-1), .int .i64 (-1)] rfl rfl 24 _ J2.out (by kernel_rfl) rfl (oneF _ _ _ _ _) ?_)
        have RG := Lib.hid (setRow_heap _ _ _ #[.string src, .string dst, .int .i64 pr, .int .i64 (-1), .int .i64 (-1)] _ _ J2.out)
        have RZ : Hid (Blk (((w.alloc (.cells #[.string ⟨#[]⟩, .string ⟨#[]⟩, .int .i64 0, .int .i64 0, .int .i64 0] 24)).alloc (.cells #[.string ⟨#[]⟩, .string ⟨#[]⟩, .int .i64 0, .int .i64 0, .int .i64 0] 24)).setRow (w.heap.size + 1) #[.string src, .string dst, .int .i64 pr, .int .i64 (-1), .int .i64 (-1)]) w.heap.size 24 #[.string ⟨#[]⟩, .string ⟨#[]⟩, .int .i64 0, .int .i64 0, .int .i64 0]) := Lib.hid ((setRow_other _ _ _ _ (by omega)).trans J1.out)
        have B3 := Lib.hid (setRow_bel (g := (w.heap.size + 1)) B2.out (by omega) #[.string src, .string dst, .int .i64 pr, .int .i64 (-1), .int .i64 (-1)])
        replace RG : Hid (Blk (((w.alloc (.cells #[.string ⟨#[]⟩, .string ⟨#[]⟩, .int .i64 0, .int .i64 0, .int .i64 0] 24)).alloc (.cells #[.string ⟨#[]⟩, .string ⟨#[]⟩, .int .i64 0, .int .i64 0, .int .i64 0] 24)).setRow (w.heap.size + 1) #[.string src, .string dst, .int .i64 pr, .int .i64 (-1), .int .i64 (-1)]) (w.heap.size + 1) 24 #[.string src, .string dst, .int .i64 pr, .int .i64 (-1), .int .i64 (-1)]) := Lib.hid RG.out
        generalize ((w.alloc (.cells #[.string ⟨#[]⟩, .string ⟨#[]⟩, .int .i64 0, .int .i64 0, .int .i64 0] 24)).alloc (.cells #[.string ⟨#[]⟩, .string ⟨#[]⟩, .int .i64 0, .int .i64 0, .int .i64 0] 24)).setRow (w.heap.size + 1) #[.string src, .string dst, .int .i64 pr, .int .i64 (-1), .int .i64 (-1)] = w3 at *
        clear J0 J1 J2 B0 B2
        have X7 : Hid (∀ V, Below w3.drew.heap.size w3.drew V → Holds V B (some ⟨b, p, none⟩) n c l) := Lib.hid fun V hV => ((show Holds w3.drew B (some ⟨b, p, none⟩) n c l from (HH.out.below (B3.out.mono HB.out)).keep fun _ _ _ => rfl)).below (hV.mono (by have := B3.out.size; have := HB.out; exact Nat.le_trans HB.out B3.out.size))
        have d7a := DD.out 0
        have d7b := DD.out 1
        go_wp2_with fail
        -- REGION 7
        refine wp_region_free [0, 1, 2, 3, 4, 5, 6, 7, 8, 9, 10] 11 [] (fun w1 w2 => Below w1.heap.size w1 w2) (fun k' w' v => match k' with
          | 0 => v = .slice (some ⟨b, p, none⟩) n c
          | 1 => v = .pointer (some ⟨b, p + 0, none⟩)
          | 2 => v = .int .u8 (l.getD 0 0)
          | 3 => v = .int .i64 (l.getD 0 0)
          | 4 => v = .int .i64 (256 * l.getD 0 0)
          | 5 => v = .slice (some ⟨b, p, none⟩) n c
          | 6 => v = .pointer (some ⟨b, p + 1, none⟩)
          | 7 => v = .int .u8 (l.getD 1 0)
          | 8 => v = .int .i64 (l.getD 1 0)
          | 9 => v = .int .i64 (256 * l.getD 0 0 + l.getD 1 0)
          | _ => v = .pointer (some ⟨(w.heap.size + 1), 3, none⟩)) (by kernel_rfl) (by kernel_rfl) (Below.refl _ _) (fun _ _ _ h k => h.trans (k.mono h.size)) (fun k' w1 w2 v h => match k' with
          | 0 => fun x => x
          | 1 => fun x => x
          | 2 => fun x => x
          | 3 => fun x => x
          | 4 => fun x => x
          | 5 => fun x => x
          | 6 => fun x => x
          | 7 => fun x => x
          | 8 => fun x => x
          | 9 => fun x => x
          | _ + 10 => fun x => x) (fun _ _ _ _ _ h => h) ?_ _ (by rfl) ?_
        · refine obs_cons (by rfl) (fun vals w' hgr hdep K hK => ?_) (obs_cons (by rfl) (fun vals w' hgr hdep K hK => ?_) (obs_cons (by rfl) (fun vals w' hgr hdep K hK => ?_) (obs_cons (by rfl) (fun vals w' hgr hdep K hK => ?_) (obs_cons (by rfl) (fun vals w' hgr hdep K hK => ?_) (obs_cons (by rfl) (fun vals w' hgr hdep K hK => ?_) (obs_cons (by rfl) (fun vals w' hgr hdep K hK => ?_) (obs_cons (by rfl) (fun vals w' hgr hdep K hK => ?_) (obs_cons (by rfl) (fun vals w' hgr hdep K hK => ?_) (obs_cons (by rfl) (fun vals w' hgr hdep K hK => ?_) (obs_cons (by rfl) (fun vals w' hgr hdep K hK => ?_) (obs_nil)))))))))))
          · exact wp_move (.tmp 3) rfl _ (at_out _ (by kernel_rfl) rfl) (hK _ _ (Below.refl _ _) rfl)
          · exact st_byte_at (.tmp 40) (.const (.int .i64 0)) rfl b p n c 0 ((at_dst 0 (by kernel_rfl)).trans (hdep 0 (by simp) (by kernel_rfl))) rfl (by omega) (hK _ _ (Below.refl _ _) rfl)
          · exact wp_load1 (.tmp 41) rfl ⟨b, p + 0, none⟩ ((at_dst 1 (by kernel_rfl)).trans (hdep 1 (by simp) (by kernel_rfl))) Try.underlying5 rfl _ (cell_getD (X7.out _ hgr) 0 (by omega)) (hK _ _ (Below.refl _ _) rfl)
          · exact wp_conv (.tmp 42) rfl _ _ ((at_dst 2 (by kernel_rfl)).trans (hdep 2 (by simp) (by kernel_rfl))) (conv_int _ _ (by omega) (by omega)) (hK _ _ (Below.refl _ _) rfl)
          · exact wp_bin (.const (.int .i64 256)) (.tmp 43) rfl _ _ _ rfl ((at_dst 3 (by kernel_rfl)).trans (hdep 3 (by simp) (by kernel_rfl))) (b_mul _ _ _ _ _ (by omega) (by omega)) (hK _ _ (Below.refl _ _) rfl)
          · exact wp_move (.tmp 3) rfl _ (at_out _ (by kernel_rfl) rfl) (hK _ _ (Below.refl _ _) rfl)
          · exact st_byte_at (.tmp 45) (.const (.int .i64 1)) rfl b p n c 1 ((at_dst 5 (by kernel_rfl)).trans (hdep 5 (by simp) (by kernel_rfl))) rfl (by omega) (hK _ _ (Below.refl _ _) rfl)
          · exact wp_load1 (.tmp 46) rfl ⟨b, p + 1, none⟩ ((at_dst 6 (by kernel_rfl)).trans (hdep 6 (by simp) (by kernel_rfl))) Try.underlying5 rfl _ (cell_getD (X7.out _ hgr) 1 (by omega)) (hK _ _ (Below.refl _ _) rfl)
          · exact wp_conv (.tmp 47) rfl _ _ ((at_dst 7 (by kernel_rfl)).trans (hdep 7 (by simp) (by kernel_rfl))) (conv_int _ _ (by omega) (by omega)) (hK _ _ (Below.refl _ _) rfl)
          · exact wp_bin (.tmp 44) (.tmp 48) rfl _ _ _ ((at_dst 4 (by kernel_rfl)).trans (hdep 4 (by simp) (by kernel_rfl))) ((at_dst 8 (by kernel_rfl)).trans (hdep 8 (by simp) (by kernel_rfl))) (b_add _ _ _ _ _ (by omega) (by omega)) (hK _ _ (Below.refl _ _) rfl)
          · exact wp_field (.tmp 12) rfl _ _ (at_out _ (by kernel_rfl) rfl) (fldF3 _ _) (hK _ _ (Below.refl _ _) rfl)
        · intro vals w' hgr hG
          have RGw := Lib.hid (Blk.below (show Blk w3.drew (w.heap.size + 1) 24 #[.string src, .string dst, .int .i64 pr, .int .i64 (-1), .int .i64 (-1)] from RG.out) hgr (Blk.lt RG.out))
          have RZw := Lib.hid (Blk.below (show Blk w3.drew w.heap.size 24 #[.string ⟨#[]⟩, .string ⟨#[]⟩, .int .i64 0, .int .i64 0, .int .i64 0] from RZ.out) hgr (Blk.lt RZ.out))
          have BBw := Lib.hid (B3.out.trans (((below_drewN (Below.refl w3.heap.size w3) 1).trans hgr).mono B3.out.size))
          refine st_store_i (.tmp 50) (.tmp 49) rfl ⟨(w.heap.size + 1), 3, none⟩ ((at_dst 10 (by kernel_rfl)).trans (hG 10 (by simp))) (256 * l.getD 0 0 + l.getD 1 0) ((at_dst 9 (by kernel_rfl)).trans (hG 9 (by simp))) _ (RGw.out.cell 3) (RGw.out.frozen 3) (wpAnyH_done (by kernel_rfl) ?_ _)
          have RG4 : Hid (Blk (w'.setCell ⟨(w.heap.size + 1), 3, none⟩ (.int .i64 (256 * l.getD 0 0 + l.getD 1 0))) (w.heap.size + 1) 24 #[.string src, .string dst, .int .i64 pr, .int .i64 (256 * l.getD 0 0 + l.getD 1 0), .int .i64 (-1)]) := Lib.hid (Blk.put RGw.out 3 _)
          have RZ4 := Lib.hid (Blk.far RZw.out (p := ⟨(w.heap.size + 1), 3, none⟩) (show w.heap.size ≠ (w.heap.size + 1) by omega) (.int .i64 (256 * l.getD 0 0 + l.getD 1 0)))
          have B4 := Lib.hid (BBw.out.setCell (p := ⟨(w.heap.size + 1), 3, none⟩) (show w.heap.size ≤ (w.heap.size + 1) by omega) (.int .i64 (256 * l.getD 0 0 + l.getD 1 0)))
          clear hG hgr RGw RZw BBw X7 RG RZ B3
          simp only [fill, dstAt, List.getElem?_cons_zero, List.getElem?_cons_succ, Option.bind_some, Act.put, List.setIfInBounds_toArray, List.set_cons_zero, List.set_cons_succ]
          generalize vals 0 = z7_0, vals 1 = z7_1, vals 2 = z7_2, vals 3 = z7_3, vals 4 = z7_4, vals 5 = z7_5, vals 6 = z7_6, vals 7 = z7_7, vals 8 = z7_8, vals 9 = z7_9, vals 10 = z7_10 at *
          generalize w'.setCell ⟨(w.heap.size + 1), 3, none⟩ (.int .i64 (256 * l.getD 0 0 + l.getD 1 0)) = w4 at *
          have X8 : Hid (∀ V, Below w4.drew.heap.size w4.drew V → Holds V B (some ⟨b, p, none⟩) n c l) := Lib.hid fun V hV => ((show Holds w4.drew B (some ⟨b, p, none⟩) n c l from (HH.out.below (B4.out.mono HB.out)).keep fun _ _ _ => rfl)).below (hV.mono (by have := B4.out.size; have := HB.out; exact Nat.le_trans HB.out B4.out.size))
          have d8a := DD.out 2
          have d8b := DD.out 3
          go_wp2_with fail
          -- REGION 8
          refine wp_region_free [0, 1, 2, 3, 4, 5, 6, 7, 8, 9, 10] 11 [] (fun w1 w2 => Below w1.heap.size w1 w2) (fun k' w' v => match k' with
            | 0 => v = .slice (some ⟨b, p, none⟩) n c
            | 1 => v = .pointer (some ⟨b, p + 2, none⟩)
            | 2 => v = .int .u8 (l.getD 2 0)
            | 3 => v = .int .i64 (l.getD 2 0)
            | 4 => v = .int .i64 (256 * l.getD 2 0)
            | 5 => v = .slice (some ⟨b, p, none⟩) n c
            | 6 => v = .pointer (some ⟨b, p + 3, none⟩)
            | 7 => v = .int .u8 (l.getD 3 0)
            | 8 => v = .int .i64 (l.getD 3 0)
            | 9 => v = .int .i64 (256 * l.getD 2 0 + l.getD 3 0)
            | _ => v = .pointer (some ⟨(w.heap.size + 1), 4, none⟩)) (by kernel_rfl) (by kernel_rfl) (Below.refl _ _) (fun _ _ _ h k => h.trans (k.mono h.size)) (fun k' w1 w2 v h => match k' with
            | 0 => fun x => x
            | 1 => fun x => x
            | 2 => fun x => x
            | 3 => fun x => x
            | 4 => fun x => x
            | 5 => fun x => x
            | 6 => fun x => x
            | 7 => fun x => x
            | 8 => fun x => x
            | 9 => fun x => x
            | _ + 10 => fun x => x) (fun _ _ _ _ _ h => h) ?_ _ (by rfl) ?_
          · refine obs_cons (by rfl) (fun vals w' hgr hdep K hK => ?_) (obs_cons (by rfl) (fun vals w' hgr hdep K hK => ?_) (obs_cons (by rfl) (fun vals w' hgr hdep K hK => ?_) (obs_cons (by rfl) (fun vals w' hgr hdep K hK => ?_) (obs_cons (by rfl) (fun vals w' hgr hdep K hK => ?_) (obs_cons (by rfl) (fun vals w' hgr hdep K hK => ?_) (obs_cons (by rfl) (fun vals w' hgr hdep K hK => ?_) (obs_cons (by rfl) (fun vals w' hgr hdep K hK => ?_) (obs_cons (by rfl) (fun vals w' hgr hdep K hK => ?_) (obs_cons (by rfl) (fun vals w' hgr hdep K hK => ?_) (obs_cons (by rfl) (fun vals w' hgr hdep K hK => ?_) (obs_nil)))))))))))
            · exact wp_move (.tmp 3) rfl _ (at_out _ (by kernel_rfl) rfl) (hK _ _ (Below.refl _ _) rfl)
            · exact st_byte_at (.tmp 51) (.const (.int .i64 2)) rfl b p n c 2 ((at_dst 0 (by kernel_rfl)).trans (hdep 0 (by simp) (by kernel_rfl))) rfl (by omega) (hK _ _ (Below.refl _ _) rfl)
            · exact wp_load1 (.tmp 52) rfl ⟨b, p + 2, none⟩ ((at_dst 1 (by kernel_rfl)).trans (hdep 1 (by simp) (by kernel_rfl))) Try.underlying5 rfl _ (cell_getD (X8.out _ hgr) 2 (by omega)) (hK _ _ (Below.refl _ _) rfl)
            · exact wp_conv (.tmp 53) rfl _ _ ((at_dst 2 (by kernel_rfl)).trans (hdep 2 (by simp) (by kernel_rfl))) (conv_int _ _ (by omega) (by omega)) (hK _ _ (Below.refl _ _) rfl)
            · exact wp_bin (.const (.int .i64 256)) (.tmp 54) rfl _ _ _ rfl ((at_dst 3 (by kernel_rfl)).trans (hdep 3 (by simp) (by kernel_rfl))) (b_mul _ _ _ _ _ (by omega) (by omega)) (hK _ _ (Below.refl _ _) rfl)
            · exact wp_move (.tmp 3) rfl _ (at_out _ (by kernel_rfl) rfl) (hK _ _ (Below.refl _ _) rfl)
            · exact st_byte_at (.tmp 56) (.const (.int .i64 3)) rfl b p n c 3 ((at_dst 5 (by kernel_rfl)).trans (hdep 5 (by simp) (by kernel_rfl))) rfl (by omega) (hK _ _ (Below.refl _ _) rfl)
            · exact wp_load1 (.tmp 57) rfl ⟨b, p + 3, none⟩ ((at_dst 6 (by kernel_rfl)).trans (hdep 6 (by simp) (by kernel_rfl))) Try.underlying5 rfl _ (cell_getD (X8.out _ hgr) 3 (by omega)) (hK _ _ (Below.refl _ _) rfl)
            · exact wp_conv (.tmp 58) rfl _ _ ((at_dst 7 (by kernel_rfl)).trans (hdep 7 (by simp) (by kernel_rfl))) (conv_int _ _ (by omega) (by omega)) (hK _ _ (Below.refl _ _) rfl)
            · exact wp_bin (.tmp 55) (.tmp 59) rfl _ _ _ ((at_dst 4 (by kernel_rfl)).trans (hdep 4 (by simp) (by kernel_rfl))) ((at_dst 8 (by kernel_rfl)).trans (hdep 8 (by simp) (by kernel_rfl))) (b_add _ _ _ _ _ (by omega) (by omega)) (hK _ _ (Below.refl _ _) rfl)
            · exact wp_field (.tmp 12) rfl _ _ (at_out _ (by kernel_rfl) rfl) (fldF4 _ _) (hK _ _ (Below.refl _ _) rfl)
          · intro vals w' hgr hG
            have RGw := Lib.hid (Blk.below (show Blk w4.drew (w.heap.size + 1) 24 #[.string src, .string dst, .int .i64 pr, .int .i64 (256 * l.getD 0 0 + l.getD 1 0), .int .i64 (-1)] from RG4.out) hgr (Blk.lt RG4.out))
            have RZw := Lib.hid (Blk.below (show Blk w4.drew w.heap.size 24 #[.string ⟨#[]⟩, .string ⟨#[]⟩, .int .i64 0, .int .i64 0, .int .i64 0] from RZ4.out) hgr (Blk.lt RZ4.out))
            have BBw := Lib.hid (B4.out.trans (((below_drewN (Below.refl w4.heap.size w4) 1).trans hgr).mono B4.out.size))
            refine st_store_i (.tmp 61) (.tmp 60) rfl ⟨(w.heap.size + 1), 4, none⟩ ((at_dst 10 (by kernel_rfl)).trans (hG 10 (by simp))) (256 * l.getD 2 0 + l.getD 3 0) ((at_dst 9 (by kernel_rfl)).trans (hG 9 (by simp))) _ (RGw.out.cell 4) (RGw.out.frozen 4) (wpAnyH_done (by kernel_rfl) ?_ _)
            have RG5 : Hid (Blk (w'.setCell ⟨(w.heap.size + 1), 4, none⟩ (.int .i64 (256 * l.getD 2 0 + l.getD 3 0))) (w.heap.size + 1) 24 #[.string src, .string dst, .int .i64 pr, .int .i64 (256 * l.getD 0 0 + l.getD 1 0), .int .i64 (256 * l.getD 2 0 + l.getD 3 0)]) := Lib.hid (Blk.put RGw.out 4 _)
            have RZ5 := Lib.hid (Blk.far RZw.out (p := ⟨(w.heap.size + 1), 4, none⟩) (show w.heap.size ≠ (w.heap.size + 1) by omega) (.int .i64 (256 * l.getD 2 0 + l.getD 3 0)))
            have B5 := Lib.hid (BBw.out.setCell (p := ⟨(w.heap.size + 1), 4, none⟩) (show w.heap.size ≤ (w.heap.size + 1) by omega) (.int .i64 (256 * l.getD 2 0 + l.getD 3 0)))
            clear hG hgr RGw RZw BBw X8 RG4 RZ4 B4
            simp only [fill, dstAt, List.getElem?_cons_zero, List.getElem?_cons_succ, Option.bind_some, Act.put, List.setIfInBounds_toArray, List.set_cons_zero, List.set_cons_succ]
            generalize vals 0 = z8_0, vals 1 = z8_1, vals 2 = z8_2, vals 3 = z8_3, vals 4 = z8_4, vals 5 = z8_5, vals 6 = z8_6, vals 7 = z8_7, vals 8 = z8_8, vals 9 = z8_9, vals 10 = z8_10 at *
            generalize w'.setCell ⟨(w.heap.size + 1), 4, none⟩ (.int .i64 (256 * l.getD 2 0 + l.getD 3 0)) = w5 at *
            go_wp2_with (refine Loads.wpList_load_w rfl 24 (.tmp 12) rfl (w.heap.size + 1) rfl 24 #[.string src, .string dst, .int .i64 pr, .int .i64 (256 * l.getD 0 0 + l.getD 1 0), .int .i64 (256 * l.getD 2 0 + l.getD 3 0)] (0, 0) _ (RG5.out) Try.underlying24 rfl (by kernel_rfl) ?_)
            refine (turned_ref src dst pr (256 * l.getD 0 0 + l.getD 1 0) (256 * l.getD 2 0 + l.getD 3 0) w5).mono ?_
            rintro e wt ⟨rfl, hb⟩
            have RGt := Lib.hid (Blk.below RG5.out hb (Blk.lt RG5.out))
            have RZt := Lib.hid (Blk.below RZ5.out hb (Blk.lt RZ5.out))
            have BBt := Lib.hid (B5.out.trans (hb.mono B5.out.size))
            clear hb
            have RGu : Hid (Blk (wt.setRow (w.heap.size + 1) #[.string dst, .string src, .int .i64 pr, .int .i64 (256 * l.getD 2 0 + l.getD 3 0), .int .i64 (256 * l.getD 0 0 + l.getD 1 0)]) (w.heap.size + 1) 24 #[.string dst, .string src, .int .i64 pr, .int .i64 (256 * l.getD 2 0 + l.getD 3 0), .int .i64 (256 * l.getD 0 0 + l.getD 1 0)]) := Lib.hid (setRow_heap _ _ _ _ _ _ RGt.out)
            have RZu : Hid (Blk (wt.setRow (w.heap.size + 1) #[.string dst, .string src, .int .i64 pr, .int .i64 (256 * l.getD 2 0 + l.getD 3 0), .int .i64 (256 * l.getD 0 0 + l.getD 1 0)]) w.heap.size 24 #[.string ⟨#[]⟩, .string ⟨#[]⟩, .int .i64 0, .int .i64 0, .int .i64 0]) := Lib.hid ((setRow_other _ _ _ _ (by omega)).trans RZt.out)
            have BBu := Lib.hid (setRow_bel (g := (w.heap.size + 1)) BBt.out (by omega) #[.string dst, .string src, .int .i64 pr, .int .i64 (256 * l.getD 2 0 + l.getD 3 0), .int .i64 (256 * l.getD 0 0 + l.getD 1 0)])
            go_wp2_with (first | (refine wpList_store_row rfl 24 (.tmp 12) (.tmp 65) rfl (w.heap.size + 1) #[.string dst, .string src, .int .i64 pr, .int .i64 (256 * l.getD 2 0 + l.getD 3 0), .int .i64 (256 * l.getD 0 0 + l.getD 1 0)] rfl rfl 24 _ RGt.out (by kernel_rfl) rfl (oneF _ _ _ _ _) ?_) | (refine Loads.wpList_load_w rfl 24 (.tmp 12) rfl (w.heap.size + 1) rfl 24 #[.string dst, .string src, .int .i64 pr, .int .i64 (256 * l.getD 2 0 + l.getD 3 0), .int .i64 (256 * l.getD 0 0 + l.getD 1 0)] (0, 0) _ (RGu.out) Try.underlying24 rfl (by kernel_rfl) ?_) | (refine wpList_store_row rfl 24 (.tmp 10) (.tmp 66) rfl w.heap.size #[.string dst, .string src, .int .i64 pr, .int .i64 (256 * l.getD 2 0 + l.getD 3 0), .int .i64 (256 * l.getD 0 0 + l.getD 1 0)] rfl rfl 24 _ RZu.out (by kernel_rfl) rfl (oneF _ _ _ _ _) ?_))
            exact bodyPost_ret (results_pair rfl _ _ w.heap.size 24 #[.string dst, .string src, .int .i64 pr, .int .i64 (256 * l.getD 2 0 + l.getD 3 0), .int .i64 (256 * l.getD 0 0 + l.getD 1 0)] (0, 0) _ _ rfl rfl (setRow_heap _ _ _ _ _ _ RZu.out) Try.underlying24 rfl (by kernel_rfl)) rfl ⟨by rw [EE.out, RR.out]; rfl, setRow_bel BBu.out (Nat.le_refl _) _⟩
      · have EE : Hid (ofE src dst pr l.length = 0) := Lib.hid (by rw [EV.out, HV.out, decide_eq_false q4]; rfl)
        have RR : Hid (ofR src dst pr l true = ⟨src, dst, pr, 256 * l.getD 0 0 + l.getD 1 0, 256 * l.getD 2 0 + l.getD 3 0⟩) := Lib.hid (by unfold ofR ofF; rw [EE.out, if_pos rfl, HV.out]; rfl)
        clear b1 q4 hl
        go_enter Try.func9, Try.ntmps9
        go_wp2_with fail
        refine (PR.out _).mono ?_
        rintro e w1 ⟨rfl, rfl⟩
        go_wp2_with (refine wpList_store_row rfl 24 (.tmp 12) (.tmp 29) rfl (w.heap.size + 1) #[.string src, .string dst, .int .i64 pr, .int .i64 (-1), .int .i64 (-1)] rfl rfl 24 _ J2.out (by kernel_rfl) rfl (oneF _ _ _ _ _) ?_)
        have RG := Lib.hid (setRow_heap _ _ _ #[.string src, .string dst, .int .i64 pr, .int .i64 (-1), .int .i64 (-1)] _ _ J2.out)
        have RZ : Hid (Blk (((w.alloc (.cells #[.string ⟨#[]⟩, .string ⟨#[]⟩, .int .i64 0, .int .i64 0, .int .i64 0] 24)).alloc (.cells #[.string ⟨#[]⟩, .string ⟨#[]⟩, .int .i64 0, .int .i64 0, .int .i64 0] 24)).setRow (w.heap.size + 1) #[.string src, .string dst, .int .i64 pr, .int .i64 (-1), .int .i64 (-1)]) w.heap.size 24 #[.string ⟨#[]⟩, .string ⟨#[]⟩, .int .i64 0, .int .i64 0, .int .i64 0]) := Lib.hid ((setRow_other _ _ _ _ (by omega)).trans J1.out)
        have B3 := Lib.hid (setRow_bel (g := (w.heap.size + 1)) B2.out (by omega) #[.string src, .string dst, .int .i64 pr, .int .i64 (-1), .int .i64 (-1)])
        replace RG : Hid (Blk (((w.alloc (.cells #[.string ⟨#[]⟩, .string ⟨#[]⟩, .int .i64 0, .int .i64 0, .int .i64 0] 24)).alloc (.cells #[.string ⟨#[]⟩, .string ⟨#[]⟩, .int .i64 0, .int .i64 0, .int .i64 0] 24)).setRow (w.heap.size + 1) #[.string src, .string dst, .int .i64 pr, .int .i64 (-1), .int .i64 (-1)]) (w.heap.size + 1) 24 #[.string src, .string dst, .int .i64 pr, .int .i64 (-1), .int .i64 (-1)]) := Lib.hid RG.out
        generalize ((w.alloc (.cells #[.string ⟨#[]⟩, .string ⟨#[]⟩, .int .i64 0, .int .i64 0, .int .i64 0] 24)).alloc (.cells #[.string ⟨#[]⟩, .string ⟨#[]⟩, .int .i64 0, .int .i64 0, .int .i64 0] 24)).setRow (w.heap.size + 1) #[.string src, .string dst, .int .i64 pr, .int .i64 (-1), .int .i64 (-1)] = w3 at *
        clear J0 J1 J2 B0 B2
        have X7 : Hid (∀ V, Below w3.drew.heap.size w3.drew V → Holds V B (some ⟨b, p, none⟩) n c l) := Lib.hid fun V hV => ((show Holds w3.drew B (some ⟨b, p, none⟩) n c l from (HH.out.below (B3.out.mono HB.out)).keep fun _ _ _ => rfl)).below (hV.mono (by have := B3.out.size; have := HB.out; exact Nat.le_trans HB.out B3.out.size))
        have d7a := DD.out 0
        have d7b := DD.out 1
        go_wp2_with fail
        -- REGION 7
        refine wp_region_free [0, 1, 2, 3, 4, 5, 6, 7, 8, 9, 10] 11 [] (fun w1 w2 => Below w1.heap.size w1 w2) (fun k' w' v => match k' with
          | 0 => v = .slice (some ⟨b, p, none⟩) n c
          | 1 => v = .pointer (some ⟨b, p + 0, none⟩)
          | 2 => v = .int .u8 (l.getD 0 0)
          | 3 => v = .int .i64 (l.getD 0 0)
          | 4 => v = .int .i64 (256 * l.getD 0 0)
          | 5 => v = .slice (some ⟨b, p, none⟩) n c
          | 6 => v = .pointer (some ⟨b, p + 1, none⟩)
          | 7 => v = .int .u8 (l.getD 1 0)
          | 8 => v = .int .i64 (l.getD 1 0)
          | 9 => v = .int .i64 (256 * l.getD 0 0 + l.getD 1 0)
          | _ => v = .pointer (some ⟨(w.heap.size + 1), 3, none⟩)) (by kernel_rfl) (by kernel_rfl) (Below.refl _ _) (fun _ _ _ h k => h.trans (k.mono h.size)) (fun k' w1 w2 v h => match k' with
          | 0 => fun x => x
          | 1 => fun x => x
          | 2 => fun x => x
          | 3 => fun x => x
          | 4 => fun x => x
          | 5 => fun x => x
          | 6 => fun x => x
          | 7 => fun x => x
          | 8 => fun x => x
          | 9 => fun x => x
          | _ + 10 => fun x => x) (fun _ _ _ _ _ h => h) ?_ _ (by rfl) ?_
        · refine obs_cons (by rfl) (fun vals w' hgr hdep K hK => ?_) (obs_cons (by rfl) (fun vals w' hgr hdep K hK => ?_) (obs_cons (by rfl) (fun vals w' hgr hdep K hK => ?_) (obs_cons (by rfl) (fun vals w' hgr hdep K hK => ?_) (obs_cons (by rfl) (fun vals w' hgr hdep K hK => ?_) (obs_cons (by rfl) (fun vals w' hgr hdep K hK => ?_) (obs_cons (by rfl) (fun vals w' hgr hdep K hK => ?_) (obs_cons (by rfl) (fun vals w' hgr hdep K hK => ?_) (obs_cons (by rfl) (fun vals w' hgr hdep K hK => ?_) (obs_cons (by rfl) (fun vals w' hgr hdep K hK => ?_) (obs_cons (by rfl) (fun vals w' hgr hdep K hK => ?_) (obs_nil)))))))))))
          · exact wp_move (.tmp 3) rfl _ (at_out _ (by kernel_rfl) rfl) (hK _ _ (Below.refl _ _) rfl)
          · exact st_byte_at (.tmp 40) (.const (.int .i64 0)) rfl b p n c 0 ((at_dst 0 (by kernel_rfl)).trans (hdep 0 (by simp) (by kernel_rfl))) rfl (by omega) (hK _ _ (Below.refl _ _) rfl)
          · exact wp_load1 (.tmp 41) rfl ⟨b, p + 0, none⟩ ((at_dst 1 (by kernel_rfl)).trans (hdep 1 (by simp) (by kernel_rfl))) Try.underlying5 rfl _ (cell_getD (X7.out _ hgr) 0 (by omega)) (hK _ _ (Below.refl _ _) rfl)
          · exact wp_conv (.tmp 42) rfl _ _ ((at_dst 2 (by kernel_rfl)).trans (hdep 2 (by simp) (by kernel_rfl))) (conv_int _ _ (by omega) (by omega)) (hK _ _ (Below.refl _ _) rfl)
          · exact wp_bin (.const (.int .i64 256)) (.tmp 43) rfl _ _ _ rfl ((at_dst 3 (by kernel_rfl)).trans (hdep 3 (by simp) (by kernel_rfl))) (b_mul _ _ _ _ _ (by omega) (by omega)) (hK _ _ (Below.refl _ _) rfl)
          · exact wp_move (.tmp 3) rfl _ (at_out _ (by kernel_rfl) rfl) (hK _ _ (Below.refl _ _) rfl)
          · exact st_byte_at (.tmp 45) (.const (.int .i64 1)) rfl b p n c 1 ((at_dst 5 (by kernel_rfl)).trans (hdep 5 (by simp) (by kernel_rfl))) rfl (by omega) (hK _ _ (Below.refl _ _) rfl)
          · exact wp_load1 (.tmp 46) rfl ⟨b, p + 1, none⟩ ((at_dst 6 (by kernel_rfl)).trans (hdep 6 (by simp) (by kernel_rfl))) Try.underlying5 rfl _ (cell_getD (X7.out _ hgr) 1 (by omega)) (hK _ _ (Below.refl _ _) rfl)
          · exact wp_conv (.tmp 47) rfl _ _ ((at_dst 7 (by kernel_rfl)).trans (hdep 7 (by simp) (by kernel_rfl))) (conv_int _ _ (by omega) (by omega)) (hK _ _ (Below.refl _ _) rfl)
          · exact wp_bin (.tmp 44) (.tmp 48) rfl _ _ _ ((at_dst 4 (by kernel_rfl)).trans (hdep 4 (by simp) (by kernel_rfl))) ((at_dst 8 (by kernel_rfl)).trans (hdep 8 (by simp) (by kernel_rfl))) (b_add _ _ _ _ _ (by omega) (by omega)) (hK _ _ (Below.refl _ _) rfl)
          · exact wp_field (.tmp 12) rfl _ _ (at_out _ (by kernel_rfl) rfl) (fldF3 _ _) (hK _ _ (Below.refl _ _) rfl)
        · intro vals w' hgr hG
          have RGw := Lib.hid (Blk.below (show Blk w3.drew (w.heap.size + 1) 24 #[.string src, .string dst, .int .i64 pr, .int .i64 (-1), .int .i64 (-1)] from RG.out) hgr (Blk.lt RG.out))
          have RZw := Lib.hid (Blk.below (show Blk w3.drew w.heap.size 24 #[.string ⟨#[]⟩, .string ⟨#[]⟩, .int .i64 0, .int .i64 0, .int .i64 0] from RZ.out) hgr (Blk.lt RZ.out))
          have BBw := Lib.hid (B3.out.trans (((below_drewN (Below.refl w3.heap.size w3) 1).trans hgr).mono B3.out.size))
          refine st_store_i (.tmp 50) (.tmp 49) rfl ⟨(w.heap.size + 1), 3, none⟩ ((at_dst 10 (by kernel_rfl)).trans (hG 10 (by simp))) (256 * l.getD 0 0 + l.getD 1 0) ((at_dst 9 (by kernel_rfl)).trans (hG 9 (by simp))) _ (RGw.out.cell 3) (RGw.out.frozen 3) (wpAnyH_done (by kernel_rfl) ?_ _)
          have RG4 : Hid (Blk (w'.setCell ⟨(w.heap.size + 1), 3, none⟩ (.int .i64 (256 * l.getD 0 0 + l.getD 1 0))) (w.heap.size + 1) 24 #[.string src, .string dst, .int .i64 pr, .int .i64 (256 * l.getD 0 0 + l.getD 1 0), .int .i64 (-1)]) := Lib.hid (Blk.put RGw.out 3 _)
          have RZ4 := Lib.hid (Blk.far RZw.out (p := ⟨(w.heap.size + 1), 3, none⟩) (show w.heap.size ≠ (w.heap.size + 1) by omega) (.int .i64 (256 * l.getD 0 0 + l.getD 1 0)))
          have B4 := Lib.hid (BBw.out.setCell (p := ⟨(w.heap.size + 1), 3, none⟩) (show w.heap.size ≤ (w.heap.size + 1) by omega) (.int .i64 (256 * l.getD 0 0 + l.getD 1 0)))
          clear hG hgr RGw RZw BBw X7 RG RZ B3
          simp only [fill, dstAt, List.getElem?_cons_zero, List.getElem?_cons_succ, Option.bind_some, Act.put, List.setIfInBounds_toArray, List.set_cons_zero, List.set_cons_succ]
          generalize vals 0 = z7_0, vals 1 = z7_1, vals 2 = z7_2, vals 3 = z7_3, vals 4 = z7_4, vals 5 = z7_5, vals 6 = z7_6, vals 7 = z7_7, vals 8 = z7_8, vals 9 = z7_9, vals 10 = z7_10 at *
          generalize w'.setCell ⟨(w.heap.size + 1), 3, none⟩ (.int .i64 (256 * l.getD 0 0 + l.getD 1 0)) = w4 at *
          have X8 : Hid (∀ V, Below w4.drew.heap.size w4.drew V → Holds V B (some ⟨b, p, none⟩) n c l) := Lib.hid fun V hV => ((show Holds w4.drew B (some ⟨b, p, none⟩) n c l from (HH.out.below (B4.out.mono HB.out)).keep fun _ _ _ => rfl)).below (hV.mono (by have := B4.out.size; have := HB.out; exact Nat.le_trans HB.out B4.out.size))
          have d8a := DD.out 2
          have d8b := DD.out 3
          go_wp2_with fail
          -- REGION 8
          refine wp_region_free [0, 1, 2, 3, 4, 5, 6, 7, 8, 9, 10] 11 [] (fun w1 w2 => Below w1.heap.size w1 w2) (fun k' w' v => match k' with
            | 0 => v = .slice (some ⟨b, p, none⟩) n c
            | 1 => v = .pointer (some ⟨b, p + 2, none⟩)
            | 2 => v = .int .u8 (l.getD 2 0)
            | 3 => v = .int .i64 (l.getD 2 0)
            | 4 => v = .int .i64 (256 * l.getD 2 0)
            | 5 => v = .slice (some ⟨b, p, none⟩) n c
            | 6 => v = .pointer (some ⟨b, p + 3, none⟩)
            | 7 => v = .int .u8 (l.getD 3 0)
            | 8 => v = .int .i64 (l.getD 3 0)
            | 9 => v = .int .i64 (256 * l.getD 2 0 + l.getD 3 0)
            | _ => v = .pointer (some ⟨(w.heap.size + 1), 4, none⟩)) (by kernel_rfl) (by kernel_rfl) (Below.refl _ _) (fun _ _ _ h k => h.trans (k.mono h.size)) (fun k' w1 w2 v h => match k' with
            | 0 => fun x => x
            | 1 => fun x => x
            | 2 => fun x => x
            | 3 => fun x => x
            | 4 => fun x => x
            | 5 => fun x => x
            | 6 => fun x => x
            | 7 => fun x => x
            | 8 => fun x => x
            | 9 => fun x => x
            | _ + 10 => fun x => x) (fun _ _ _ _ _ h => h) ?_ _ (by rfl) ?_
          · refine obs_cons (by rfl) (fun vals w' hgr hdep K hK => ?_) (obs_cons (by rfl) (fun vals w' hgr hdep K hK => ?_) (obs_cons (by rfl) (fun vals w' hgr hdep K hK => ?_) (obs_cons (by rfl) (fun vals w' hgr hdep K hK => ?_) (obs_cons (by rfl) (fun vals w' hgr hdep K hK => ?_) (obs_cons (by rfl) (fun vals w' hgr hdep K hK => ?_) (obs_cons (by rfl) (fun vals w' hgr hdep K hK => ?_) (obs_cons (by rfl) (fun vals w' hgr hdep K hK => ?_) (obs_cons (by rfl) (fun vals w' hgr hdep K hK => ?_) (obs_cons (by rfl) (fun vals w' hgr hdep K hK => ?_) (obs_cons (by rfl) (fun vals w' hgr hdep K hK => ?_) (obs_nil)))))))))))
            · exact wp_move (.tmp 3) rfl _ (at_out _ (by kernel_rfl) rfl) (hK _ _ (Below.refl _ _) rfl)
            · exact st_byte_at (.tmp 51) (.const (.int .i64 2)) rfl b p n c 2 ((at_dst 0 (by kernel_rfl)).trans (hdep 0 (by simp) (by kernel_rfl))) rfl (by omega) (hK _ _ (Below.refl _ _) rfl)
            · exact wp_load1 (.tmp 52) rfl ⟨b, p + 2, none⟩ ((at_dst 1 (by kernel_rfl)).trans (hdep 1 (by simp) (by kernel_rfl))) Try.underlying5 rfl _ (cell_getD (X8.out _ hgr) 2 (by omega)) (hK _ _ (Below.refl _ _) rfl)
            · exact wp_conv (.tmp 53) rfl _ _ ((at_dst 2 (by kernel_rfl)).trans (hdep 2 (by simp) (by kernel_rfl))) (conv_int _ _ (by omega) (by omega)) (hK _ _ (Below.refl _ _) rfl)
            · exact wp_bin (.const (.int .i64 256)) (.tmp 54) rfl _ _ _ rfl ((at_dst 3 (by kernel_rfl)).trans (hdep 3 (by simp) (by kernel_rfl))) (b_mul _ _ _ _ _ (by omega) (by omega)) (hK _ _ (Below.refl _ _) rfl)
            · exact wp_move (.tmp 3) rfl _ (at_out _ (by kernel_rfl) rfl) (hK _ _ (Below.refl _ _) rfl)
            · exact st_byte_at (.tmp 56) (.const (.int .i64 3)) rfl b p n c 3 ((at_dst 5 (by kernel_rfl)).trans (hdep 5 (by simp) (by kernel_rfl))) rfl (by omega) (hK _ _ (Below.refl _ _) rfl)
            · exact wp_load1 (.tmp 57) rfl ⟨b, p + 3, none⟩ ((at_dst 6 (by kernel_rfl)).trans (hdep 6 (by simp) (by kernel_rfl))) Try.underlying5 rfl _ (cell_getD (X8.out _ hgr) 3 (by omega)) (hK _ _ (Below.refl _ _) rfl)
            · exact wp_conv (.tmp 58) rfl _ _ ((at_dst 7 (by kernel_rfl)).trans (hdep 7 (by simp) (by kernel_rfl))) (conv_int _ _ (by omega) (by omega)) (hK _ _ (Below.refl _ _) rfl)
            · exact wp_bin (.tmp 55) (.tmp 59) rfl _ _ _ ((at_dst 4 (by kernel_rfl)).trans (hdep 4 (by simp) (by kernel_rfl))) ((at_dst 8 (by kernel_rfl)).trans (hdep 8 (by simp) (by kernel_rfl))) (b_add _ _ _ _ _ (by omega) (by omega)) (hK _ _ (Below.refl _ _) rfl)
            · exact wp_field (.tmp 12) rfl _ _ (at_out _ (by kernel_rfl) rfl) (fldF4 _ _) (hK _ _ (Below.refl _ _) rfl)
          · intro vals w' hgr hG
            have RGw := Lib.hid (Blk.below (show Blk w4.drew (w.heap.size + 1) 24 #[.string src, .string dst, .int .i64 pr, .int .i64 (256 * l.getD 0 0 + l.getD 1 0), .int .i64 (-1)] from RG4.out) hgr (Blk.lt RG4.out))
            have RZw := Lib.hid (Blk.below (show Blk w4.drew w.heap.size 24 #[.string ⟨#[]⟩, .string ⟨#[]⟩, .int .i64 0, .int .i64 0, .int .i64 0] from RZ4.out) hgr (Blk.lt RZ4.out))
            have BBw := Lib.hid (B4.out.trans (((below_drewN (Below.refl w4.heap.size w4) 1).trans hgr).mono B4.out.size))
            refine st_store_i (.tmp 61) (.tmp 60) rfl ⟨(w.heap.size + 1), 4, none⟩ ((at_dst 10 (by kernel_rfl)).trans (hG 10 (by simp))) (256 * l.getD 2 0 + l.getD 3 0) ((at_dst 9 (by kernel_rfl)).trans (hG 9 (by simp))) _ (RGw.out.cell 4) (RGw.out.frozen 4) (wpAnyH_done (by kernel_rfl) ?_ _)
            have RG5 : Hid (Blk (w'.setCell ⟨(w.heap.size + 1), 4, none⟩ (.int .i64 (256 * l.getD 2 0 + l.getD 3 0))) (w.heap.size + 1) 24 #[.string src, .string dst, .int .i64 pr, .int .i64 (256 * l.getD 0 0 + l.getD 1 0), .int .i64 (256 * l.getD 2 0 + l.getD 3 0)]) := Lib.hid (Blk.put RGw.out 4 _)
            have RZ5 := Lib.hid (Blk.far RZw.out (p := ⟨(w.heap.size + 1), 4, none⟩) (show w.heap.size ≠ (w.heap.size + 1) by omega) (.int .i64 (256 * l.getD 2 0 + l.getD 3 0)))
            have B5 := Lib.hid (BBw.out.setCell (p := ⟨(w.heap.size + 1), 4, none⟩) (show w.heap.size ≤ (w.heap.size + 1) by omega) (.int .i64 (256 * l.getD 2 0 + l.getD 3 0)))
            clear hG hgr RGw RZw BBw X8 RG4 RZ4 B4
            simp only [fill, dstAt, List.getElem?_cons_zero, List.getElem?_cons_succ, Option.bind_some, Act.put, List.setIfInBounds_toArray, List.set_cons_zero, List.set_cons_succ]
            generalize vals 0 = z8_0, vals 1 = z8_1, vals 2 = z8_2, vals 3 = z8_3, vals 4 = z8_4, vals 5 = z8_5, vals 6 = z8_6, vals 7 = z8_7, vals 8 = z8_8, vals 9 = z8_9, vals 10 = z8_10 at *
            generalize w'.setCell ⟨(w.heap.size + 1), 4, none⟩ (.int .i64 (256 * l.getD 2 0 + l.getD 3 0)) = w5 at *
            go_wp2_with (first | (refine Loads.wpList_load_w rfl 24 (.tmp 12) rfl (w.heap.size + 1) rfl 24 #[.string src, .string dst, .int .i64 pr, .int .i64 (256 * l.getD 0 0 + l.getD 1 0), .int .i64 (256 * l.getD 2 0 + l.getD 3 0)] (0, 0) _ (RG5.out) Try.underlying24 rfl (by kernel_rfl) ?_) | (refine wpList_store_row rfl 24 (.tmp 10) (.tmp 66) rfl w.heap.size #[.string src, .string dst, .int .i64 pr, .int .i64 (256 * l.getD 0 0 + l.getD 1 0), .int .i64 (256 * l.getD 2 0 + l.getD 3 0)] rfl rfl 24 _ RZ5.out (by kernel_rfl) rfl (oneF _ _ _ _ _) ?_))
            exact bodyPost_ret (results_pair rfl _ _ w.heap.size 24 #[.string src, .string dst, .int .i64 pr, .int .i64 (256 * l.getD 0 0 + l.getD 1 0), .int .i64 (256 * l.getD 2 0 + l.getD 3 0)] (0, 0) _ _ rfl rfl (setRow_heap _ _ _ _ _ _ RZ5.out) Try.underlying24 rfl (by kernel_rfl)) rfl ⟨by rw [EE.out, RR.out]; rfl, setRow_bel B5.out (Nat.le_refl _) _⟩
  have g6 : (pr == 17) = false := by rw [beq_eq_false_iff_ne]; exact b1
  have b2 : ¬ pr = 6 := by rw [beq_eq_false_iff_ne] at g5; exact g5
  have HV : Hid (has pr = false) := Lib.hid (by unfold has; simp [b1, b2])
  cases out
  · have EE : Hid (ofE src dst pr l.length = 0) := Lib.hid (by rw [EV.out, HV.out]; rfl)
    have RR : Hid (ofR src dst pr l false = ⟨dst, src, pr, (-1), (-1)⟩) := Lib.hid (by unfold ofR ofF; rw [EE.out, if_pos rfl, HV.out]; rfl)
    clear b1 b2 hl
    go_enter Try.func9, Try.ntmps9
    go_wp2_with fail
    refine (PR.out _).mono ?_
    rintro e w1 ⟨rfl, rfl⟩
    have RG : Hid (Blk (((w.alloc (.cells #[.string ⟨#[]⟩, .string ⟨#[]⟩, .int .i64 0, .int .i64 0, .int .i64 0] 24)).alloc (.cells #[.string ⟨#[]⟩, .string ⟨#[]⟩, .int .i64 0, .int .i64 0, .int .i64 0] 24)).setRow (w.heap.size + 1) #[.string src, .string dst, .int .i64 pr, .int .i64 (-1), .int .i64 (-1)]) (w.heap.size + 1) 24 #[.string src, .string dst, .int .i64 pr, .int .i64 (-1), .int .i64 (-1)]) := Lib.hid (setRow_heap _ _ _ #[.string src, .string dst, .int .i64 pr, .int .i64 (-1), .int .i64 (-1)] _ _ J2.out)
    have RZ : Hid (Blk (((w.alloc (.cells #[.string ⟨#[]⟩, .string ⟨#[]⟩, .int .i64 0, .int .i64 0, .int .i64 0] 24)).alloc (.cells #[.string ⟨#[]⟩, .string ⟨#[]⟩, .int .i64 0, .int .i64 0, .int .i64 0] 24)).setRow (w.heap.size + 1) #[.string src, .string dst, .int .i64 pr, .int .i64 (-1), .int .i64 (-1)]) w.heap.size 24 #[.string ⟨#[]⟩, .string ⟨#[]⟩, .int .i64 0, .int .i64 0, .int .i64 0]) := Lib.hid ((setRow_other _ _ _ _ (by omega)).trans J1.out)
    have B3 := Lib.hid (setRow_bel (g := (w.heap.size + 1)) B2.out (by omega) #[.string src, .string dst, .int .i64 pr, .int .i64 (-1), .int .i64 (-1)])
    go_wp2_with (first | (refine wpList_store_row rfl 24 (.tmp 12) (.tmp 29) rfl (w.heap.size + 1) #[.string src, .string dst, .int .i64 pr, .int .i64 (-1), .int .i64 (-1)] rfl rfl 24 _ J2.out (by kernel_rfl) rfl (oneF _ _ _ _ _) ?_) | (refine Loads.wpList_load_w rfl 24 (.tmp 12) rfl (w.heap.size + 1) rfl 24 #[.string src, .string dst, .int .i64 pr, .int .i64 (-1), .int .i64 (-1)] (0, 0) _ (RG.out) Try.underlying24 rfl (by kernel_rfl) ?_))
    refine (turned_ref src dst pr ((-1)) ((-1)) _).mono ?_
    rintro e wt ⟨rfl, hb⟩
    have RGt := Lib.hid (Blk.below RG.out hb (Blk.lt RG.out))
    have RZt := Lib.hid (Blk.below RZ.out hb (Blk.lt RZ.out))
    have BBt := Lib.hid (B3.out.trans (hb.mono B3.out.size))
    clear hb
    have RGu : Hid (Blk (wt.setRow (w.heap.size + 1) #[.string dst, .string src, .int .i64 pr, .int .i64 (-1), .int .i64 (-1)]) (w.heap.size + 1) 24 #[.string dst, .string src, .int .i64 pr, .int .i64 (-1), .int .i64 (-1)]) := Lib.hid (setRow_heap _ _ _ _ _ _ RGt.out)
    have RZu : Hid (Blk (wt.setRow (w.heap.size + 1) #[.string dst, .string src, .int .i64 pr, .int .i64 (-1), .int .i64 (-1)]) w.heap.size 24 #[.string ⟨#[]⟩, .string ⟨#[]⟩, .int .i64 0, .int .i64 0, .int .i64 0]) := Lib.hid ((setRow_other _ _ _ _ (by omega)).trans RZt.out)
    have BBu := Lib.hid (setRow_bel (g := (w.heap.size + 1)) BBt.out (by omega) #[.string dst, .string src, .int .i64 pr, .int .i64 (-1), .int .i64 (-1)])
    go_wp2_with (first | (refine wpList_store_row rfl 24 (.tmp 12) (.tmp 65) rfl (w.heap.size + 1) #[.string dst, .string src, .int .i64 pr, .int .i64 (-1), .int .i64 (-1)] rfl rfl 24 _ RGt.out (by kernel_rfl) rfl (oneF _ _ _ _ _) ?_) | (refine Loads.wpList_load_w rfl 24 (.tmp 12) rfl (w.heap.size + 1) rfl 24 #[.string dst, .string src, .int .i64 pr, .int .i64 (-1), .int .i64 (-1)] (0, 0) _ (RGu.out) Try.underlying24 rfl (by kernel_rfl) ?_) | (refine wpList_store_row rfl 24 (.tmp 10) (.tmp 66) rfl w.heap.size #[.string dst, .string src, .int .i64 pr, .int .i64 (-1), .int .i64 (-1)] rfl rfl 24 _ RZu.out (by kernel_rfl) rfl (oneF _ _ _ _ _) ?_))
    exact bodyPost_ret (results_pair rfl _ _ w.heap.size 24 #[.string dst, .string src, .int .i64 pr, .int .i64 (-1), .int .i64 (-1)] (0, 0) _ _ rfl rfl (setRow_heap _ _ _ _ _ _ RZu.out) Try.underlying24 rfl (by kernel_rfl)) rfl ⟨by rw [EE.out, RR.out]; rfl, setRow_bel BBu.out (Nat.le_refl _) _⟩
  · have EE : Hid (ofE src dst pr l.length = 0) := Lib.hid (by rw [EV.out, HV.out]; rfl)
    have RR : Hid (ofR src dst pr l true = ⟨src, dst, pr, (-1), (-1)⟩) := Lib.hid (by unfold ofR ofF; rw [EE.out, if_pos rfl, HV.out]; rfl)
    clear b1 b2 hl
    go_enter Try.func9, Try.ntmps9
    go_wp2_with fail
    refine (PR.out _).mono ?_
    rintro e w1 ⟨rfl, rfl⟩
    have RG : Hid (Blk (((w.alloc (.cells #[.string ⟨#[]⟩, .string ⟨#[]⟩, .int .i64 0, .int .i64 0, .int .i64 0] 24)).alloc (.cells #[.string ⟨#[]⟩, .string ⟨#[]⟩, .int .i64 0, .int .i64 0, .int .i64 0] 24)).setRow (w.heap.size + 1) #[.string src, .string dst, .int .i64 pr, .int .i64 (-1), .int .i64 (-1)]) (w.heap.size + 1) 24 #[.string src, .string dst, .int .i64 pr, .int .i64 (-1), .int .i64 (-1)]) := Lib.hid (setRow_heap _ _ _ #[.string src, .string dst, .int .i64 pr, .int .i64 (-1), .int .i64 (-1)] _ _ J2.out)
    have RZ : Hid (Blk (((w.alloc (.cells #[.string ⟨#[]⟩, .string ⟨#[]⟩, .int .i64 0, .int .i64 0, .int .i64 0] 24)).alloc (.cells #[.string ⟨#[]⟩, .string ⟨#[]⟩, .int .i64 0, .int .i64 0, .int .i64 0] 24)).setRow (w.heap.size + 1) #[.string src, .string dst, .int .i64 pr, .int .i64 (-1), .int .i64 (-1)]) w.heap.size 24 #[.string ⟨#[]⟩, .string ⟨#[]⟩, .int .i64 0, .int .i64 0, .int .i64 0]) := Lib.hid ((setRow_other _ _ _ _ (by omega)).trans J1.out)
    have B3 := Lib.hid (setRow_bel (g := (w.heap.size + 1)) B2.out (by omega) #[.string src, .string dst, .int .i64 pr, .int .i64 (-1), .int .i64 (-1)])
    go_wp2_with (first | (refine wpList_store_row rfl 24 (.tmp 12) (.tmp 29) rfl (w.heap.size + 1) #[.string src, .string dst, .int .i64 pr, .int .i64 (-1), .int .i64 (-1)] rfl rfl 24 _ J2.out (by kernel_rfl) rfl (oneF _ _ _ _ _) ?_) | (refine Loads.wpList_load_w rfl 24 (.tmp 12) rfl (w.heap.size + 1) rfl 24 #[.string src, .string dst, .int .i64 pr, .int .i64 (-1), .int .i64 (-1)] (0, 0) _ (RG.out) Try.underlying24 rfl (by kernel_rfl) ?_) | (refine wpList_store_row rfl 24 (.tmp 10) (.tmp 66) rfl w.heap.size #[.string src, .string dst, .int .i64 pr, .int .i64 (-1), .int .i64 (-1)] rfl rfl 24 _ RZ.out (by kernel_rfl) rfl (oneF _ _ _ _ _) ?_))
    exact bodyPost_ret (results_pair rfl _ _ w.heap.size 24 #[.string src, .string dst, .int .i64 pr, .int .i64 (-1), .int .i64 (-1)] (0, 0) _ _ rfl rfl (setRow_heap _ _ _ _ _ _ RZ.out) Try.underlying24 rfl (by kernel_rfl)) rfl ⟨by rw [EE.out, RR.out]; rfl, setRow_bel B3.out (Nat.le_refl _) _⟩
end Go.Proofs.Ytijlggfcinnfeaa.PickR4
