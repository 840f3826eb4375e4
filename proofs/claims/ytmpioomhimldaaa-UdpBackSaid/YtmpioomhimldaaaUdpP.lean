/- The contract of the document's Parse. -/
import Derived.Test.YtmpioomhimldaaaUdpR
import Derived.Test.YtmpioomhimldaaaRegs
set_option linter.unusedVariables false
namespace Go.Proofs.Ytmpioomhimldaaa.UdpP
open Go.RowKit Go.Sort Go.Proofs.Ytmpioomhimldaaa.Sums Go.Proofs.Ytmpioomhimldaaa.Words Go.Proofs.Ytmpioomhimldaaa.Mem Go.Proofs.Ytmpioomhimldaaa.Dat Go.Proofs.Ytmpioomhimldaaa.Blk Go.Proofs.Ytmpioomhimldaaa.Bits Go.Proofs.Ytmpioomhimldaaa.InetSum Go.Proofs.Ytmpioomhimldaaa.Steps Go.Proofs.Ytmpioomhimldaaa.Free Go.Proofs.Ytmpioomhimldaaa.Cut Go.Proofs.Ytmpioomhimldaaa.Udp
open Go.Proofs.Ytmpioomhimldaaa.RefSum Go.Proofs.Ytmpioomhimldaaa.RefPseudo Go.Proofs.Ytmpioomhimldaaa.UdpR
open Go.Proofs.Ytmpioomhimldaaa.Regs (Lies all_below all_lit st_byte_at conv_int b_add b_mul st_slice1 ent_both)

set_option maxHeartbeats 8000000 in
set_option maxRecDepth 100000 in
theorem parse_ref (s d : ByteArray) (A : Option Addr) (n c : Nat) (l : List Int) (w : World) (B : Nat) (h : Holds w B A n c l) (hB : B ≤ w.heap.size) (hn : n ≤ 1048576) :
    Calls Try.prog 15 #[.slice A n c, .string s, .string d] w (Gp l s d w) := by
  have hl := h.1
  have hnc := h.2.1
  have B0 := Lib.hid ((Below.refl w.heap.size w).alloc (Nat.le_refl _) (.cells #[.int .i64 0, .int .i64 0, .slice none 0 0] 24))
  have R0 := Lib.hid (Blk.new w 24 #[.int .i64 0, .int .i64 0, .slice none 0 0])
  have P := Lib.hid (fun W => pair_ref s d W)
  cases hp : paired s d with
  | false =>
    rw [hp] at P
    have PE : Hid (perr l s d = 1) := Lib.hid (by unfold perr; rw [hp, if_pos rfl])
    clear h hl hp
    go_enter Try.func15, Try.ntmps15
    go_wp2_with fail
    refine (P.out _).mono ?_
    rintro e w1 ⟨rfl, rfl⟩
    go_wp2_with (refine wpList_store_row rfl 24 (.tmp 6) (.tmp 14) rfl w.heap.size #[.int .i64 0, .int .i64 0, .slice none 0 0] rfl rfl 24 _ R0.out (by kernel_rfl) rfl (oneU _ _ _ _ _) ?_)
    exact bodyPost_ret (results_pair rfl _ _ w.heap.size 24 _ (0, 0) _ _ rfl rfl (setRow_heap _ _ _ _ _ _ R0.out) Try.underlying24 rfl (by kernel_rfl)) rfl ⟨.inr ⟨by rw [PE.out]; decide, by rw [PE.out]; rfl⟩, setRow_bel B0.out (Nat.le_refl _) _⟩
  | true =>
  rw [hp] at P
  by_cases h8 : n < 8
  · have PE : Hid (perr l s d = 8) := Lib.hid (by unfold perr; rw [hp, if_neg (by decide), if_pos (by omega)])
    clear h hl hp
    go_enter Try.func15, Try.ntmps15
    go_wp2_with fail
    refine (P.out _).mono ?_
    rintro e w1 ⟨rfl, rfl⟩
    go_wp2_with (refine wpList_store_row rfl 24 (.tmp 6) (.tmp 18) rfl w.heap.size #[.int .i64 0, .int .i64 0, .slice none 0 0] rfl rfl 24 _ R0.out (by kernel_rfl) rfl (oneU _ _ _ _ _) ?_)
    exact bodyPost_ret (results_pair rfl _ _ w.heap.size 24 _ (0, 0) _ _ rfl rfl (setRow_heap _ _ _ _ _ _ R0.out) Try.underlying24 rfl (by kernel_rfl)) rfl ⟨.inr ⟨by rw [PE.out]; decide, by rw [PE.out]; rfl⟩, setRow_bel B0.out (Nat.le_refl _) _⟩
  obtain ⟨b, p, rfl, _⟩ := h.2.2.2.2 (by omega)
  have EZ : Hid (perr l s d = if (n : Int) < w16 l 4 then 8 else if w16 l 4 < 8 then 4 else if w16 l 4 < (n : Int) then 4 else if w16 l 6 = 0 then (if s.size = 4 then 0 else 5) else if whole s d l = 65535 then 0 else 5) := Lib.hid (by
    unfold perr
    rw [hp, if_neg (by decide), if_neg (by omega), hl])
  have HA0 := h.below (B0.out.mono hB)
  have c4 := cell_getD HA0 4 (by omega)
  have c5 := cell_getD HA0 5 (by omega)
  have z4 := getD_in h.2.2.2.1 4
  have z5 := getD_in h.2.2.2.1 5
  have W4 : Hid (w16 l 4 = 256 * l.getD 4 0 + l.getD 5 0) := Lib.hid rfl
  have hcm := h.2.2.1
  unfold maxLen at hcm
  have H0 := Lib.hid h
  have HP := Lib.hid hp
  clear h HA0 hp
  obtain ⟨T, hT⟩ : ∃ T, T = w16 l 4 := ⟨_, rfl⟩
  rw [← hT] at EZ W4
  obtain ⟨y4, hy4⟩ : ∃ y4, y4 = l.getD 4 0 := ⟨_, rfl⟩
  obtain ⟨y5, hy5⟩ : ∃ y5, y5 = l.getD 5 0 := ⟨_, rfl⟩
  rw [← hy4] at c4 z4 W4
  rw [← hy5] at c5 z5 W4
  have tb : 0 ≤ T ∧ T ≤ 65535 := by rw [W4.out]; omega
  have e1 : IntKind.i64.wrap (256 * y4) = 256 * y4 := IntWalk.i64_in _ (by omega)
  have e3 : IntKind.i64.wrap (256 * y4 + y5) = T := by rw [W4.out]; exact IntWalk.i64_in _ (by omega)
  have e4 : IntKind.i64.wrap y4 = y4 := IntWalk.i64_in _ (by omega)
  have e5 : IntKind.i64.wrap y5 = y5 := IntWalk.i64_in _ (by omega)
  have i4 : 4 < n := by omega
  have i5 : 5 < n := by omega
  have i4' : (4 : Int) < (n : Int) := by omega
  have i5' : (5 : Int) < (n : Int) := by omega
  have TH := Lib.hid hT
  clear hy4 hy5 hT
  go_enter Try.func15, Try.ntmps15
  go_wp2_with fail
  refine (P.out _).mono ?_
  rintro e w1 ⟨rfl, rfl⟩
  go_wp2_with fail
  go_quiet (fail)
  clear e1 e3 e4 e5 c4 c5 i4 i5 i4' i5' z4 z5
  have B1 : Hid (Below w.heap.size w ((w.alloc (.cells #[.int .i64 0, .int .i64 0, .slice none 0 0] 24)).drewN nq)) := Lib.hid (below_drewN B0.out nq)
  have R1 := Lib.hid (R0.out.drewN nq)
  generalize (w.alloc (.cells #[.int .i64 0, .int .i64 0, .slice none 0 0] 24)).drewN nq = w1 at *
  clear B0 R0
  by_cases q1 : (n : Int) < T
  · have PE : Hid (perr l s d = 8) := Lib.hid (by rw [EZ.out, if_pos q1])
    have q1' : decide ((n : Int) < T) = true := decide_eq_true q1
    clear EZ
    go_wp2_with (refine wpList_store_row rfl 24 (.tmp 6) (.tmp 33) rfl w.heap.size #[.int .i64 0, .int .i64 0, .slice none 0 0] rfl rfl 24 _ R1.out (by kernel_rfl) rfl (oneU _ _ _ _ _) ?_)
    exact bodyPost_ret (results_pair rfl _ _ w.heap.size 24 _ (0, 0) _ _ rfl rfl (setRow_heap _ _ _ _ _ _ R1.out) Try.underlying24 rfl (by kernel_rfl)) rfl ⟨.inr ⟨by rw [PE.out]; decide, by rw [PE.out]; rfl⟩, setRow_bel B1.out (Nat.le_refl _) _⟩
  have q1' : decide ((n : Int) < T) = false := decide_eq_false q1
  by_cases q2 : T < 8
  · have PE : Hid (perr l s d = 4) := Lib.hid (by rw [EZ.out, if_neg (by omega), if_pos q2])
    have q2' : decide (T < 8) = true := decide_eq_true q2
    clear EZ
    go_wp2_with (refine wpList_store_row rfl 24 (.tmp 6) (.tmp 42) rfl w.heap.size #[.int .i64 0, .int .i64 0, .slice none 0 0] rfl rfl 24 _ R1.out (by kernel_rfl) rfl (oneU _ _ _ _ _) ?_)
    exact bodyPost_ret (results_pair rfl _ _ w.heap.size 24 _ (0, 0) _ _ rfl rfl (setRow_heap _ _ _ _ _ _ R1.out) Try.underlying24 rfl (by kernel_rfl)) rfl ⟨.inr ⟨by rw [PE.out]; decide, by rw [PE.out]; rfl⟩, setRow_bel B1.out (Nat.le_refl _) _⟩
  have q2' : decide (T < 8) = false := decide_eq_false q2
  by_cases q3 : T < (n : Int)
  · have PE : Hid (perr l s d = 4) := Lib.hid (by rw [EZ.out, if_neg (by omega), if_neg (by omega), if_pos q3])
    have q3' : decide (T < (n : Int)) = true := decide_eq_true q3
    clear EZ
    go_wp2_with (refine wpList_store_row rfl 24 (.tmp 6) (.tmp 42) rfl w.heap.size #[.int .i64 0, .int .i64 0, .slice none 0 0] rfl rfl 24 _ R1.out (by kernel_rfl) rfl (oneU _ _ _ _ _) ?_)
    exact bodyPost_ret (results_pair rfl _ _ w.heap.size 24 _ (0, 0) _ _ rfl rfl (setRow_heap _ _ _ _ _ _ R1.out) Try.underlying24 rfl (by kernel_rfl)) rfl ⟨.inr ⟨by rw [PE.out]; decide, by rw [PE.out]; rfl⟩, setRow_bel B1.out (Nat.le_refl _) _⟩
  have q3' : decide (T < (n : Int)) = false := decide_eq_false q3
  have EY : Hid (perr l s d = if w16 l 6 = 0 then (if s.size = 4 then 0 else 5) else if whole s d l = 65535 then 0 else 5) := Lib.hid (by rw [EZ.out, if_neg (by omega), if_neg (by omega), if_neg (by omega)])
  have n65 : n ≤ 65535 := by omega
  have PS := paired_true HP.out
  have H1 := Lib.hid (H0.out.below (B1.out.mono hB))
  have c6 := cell_getD H1.out 6 (by omega)
  have c7 := cell_getD H1.out 7 (by omega)
  have i6 : 6 < n := by omega
  have i7 : 7 < n := by omega
  have i6' : (6 : Int) < (n : Int) := by omega
  have i7' : (7 : Int) < (n : Int) := by omega
  have z6 := getD_in H0.out.2.2.2.1 6
  have z7 := getD_in H0.out.2.2.2.1 7
  have W6 : Hid (w16 l 6 = 256 * l.getD 6 0 + l.getD 7 0) := Lib.hid rfl
  clear EZ TH W4
  obtain ⟨y6, hy6⟩ : ∃ y6, y6 = l.getD 6 0 := ⟨_, rfl⟩
  obtain ⟨y7, hy7⟩ : ∃ y7, y7 = l.getD 7 0 := ⟨_, rfl⟩
  rw [← hy6] at c6 z6 W6
  rw [← hy7] at c7 z7 W6
  clear hy6 hy7
  have hs1 := B1.out.size
  by_cases q6 : w16 l 6 = 0
  · have y60 : y6 = 0 := by have := W6.out; omega
    have y70 : y7 = 0 := by have := W6.out; omega
    subst y60 y70
    by_cases s4 : s.size = 4
    · have PE : Hid (perr l s d = 0) := Lib.hid (by rw [EY.out, if_pos q6, if_pos s4])
      have g16 : ((s.size : Int) == 16) = false := by rw [beq_eq_false_iff_ne]; omega
      clear EY q6 s4 PS
      go_wp2_with fail
      have HW : Hid (∀ w', Below w1.drew.heap.size w1.drew w' → Holds w' B (some ⟨b, p, none⟩) n c l) := Lib.hid fun w' hw => H0.out.below ((B1.out.trans (((below_drewN (Below.refl w1.heap.size w1) 1).trans hw).mono B1.out.size)).mono hB)
      have hBw : B ≤ w1.drew.heap.size := Nat.le_trans hB B1.out.size
      have hsw : w.heap.size ≤ w1.drew.heap.size := B1.out.size
      have x0 := getD_in H0.out.2.2.2.1 0
      have x1 := getD_in H0.out.2.2.2.1 1
      have x2 := getD_in H0.out.2.2.2.1 2
      have x3 := getD_in H0.out.2.2.2.1 3
      refine wp_region_free [0, 1, 2, 3, 4, 5, 6, 7, 8, 9, 10, 11, 12, 13, 14, 15, 16, 17, 18, 19, 20, 21, 22, 23] 24 [25, 26] (fun w1 w2 => Below w1.heap.size w1 w2) (fun k' w' v => match k' with
        | 0 => v = .slice (some ⟨b, p, none⟩) n c
        | 1 => v = .pointer (some ⟨b, p + 0, none⟩)
        | 2 => v = .int .u8 (l.getD 0 0)
        | 3 => v = .int .i64 (l.getD 0 0)
        | 4 => v = .int .i64 (256 * l.getD 0 0)
        | 5 => v = .slice (some ⟨b, p, none⟩) n c
        | 6 => v = .pointer (some ⟨b, p + 1, none⟩)
        | 7 => v = .int .u8 (l.getD 1 0)
        | 8 => v = .int .i64 (l.getD 1 0)
        | 9 => v = .int .i64 (256 * l.getD 0 0 + l.getD 1 0)
        | 10 => v = .slice (some ⟨b, p, none⟩) n c
        | 11 => v = .pointer (some ⟨b, p + 2, none⟩)
        | 12 => v = .int .u8 (l.getD 2 0)
        | 13 => v = .int .i64 (l.getD 2 0)
        | 14 => v = .int .i64 (256 * l.getD 2 0)
        | 15 => v = .slice (some ⟨b, p, none⟩) n c
        | 16 => v = .pointer (some ⟨b, p + 3, none⟩)
        | 17 => v = .int .u8 (l.getD 3 0)
        | 18 => v = .int .i64 (l.getD 3 0)
        | 19 => v = .int .i64 (256 * l.getD 2 0 + l.getD 3 0)
        | 20 => v = .slice (some ⟨b, p, none⟩) n c
        | 21 => v = .slice (some (adr b p c 8)) (n - 8) (c - 8)
        | 22 => ∃ g A0 c0, v = .slice (some ⟨g, 0, none⟩) 1 1 ∧ Both.All w' w'.heap.size g [⟨A0, n - 8, c0, l.drop 8⟩]
        | _ => ∃ A' c', v = .slice A' (n - 8) c' ∧ Owns w' w.heap.size v (n - 8) (l.drop 8)) (by kernel_rfl) (by kernel_rfl) (Below.refl _ _) (fun _ _ _ h k => h.trans (k.mono h.size)) (fun k' w1 w2 v h => match k' with
        | 0 => fun x => x
        | 1 => fun x => x
        | 2 => fun x => x
        | 3 => fun x => x
        | 4 => fun x => x
        | 5 => fun x => x
        | 6 => fun x => x
        | 7 => fun x => x
        | 8 => fun x => x
        | 9 => fun x => x
        | 10 => fun x => x
        | 11 => fun x => x
        | 12 => fun x => x
        | 13 => fun x => x
        | 14 => fun x => x
        | 15 => fun x => x
        | 16 => fun x => x
        | 17 => fun x => x
        | 18 => fun x => x
        | 19 => fun x => x
        | 20 => fun x => x
        | 21 => fun x => x
        | 22 => fun ⟨g, A0, c0, e, x⟩ => ⟨g, A0, c0, e, all_below x h⟩
        | _ + 23 => fun ⟨A', c', e, o⟩ => ⟨A', c', e, Owns.below o h (Nat.le_refl _)⟩) (fun _ _ _ _ _ h => h) ?_ _ (by rfl) ?_
      · refine obs_cons (by rfl) (fun vals w' hgr hdep K hK => ?_) (obs_cons (by rfl) (fun vals w' hgr hdep K hK => ?_) (obs_cons (by rfl) (fun vals w' hgr hdep K hK => ?_) (obs_cons (by rfl) (fun vals w' hgr hdep K hK => ?_) (obs_cons (by rfl) (fun vals w' hgr hdep K hK => ?_) (obs_cons (by rfl) (fun vals w' hgr hdep K hK => ?_) (obs_cons (by rfl) (fun vals w' hgr hdep K hK => ?_) (obs_cons (by rfl) (fun vals w' hgr hdep K hK => ?_) (obs_cons (by rfl) (fun vals w' hgr hdep K hK => ?_) (obs_cons (by rfl) (fun vals w' hgr hdep K hK => ?_) (obs_cons (by rfl) (fun vals w' hgr hdep K hK => ?_) (obs_cons (by rfl) (fun vals w' hgr hdep K hK => ?_) (obs_cons (by rfl) (fun vals w' hgr hdep K hK => ?_) (obs_cons (by rfl) (fun vals w' hgr hdep K hK => ?_) (obs_cons (by rfl) (fun vals w' hgr hdep K hK => ?_) (obs_cons (by rfl) (fun vals w' hgr hdep K hK => ?_) (obs_cons (by rfl) (fun vals w' hgr hdep K hK => ?_) (obs_cons (by rfl) (fun vals w' hgr hdep K hK => ?_) (obs_cons (by rfl) (fun vals w' hgr hdep K hK => ?_) (obs_cons (by rfl) (fun vals w' hgr hdep K hK => ?_) (obs_cons (by rfl) (fun vals w' hgr hdep K hK => ?_) (obs_cons (by rfl) (fun vals w' hgr hdep K hK => ?_) (obs_cons (by rfl) (fun vals w' hgr hdep K hK => ?_) (obs_cons (by rfl) (fun vals w' hgr hdep K hK => ?_) (obs_nil))))))))))))))))))))))))
        · exact wp_move (.tmp 0) rfl _ (at_out _ (by kernel_rfl) rfl) (hK _ _ (Below.refl _ _) rfl)
        · exact st_byte_at (.tmp 71) (.const (.int .i64 0)) rfl b p n c 0 ((at_dst 0 (by kernel_rfl)).trans (hdep 0 (by simp) (by kernel_rfl))) rfl (by omega) (hK _ _ (Below.refl _ _) rfl)
        · exact wp_load1 (.tmp 72) rfl ⟨b, p + 0, none⟩ ((at_dst 1 (by kernel_rfl)).trans (hdep 1 (by simp) (by kernel_rfl))) Try.underlying5 rfl _ (cell_getD (HW.out _ hgr) 0 (by omega)) (hK _ _ (Below.refl _ _) rfl)
        · exact wp_conv (.tmp 73) rfl _ _ ((at_dst 2 (by kernel_rfl)).trans (hdep 2 (by simp) (by kernel_rfl))) (conv_int _ _ (by omega) (by omega)) (hK _ _ (Below.refl _ _) rfl)
        · exact wp_bin (.const (.int .i64 256)) (.tmp 74) rfl _ _ _ rfl ((at_dst 3 (by kernel_rfl)).trans (hdep 3 (by simp) (by kernel_rfl))) (b_mul _ _ _ _ _ (by omega) (by omega)) (hK _ _ (Below.refl _ _) rfl)
        · exact wp_move (.tmp 0) rfl _ (at_out _ (by kernel_rfl) rfl) (hK _ _ (Below.refl _ _) rfl)
        · exact st_byte_at (.tmp 76) (.const (.int .i64 1)) rfl b p n c 1 ((at_dst 5 (by kernel_rfl)).trans (hdep 5 (by simp) (by kernel_rfl))) rfl (by omega) (hK _ _ (Below.refl _ _) rfl)
        · exact wp_load1 (.tmp 77) rfl ⟨b, p + 1, none⟩ ((at_dst 6 (by kernel_rfl)).trans (hdep 6 (by simp) (by kernel_rfl))) Try.underlying5 rfl _ (cell_getD (HW.out _ hgr) 1 (by omega)) (hK _ _ (Below.refl _ _) rfl)
        · exact wp_conv (.tmp 78) rfl _ _ ((at_dst 7 (by kernel_rfl)).trans (hdep 7 (by simp) (by kernel_rfl))) (conv_int _ _ (by omega) (by omega)) (hK _ _ (Below.refl _ _) rfl)
        · exact wp_bin (.tmp 75) (.tmp 79) rfl _ _ _ ((at_dst 4 (by kernel_rfl)).trans (hdep 4 (by simp) (by kernel_rfl))) ((at_dst 8 (by kernel_rfl)).trans (hdep 8 (by simp) (by kernel_rfl))) (b_add _ _ _ _ _ (by omega) (by omega)) (hK _ _ (Below.refl _ _) rfl)
        · exact wp_move (.tmp 0) rfl _ (at_out _ (by kernel_rfl) rfl) (hK _ _ (Below.refl _ _) rfl)
        · exact st_byte_at (.tmp 81) (.const (.int .i64 2)) rfl b p n c 2 ((at_dst 10 (by kernel_rfl)).trans (hdep 10 (by simp) (by kernel_rfl))) rfl (by omega) (hK _ _ (Below.refl _ _) rfl)
        · exact wp_load1 (.tmp 82) rfl ⟨b, p + 2, none⟩ ((at_dst 11 (by kernel_rfl)).trans (hdep 11 (by simp) (by kernel_rfl))) Try.underlying5 rfl _ (cell_getD (HW.out _ hgr) 2 (by omega)) (hK _ _ (Below.refl _ _) rfl)
        · exact wp_conv (.tmp 83) rfl _ _ ((at_dst 12 (by kernel_rfl)).trans (hdep 12 (by simp) (by kernel_rfl))) (conv_int _ _ (by omega) (by omega)) (hK _ _ (Below.refl _ _) rfl)
        · exact wp_bin (.const (.int .i64 256)) (.tmp 84) rfl _ _ _ rfl ((at_dst 13 (by kernel_rfl)).trans (hdep 13 (by simp) (by kernel_rfl))) (b_mul _ _ _ _ _ (by omega) (by omega)) (hK _ _ (Below.refl _ _) rfl)
        · exact wp_move (.tmp 0) rfl _ (at_out _ (by kernel_rfl) rfl) (hK _ _ (Below.refl _ _) rfl)
        · exact st_byte_at (.tmp 86) (.const (.int .i64 3)) rfl b p n c 3 ((at_dst 15 (by kernel_rfl)).trans (hdep 15 (by simp) (by kernel_rfl))) rfl (by omega) (hK _ _ (Below.refl _ _) rfl)
        · exact wp_load1 (.tmp 87) rfl ⟨b, p + 3, none⟩ ((at_dst 16 (by kernel_rfl)).trans (hdep 16 (by simp) (by kernel_rfl))) Try.underlying5 rfl _ (cell_getD (HW.out _ hgr) 3 (by omega)) (hK _ _ (Below.refl _ _) rfl)
        · exact wp_conv (.tmp 88) rfl _ _ ((at_dst 17 (by kernel_rfl)).trans (hdep 17 (by simp) (by kernel_rfl))) (conv_int _ _ (by omega) (by omega)) (hK _ _ (Below.refl _ _) rfl)
        · exact wp_bin (.tmp 85) (.tmp 89) rfl _ _ _ ((at_dst 14 (by kernel_rfl)).trans (hdep 14 (by simp) (by kernel_rfl))) ((at_dst 18 (by kernel_rfl)).trans (hdep 18 (by simp) (by kernel_rfl))) (b_add _ _ _ _ _ (by omega) (by omega)) (hK _ _ (Below.refl _ _) rfl)
        · exact wp_move (.tmp 0) rfl _ (at_out _ (by kernel_rfl) rfl) (hK _ _ (Below.refl _ _) rfl)
        · exact wp_slice (.tmp 91) rfl _ _ (some (.int .i64 8)) none none ((at_dst 20 (by kernel_rfl)).trans (hdep 20 (by simp) (by kernel_rfl))) rfl rfl rfl (cutA_l b p n c 8 _ (by omega) (by omega)) (hK _ _ (Below.refl _ _) rfl)
        · exact st_slice1 (.tmp 92) rfl _ _ _ ((at_dst 21 (by kernel_rfl)).trans (hdep 21 (by simp) (by kernel_rfl))) (hK _ _ ((Below.refl _ _).alloc (Nat.le_refl _) _) ⟨_, adr b p c 8, c - 8, rfl, all_lit _ _ _ _ rfl (Both.mem1 ((cutA_rest (lo := 8) (HW.out _ hgr) (by omega)).more (Nat.le_trans hBw hgr.size)))⟩)
        · obtain ⟨g, A0, c0, eg, al⟩ := hdep 22 (by simp) (by kernel_rfl)
          exact wp_call 8 [.tmp 93] _ rfl ent_both [.slice (some ⟨g, 0, none⟩) 1 1] (congrArg (fun z => [z]) ((at_dst 22 (by kernel_rfl)).trans eg)) (fun v w'' => (∃ A' c', v = .slice A' (n - 8) c' ∧ Owns w'' w'.heap.size v (n - 8) (l.drop 8)) ∧ Below w'.heap.size w' w'') ((Both.both_any g 1 1 _ w' al rfl (by decide) (by show n - 8 + 0 ≤ 1048576; omega)).mono fun e w'' ⟨v, h1, h2, h3⟩ => ⟨v, h1, by
            have h2' : Owns w'' w'.heap.size v (n - 8) (l.drop 8) := by simpa [Both.flat, Both.total] using h2
            obtain ⟨A', c', rfl, _⟩ := h2'.slice
            exact ⟨A', c', rfl, h2'⟩, h3⟩) (fun v w'' ⟨⟨A', c', h1, h2⟩, h3⟩ => hK v w'' h3 ⟨A', c', h1, h2.mono (Nat.le_trans hsw hgr.size)⟩)
      · intro vals w' hgr hG
        obtain ⟨A', c', ec, oc⟩ : ∃ A' c', vals 23 = .slice A' (n - 8) c' ∧ Owns w' w.heap.size (vals 23) (n - 8) (l.drop 8) := hG 23 (by simp)
        have e9 : vals 9 = .int .i64 (w16 l 0) := hG 9 (by simp)
        have e19 : vals 19 = .int .i64 (w16 l 2) := hG 19 (by simp)
        rw [ec] at oc
        refine st_build ([(0, 80, 9), (1, 90, 19), (2, 94, 23)].map fun q => (q.1, Operand.tmp q.2.1)) rfl ([(0, 80, 9), (1, 90, 19), (2, 94, 23)].map fun q => (q.1, vals q.2.2)) (map_fill [(0, 80, 9), (1, 90, 19), (2, 94, 23)] (by kernel_rfl)) (.agg #[.int .i64 (w16 l 0), .int .i64 (w16 l 2), .slice A' (n - 8) c']) ?_ ?_
        · simp only [List.map, e9, e19, ec]
          exact buildU _ _ _ _ _ _
        · have R9 := R1.out.drew.below hgr R1.out.lt
          refine wpAnyH_next 25 _ rfl rfl (by kernel_rfl) (st_store_row 24 (.tmp 6) (.tmp 95) rfl w.heap.size _ (put_tmps_ne (by rfl) (at_out _ (by kernel_rfl) rfl)) (put_tmps_eq (fill_size _ _ _) (by kernel_rfl)) 24 _ R9 (by kernel_rfl) rfl (oneU _ _ _ _ _) ⟨trivial, wpAnyH_next 26 _ rfl rfl (by kernel_rfl) (st_assign (.const (.int .i64 0)) (.int .i64 0) rfl rfl ⟨trivial, wpAnyH_done (by kernel_rfl) ?_ _⟩)⟩)
          have BB : Below w.heap.size w (w'.setRow w.heap.size #[.int .i64 (w16 l 0), .int .i64 (w16 l 2), .slice A' (n - 8) c']) := setRow_bel ((below_drewN B1.out 1).trans (hgr.mono hsw)) (Nat.le_refl _) _
          have RR := setRow_heap w' w.heap.size _ #[.int .i64 (w16 l 0), .int .i64 (w16 l 2), .slice A' (n - 8) c'] _ _ R9
          have OO : Owns (w'.setRow w.heap.size #[.int .i64 (w16 l 0), .int .i64 (w16 l 2), .slice A' (n - 8) c']) w.heap.size (.slice A' (n - 8) c') (n - 8) (l.drop 8) := oc.kept (row := some w.heap.size) (grown_row _ _ _) (.inr (own_other oc R9 (by decide)))
          generalize hF : Act.put _ _ _ = F
          have h2 : F.eval (.tmp 6) = .pointer (some ⟨w.heap.size, 0, none⟩) := by
            rw [← hF]
            exact put_tmps_ne (d := 7) (by rfl) (put_none (put_tmps_ne (d := 95) (by rfl) (at_out _ (by kernel_rfl) rfl)))
          have h3 : F.eval (.tmp 7) = .int .i64 0 := by
            rw [← hF]
            exact put_tmps_eq (d := 7) (put_size (put_size (fill_size _ _ _))) (by kernel_rfl)
          have h0 : F.defers = [] := by
            rw [← hF]
            exact put_defs (put_defs (put_defs (fill_defs _ _ _)))
          clear hF hG oc R9
          generalize w'.setRow w.heap.size _ = w9 at *
          go_wp2_with fail
          exact bodyPost_ret (results_pair rfl _ _ w.heap.size 24 _ (0, 0) _ _ h2 h3 RR Try.underlying24 rfl (by kernel_rfl)) h0 ⟨.inl ⟨PE.out, A', n - 8, c', rfl, OO⟩, BB⟩
    · have PE : Hid (perr l s d = 5) := Lib.hid (by rw [EY.out, if_pos q6, if_neg s4])
      have g16 : ((s.size : Int) == 16) = true := by rw [beq_iff_eq]; omega
      clear EY q6 s4 PS
      go_wp2_with (refine wpList_store_row rfl 24 (.tmp 6) (.tmp 70) rfl w.heap.size #[.int .i64 0, .int .i64 0, .slice none 0 0] rfl rfl 24 _ R1.out (by kernel_rfl) rfl (oneU _ _ _ _ _) ?_)
      exact bodyPost_ret (results_pair rfl _ _ w.heap.size 24 _ (0, 0) _ _ rfl rfl (setRow_heap _ _ _ _ _ _ R1.out) Try.underlying24 rfl (by kernel_rfl)) rfl ⟨.inr ⟨by rw [PE.out]; decide, by rw [PE.out]; rfl⟩, setRow_bel B1.out (Nat.le_refl _) _⟩
  have g67 : ((y6 == 0) = false) ∨ ((y6 == 0) = true ∧ (y7 == 0) = false) := by
    by_cases a : y6 = 0
    · right
      exact ⟨by rw [beq_iff_eq]; exact a, by rw [beq_eq_false_iff_ne]; have := W6.out; omega⟩
    · left
      rw [beq_eq_false_iff_ne]; exact a
  have SM := Lib.hid (sum_any5 s d (some ⟨b, p, none⟩) n c l w1 B H1.out (by omega) n65 HP.out)
  obtain ⟨t, ht⟩ : ∃ t, t = whole s d l := ⟨_, rfl⟩
  rw [← ht] at EY SM
  clear ht PS W6
  by_cases q5 : t = 65535
  · have PE : Hid (perr l s d = 0) := Lib.hid (by rw [EY.out, if_neg q6, if_pos q5])
    subst q5
    clear EY q6
    rcases g67 with g6 | ⟨g6, g7⟩
    all_goals
      go_wp2_with fail
      refine SM.out.mono ?_
      rintro e w2 ⟨rfl, hb⟩
      have B2 := Lib.hid (B1.out.trans (hb.mono hs1))
      have R2 := Lib.hid (R1.out.below hb R1.out.lt)
      clear hb SM B1 R1 H1
      have hs2 := B2.out.size
      go_wp2_with fail
      have HW : Hid (∀ w', Below w2.drew.heap.size w2.drew w' → Holds w' B (some ⟨b, p, none⟩) n c l) := Lib.hid fun w' hw => H0.out.below ((B2.out.trans (((below_drewN (Below.refl w2.heap.size w2) 1).trans hw).mono B2.out.size)).mono hB)
      have hBw : B ≤ w2.drew.heap.size := Nat.le_trans hB B2.out.size
      have hsw : w.heap.size ≤ w2.drew.heap.size := B2.out.size
      have x0 := getD_in H0.out.2.2.2.1 0
      have x1 := getD_in H0.out.2.2.2.1 1
      have x2 := getD_in H0.out.2.2.2.1 2
      have x3 := getD_in H0.out.2.2.2.1 3
      refine wp_region_free [0, 1, 2, 3, 4, 5, 6, 7, 8, 9, 10, 11, 12, 13, 14, 15, 16, 17, 18, 19, 20, 21, 22, 23] 24 [25, 26] (fun w1 w2 => Below w1.heap.size w1 w2) (fun k' w' v => match k' with
        | 0 => v = .slice (some ⟨b, p, none⟩) n c
        | 1 => v = .pointer (some ⟨b, p + 0, none⟩)
        | 2 => v = .int .u8 (l.getD 0 0)
        | 3 => v = .int .i64 (l.getD 0 0)
        | 4 => v = .int .i64 (256 * l.getD 0 0)
        | 5 => v = .slice (some ⟨b, p, none⟩) n c
        | 6 => v = .pointer (some ⟨b, p + 1, none⟩)
        | 7 => v = .int .u8 (l.getD 1 0)
        | 8 => v = .int .i64 (l.getD 1 0)
        | 9 => v = .int .i64 (256 * l.getD 0 0 + l.getD 1 0)
        | 10 => v = .slice (some ⟨b, p, none⟩) n c
        | 11 => v = .pointer (some ⟨b, p + 2, none⟩)
        | 12 => v = .int .u8 (l.getD 2 0)
        | 13 => v = .int .i64 (l.getD 2 0)
        | 14 => v = .int .i64 (256 * l.getD 2 0)
        | 15 => v = .slice (some ⟨b, p, none⟩) n c
        | 16 => v = .pointer (some ⟨b, p + 3, none⟩)
        | 17 => v = .int .u8 (l.getD 3 0)
        | 18 => v = .int .i64 (l.getD 3 0)
        | 19 => v = .int .i64 (256 * l.getD 2 0 + l.getD 3 0)
        | 20 => v = .slice (some ⟨b, p, none⟩) n c
        | 21 => v = .slice (some (adr b p c 8)) (n - 8) (c - 8)
        | 22 => ∃ g A0 c0, v = .slice (some ⟨g, 0, none⟩) 1 1 ∧ Both.All w' w'.heap.size g [⟨A0, n - 8, c0, l.drop 8⟩]
        | _ => ∃ A' c', v = .slice A' (n - 8) c' ∧ Owns w' w.heap.size v (n - 8) (l.drop 8)) (by kernel_rfl) (by kernel_rfl) (Below.refl _ _) (fun _ _ _ h k => h.trans (k.mono h.size)) (fun k' w1 w2 v h => match k' with
        | 0 => fun x => x
        | 1 => fun x => x
        | 2 => fun x => x
        | 3 => fun x => x
        | 4 => fun x => x
        | 5 => fun x => x
        | 6 => fun x => x
        | 7 => fun x => x
        | 8 => fun x => x
        | 9 => fun x => x
        | 10 => fun x => x
        | 11 => fun x => x
        | 12 => fun x => x
        | 13 => fun x => x
        | 14 => fun x => x
        | 15 => fun x => x
        | 16 => fun x => x
        | 17 => fun x => x
        | 18 => fun x => x
        | 19 => fun x => x
        | 20 => fun x => x
        | 21 => fun x => x
        | 22 => fun ⟨g, A0, c0, e, x⟩ => ⟨g, A0, c0, e, all_below x h⟩
        | _ + 23 => fun ⟨A', c', e, o⟩ => ⟨A', c', e, Owns.below o h (Nat.le_refl _)⟩) (fun _ _ _ _ _ h => h) ?_ _ (by rfl) ?_
      · refine obs_cons (by rfl) (fun vals w' hgr hdep K hK => ?_) (obs_cons (by rfl) (fun vals w' hgr hdep K hK => ?_) (obs_cons (by rfl) (fun vals w' hgr hdep K hK => ?_) (obs_cons (by rfl) (fun vals w' hgr hdep K hK => ?_) (obs_cons (by rfl) (fun vals w' hgr hdep K hK => ?_) (obs_cons (by rfl) (fun vals w' hgr hdep K hK => ?_) (obs_cons (by rfl) (fun vals w' hgr hdep K hK => ?_) (obs_cons (by rfl) (fun vals w' hgr hdep K hK => ?_) (obs_cons (by rfl) (fun vals w' hgr hdep K hK => ?_) (obs_cons (by rfl) (fun vals w' hgr hdep K hK => ?_) (obs_cons (by rfl) (fun vals w' hgr hdep K hK => ?_) (obs_cons (by rfl) (fun vals w' hgr hdep K hK => ?_) (obs_cons (by rfl) (fun vals w' hgr hdep K hK => ?_) (obs_cons (by rfl) (fun vals w' hgr hdep K hK => ?_) (obs_cons (by rfl) (fun vals w' hgr hdep K hK => ?_) (obs_cons (by rfl) (fun vals w' hgr hdep K hK => ?_) (obs_cons (by rfl) (fun vals w' hgr hdep K hK => ?_) (obs_cons (by rfl) (fun vals w' hgr hdep K hK => ?_) (obs_cons (by rfl) (fun vals w' hgr hdep K hK => ?_) (obs_cons (by rfl) (fun vals w' hgr hdep K hK => ?_) (obs_cons (by rfl) (fun vals w' hgr hdep K hK => ?_) (obs_cons (by rfl) (fun vals w' hgr hdep K hK => ?_) (obs_cons (by rfl) (fun vals w' hgr hdep K hK => ?_) (obs_cons (by rfl) (fun vals w' hgr hdep K hK => ?_) (obs_nil))))))))))))))))))))))))
        · exact wp_move (.tmp 0) rfl _ (at_out _ (by kernel_rfl) rfl) (hK _ _ (Below.refl _ _) rfl)
        · exact st_byte_at (.tmp 71) (.const (.int .i64 0)) rfl b p n c 0 ((at_dst 0 (by kernel_rfl)).trans (hdep 0 (by simp) (by kernel_rfl))) rfl (by omega) (hK _ _ (Below.refl _ _) rfl)
        · exact wp_load1 (.tmp 72) rfl ⟨b, p + 0, none⟩ ((at_dst 1 (by kernel_rfl)).trans (hdep 1 (by simp) (by kernel_rfl))) Try.underlying5 rfl _ (cell_getD (HW.out _ hgr) 0 (by omega)) (hK _ _ (Below.refl _ _) rfl)
        · exact wp_conv (.tmp 73) rfl _ _ ((at_dst 2 (by kernel_rfl)).trans (hdep 2 (by simp) (by kernel_rfl))) (conv_int _ _ (by omega) (by omega)) (hK _ _ (Below.refl _ _) rfl)
        · exact wp_bin (.const (.int .i64 256)) (.tmp 74) rfl _ _ _ rfl ((at_dst 3 (by kernel_rfl)).trans (hdep 3 (by simp) (by kernel_rfl))) (b_mul _ _ _ _ _ (by omega) (by omega)) (hK _ _ (Below.refl _ _) rfl)
        · exact wp_move (.tmp 0) rfl _ (at_out _ (by kernel_rfl) rfl) (hK _ _ (Below.refl _ _) rfl)
        · exact st_byte_at (.tmp 76) (.const (.int .i64 1)) rfl b p n c 1 ((at_dst 5 (by kernel_rfl)).trans (hdep 5 (by simp) (by kernel_rfl))) rfl (by omega) (hK _ _ (Below.refl _ _) rfl)
        · exact wp_load1 (.tmp 77) rfl ⟨b, p + 1, none⟩ ((at_dst 6 (by kernel_rfl)).trans (hdep 6 (by simp) (by kernel_rfl))) Try.underlying5 rfl _ (cell_getD (HW.out _ hgr) 1 (by omega)) (hK _ _ (Below.refl _ _) rfl)
        · exact wp_conv (.tmp 78) rfl _ _ ((at_dst 7 (by kernel_rfl)).trans (hdep 7 (by simp) (by kernel_rfl))) (conv_int _ _ (by omega) (by omega)) (hK _ _ (Below.refl _ _) rfl)
        · exact wp_bin (.tmp 75) (.tmp 79) rfl _ _ _ ((at_dst 4 (by kernel_rfl)).trans (hdep 4 (by simp) (by kernel_rfl))) ((at_dst 8 (by kernel_rfl)).trans (hdep 8 (by simp) (by kernel_rfl))) (b_add _ _ _ _ _ (by omega) (by omega)) (hK _ _ (Below.refl _ _) rfl)
        · exact wp_move (.tmp 0) rfl _ (at_out _ (by kernel_rfl) rfl) (hK _ _ (Below.refl _ _) rfl)
        · exact st_byte_at (.tmp 81) (.const (.int .i64 2)) rfl b p n c 2 ((at_dst 10 (by kernel_rfl)).trans (hdep 10 (by simp) (by kernel_rfl))) rfl (by omega) (hK _ _ (Below.refl _ _) rfl)
        · exact wp_load1 (.tmp 82) rfl ⟨b, p + 2, none⟩ ((at_dst 11 (by kernel_rfl)).trans (hdep 11 (by simp) (by kernel_rfl))) Try.underlying5 rfl _ (cell_getD (HW.out _ hgr) 2 (by omega)) (hK _ _ (Below.refl _ _) rfl)
        · exact wp_conv (.tmp 83) rfl _ _ ((at_dst 12 (by kernel_rfl)).trans (hdep 12 (by simp) (by kernel_rfl))) (conv_int _ _ (by omega) (by omega)) (hK _ _ (Below.refl _ _) rfl)
        · exact wp_bin (.const (.int .i64 256)) (.tmp 84) rfl _ _ _ rfl ((at_dst 13 (by kernel_rfl)).trans (hdep 13 (by simp) (by kernel_rfl))) (b_mul _ _ _ _ _ (by omega) (by omega)) (hK _ _ (Below.refl _ _) rfl)
        · exact wp_move (.tmp 0) rfl _ (at_out _ (by kernel_rfl) rfl) (hK _ _ (Below.refl _ _) rfl)
        · exact st_byte_at (.tmp 86) (.const (.int .i64 3)) rfl b p n c 3 ((at_dst 15 (by kernel_rfl)).trans (hdep 15 (by simp) (by kernel_rfl))) rfl (by omega) (hK _ _ (Below.refl _ _) rfl)
        · exact wp_load1 (.tmp 87) rfl ⟨b, p + 3, none⟩ ((at_dst 16 (by kernel_rfl)).trans (hdep 16 (by simp) (by kernel_rfl))) Try.underlying5 rfl _ (cell_getD (HW.out _ hgr) 3 (by omega)) (hK _ _ (Below.refl _ _) rfl)
        · exact wp_conv (.tmp 88) rfl _ _ ((at_dst 17 (by kernel_rfl)).trans (hdep 17 (by simp) (by kernel_rfl))) (conv_int _ _ (by omega) (by omega)) (hK _ _ (Below.refl _ _) rfl)
        · exact wp_bin (.tmp 85) (.tmp 89) rfl _ _ _ ((at_dst 14 (by kernel_rfl)).trans (hdep 14 (by simp) (by kernel_rfl))) ((at_dst 18 (by kernel_rfl)).trans (hdep 18 (by simp) (by kernel_rfl))) (b_add _ _ _ _ _ (by omega) (by omega)) (hK _ _ (Below.refl _ _) rfl)
        · exact wp_move (.tmp 0) rfl _ (at_out _ (by kernel_rfl) rfl) (hK _ _ (Below.refl _ _) rfl)
        · exact wp_slice (.tmp 91) rfl _ _ (some (.int .i64 8)) none none ((at_dst 20 (by kernel_rfl)).trans (hdep 20 (by simp) (by kernel_rfl))) rfl rfl rfl (cutA_l b p n c 8 _ (by omega) (by omega)) (hK _ _ (Below.refl _ _) rfl)
        · exact st_slice1 (.tmp 92) rfl _ _ _ ((at_dst 21 (by kernel_rfl)).trans (hdep 21 (by simp) (by kernel_rfl))) (hK _ _ ((Below.refl _ _).alloc (Nat.le_refl _) _) ⟨_, adr b p c 8, c - 8, rfl, all_lit _ _ _ _ rfl (Both.mem1 ((cutA_rest (lo := 8) (HW.out _ hgr) (by omega)).more (Nat.le_trans hBw hgr.size)))⟩)
        · obtain ⟨g, A0, c0, eg, al⟩ := hdep 22 (by simp) (by kernel_rfl)
          exact wp_call 8 [.tmp 93] _ rfl ent_both [.slice (some ⟨g, 0, none⟩) 1 1] (congrArg (fun z => [z]) ((at_dst 22 (by kernel_rfl)).trans eg)) (fun v w'' => (∃ A' c', v = .slice A' (n - 8) c' ∧ Owns w'' w'.heap.size v (n - 8) (l.drop 8)) ∧ Below w'.heap.size w' w'') ((Both.both_any g 1 1 _ w' al rfl (by decide) (by show n - 8 + 0 ≤ 1048576; omega)).mono fun e w'' ⟨v, h1, h2, h3⟩ => ⟨v, h1, by
            have h2' : Owns w'' w'.heap.size v (n - 8) (l.drop 8) := by simpa [Both.flat, Both.total] using h2
            obtain ⟨A', c', rfl, _⟩ := h2'.slice
            exact ⟨A', c', rfl, h2'⟩, h3⟩) (fun v w'' ⟨⟨A', c', h1, h2⟩, h3⟩ => hK v w'' h3 ⟨A', c', h1, h2.mono (Nat.le_trans hsw hgr.size)⟩)
      · intro vals w' hgr hG
        obtain ⟨A', c', ec, oc⟩ : ∃ A' c', vals 23 = .slice A' (n - 8) c' ∧ Owns w' w.heap.size (vals 23) (n - 8) (l.drop 8) := hG 23 (by simp)
        have e9 : vals 9 = .int .i64 (w16 l 0) := hG 9 (by simp)
        have e19 : vals 19 = .int .i64 (w16 l 2) := hG 19 (by simp)
        rw [ec] at oc
        refine st_build ([(0, 80, 9), (1, 90, 19), (2, 94, 23)].map fun q => (q.1, Operand.tmp q.2.1)) rfl ([(0, 80, 9), (1, 90, 19), (2, 94, 23)].map fun q => (q.1, vals q.2.2)) (map_fill [(0, 80, 9), (1, 90, 19), (2, 94, 23)] (by kernel_rfl)) (.agg #[.int .i64 (w16 l 0), .int .i64 (w16 l 2), .slice A' (n - 8) c']) ?_ ?_
        · simp only [List.map, e9, e19, ec]
          exact buildU _ _ _ _ _ _
        · have R9 := R2.out.drew.below hgr R2.out.lt
          refine wpAnyH_next 25 _ rfl rfl (by kernel_rfl) (st_store_row 24 (.tmp 6) (.tmp 95) rfl w.heap.size _ (put_tmps_ne (by rfl) (at_out _ (by kernel_rfl) rfl)) (put_tmps_eq (fill_size _ _ _) (by kernel_rfl)) 24 _ R9 (by kernel_rfl) rfl (oneU _ _ _ _ _) ⟨trivial, wpAnyH_next 26 _ rfl rfl (by kernel_rfl) (st_assign (.const (.int .i64 0)) (.int .i64 0) rfl rfl ⟨trivial, wpAnyH_done (by kernel_rfl) ?_ _⟩)⟩)
          have BB : Below w.heap.size w (w'.setRow w.heap.size #[.int .i64 (w16 l 0), .int .i64 (w16 l 2), .slice A' (n - 8) c']) := setRow_bel ((below_drewN B2.out 1).trans (hgr.mono hsw)) (Nat.le_refl _) _
          have RR := setRow_heap w' w.heap.size _ #[.int .i64 (w16 l 0), .int .i64 (w16 l 2), .slice A' (n - 8) c'] _ _ R9
          have OO : Owns (w'.setRow w.heap.size #[.int .i64 (w16 l 0), .int .i64 (w16 l 2), .slice A' (n - 8) c']) w.heap.size (.slice A' (n - 8) c') (n - 8) (l.drop 8) := oc.kept (row := some w.heap.size) (grown_row _ _ _) (.inr (own_other oc R9 (by decide)))
          generalize hF : Act.put _ _ _ = F
          have h2 : F.eval (.tmp 6) = .pointer (some ⟨w.heap.size, 0, none⟩) := by
            rw [← hF]
            exact put_tmps_ne (d := 7) (by rfl) (put_none (put_tmps_ne (d := 95) (by rfl) (at_out _ (by kernel_rfl) rfl)))
          have h3 : F.eval (.tmp 7) = .int .i64 0 := by
            rw [← hF]
            exact put_tmps_eq (d := 7) (put_size (put_size (fill_size _ _ _))) (by kernel_rfl)
          have h0 : F.defers = [] := by
            rw [← hF]
            exact put_defs (put_defs (put_defs (fill_defs _ _ _)))
          clear hF hG oc R9
          generalize w'.setRow w.heap.size _ = w9 at *
          go_wp2_with fail
          exact bodyPost_ret (results_pair rfl _ _ w.heap.size 24 _ (0, 0) _ _ h2 h3 RR Try.underlying24 rfl (by kernel_rfl)) h0 ⟨.inl ⟨PE.out, A', n - 8, c', rfl, OO⟩, BB⟩
  · have PE : Hid (perr l s d = 5) := Lib.hid (by rw [EY.out, if_neg q6, if_neg q5])
    have q5' : (t != 65535) = true := by simpa using q5
    clear EY q6 q5
    rcases g67 with g6 | ⟨g6, g7⟩
    all_goals
      go_wp2_with fail
      refine SM.out.mono ?_
      rintro e w2 ⟨rfl, hb⟩
      have B2 := Lib.hid (B1.out.trans (hb.mono hs1))
      have R2 := Lib.hid (R1.out.below hb R1.out.lt)
      clear hb SM B1 R1 H1
      go_wp2_with (refine wpList_store_row rfl 24 (.tmp 6) (.tmp 70) rfl w.heap.size #[.int .i64 0, .int .i64 0, .slice none 0 0] rfl rfl 24 _ R2.out (by kernel_rfl) rfl (oneU _ _ _ _ _) ?_)
      exact bodyPost_ret (results_pair rfl _ _ w.heap.size 24 _ (0, 0) _ _ rfl rfl (setRow_heap _ _ _ _ _ _ R2.out) Try.underlying24 rfl (by kernel_rfl)) rfl ⟨.inr ⟨by rw [PE.out]; decide, by rw [PE.out]; rfl⟩, setRow_bel B2.out (Nat.le_refl _) _⟩
end Go.Proofs.Ytmpioomhimldaaa.UdpP
