/- The contract of the document's Parse. -/
import Derived.Test.YthmleabmklnmcaaDoorIcmR
import Derived.Test.YthmleabmklnmcaaDoorIcmP
set_option linter.unusedVariables false
namespace Go.Proofs.YthmleabmklnmcaaDoor.IcmQ
open Go.RowKit Go.Sort Go.Proofs.YthmleabmklnmcaaDoor.Sums Go.Proofs.YthmleabmklnmcaaDoor.Words Go.Proofs.YthmleabmklnmcaaDoor.Mem Go.Proofs.YthmleabmklnmcaaDoor.Ahead Go.Proofs.YthmleabmklnmcaaDoor.IcmD Go.Proofs.YthmleabmklnmcaaDoor.Blk Go.Proofs.YthmleabmklnmcaaDoor.Bits Go.Proofs.YthmleabmklnmcaaDoor.InetSum Go.Proofs.YthmleabmklnmcaaDoor.Steps Go.Proofs.YthmleabmklnmcaaDoor.Free Go.Proofs.YthmleabmklnmcaaDoor.Cut
open Go.Proofs.YthmleabmklnmcaaDoor.Com Go.Proofs.YthmleabmklnmcaaDoor.IcmP Go.Proofs.YthmleabmklnmcaaDoor.IcmR
open Go.Proofs.YthmleabmklnmcaaDoor.Regs (Lies all_below all_lit st_byte_at conv_int cell_getD st_slice1 ent_both)

set_option maxHeartbeats 4000000 in
set_option maxRecDepth 100000 in
theorem parse_ref (s d : ByteArray) (A : Option Addr) (n c : Nat) (l : List Int) (w : World) (B : Nat) (h : Holds w B A n c l) (hB : B ≤ w.heap.size) (hn : n ≤ 1048576) :
    Calls Tryd.prog 16 #[.slice A n c, .string s, .string d] w (Gi l s d w) := by
  have hl := h.1
  have hnc := h.2.1
  have B0 := Lib.hid ((Below.refl w.heap.size w).alloc (Nat.le_refl _) (.cells #[.int .i64 0, .int .i64 0, .int .i64 0, .slice none 0 0] 24))
  have R0 := Lib.hid (Blk.new w 24 #[.int .i64 0, .int .i64 0, .int .i64 0, .slice none 0 0])
  have P := Lib.hid (fun W => Ref5.pair_ref s d W)
  cases hp : paired s d with
  | false =>
    rw [hp] at P
    have PE : Hid (perr l s d = 1) := Lib.hid (by unfold perr; rw [hp, if_pos rfl])
    clear h hl hp
    go_enter Tryd.func16, Tryd.ntmps16
    go_wp2_with fail
    refine (P.out _).mono ?_
    rintro e w1 ⟨rfl, rfl⟩
    go_wp2_with (refine wpList_store_row rfl 24 (.tmp 6) (.tmp 13) rfl w.heap.size #[.int .i64 0, .int .i64 0, .int .i64 0, .slice none 0 0] rfl rfl 24 _ R0.out (by kernel_rfl) rfl (oneI Ic.zero _ _ _) ?_)
    exact bodyPost_ret (results_pair rfl _ _ w.heap.size 24 _ (0, 0) _ _ rfl rfl (setRow_heap _ _ _ _ _ _ R0.out) Tryd.underlying24 rfl (by kernel_rfl)) rfl ⟨.inr ⟨by rw [PE.out]; decide, by rw [PE.out]; rfl⟩, setRow_bel B0.out (Nat.le_refl _) _⟩
  | true =>
  rw [hp] at P
  by_cases h8 : n < 8
  · have PE : Hid (perr l s d = 8) := Lib.hid (by unfold perr; rw [hp, if_neg (by decide), if_pos (by omega)])
    clear h hl hp
    go_enter Tryd.func16, Tryd.ntmps16
    go_wp2_with fail
    refine (P.out _).mono ?_
    rintro e w1 ⟨rfl, rfl⟩
    go_wp2_with (refine wpList_store_row rfl 24 (.tmp 6) (.tmp 17) rfl w.heap.size #[.int .i64 0, .int .i64 0, .int .i64 0, .slice none 0 0] rfl rfl 24 _ R0.out (by kernel_rfl) rfl (oneI Ic.zero _ _ _) ?_)
    exact bodyPost_ret (results_pair rfl _ _ w.heap.size 24 _ (0, 0) _ _ rfl rfl (setRow_heap _ _ _ _ _ _ R0.out) Tryd.underlying24 rfl (by kernel_rfl)) rfl ⟨.inr ⟨by rw [PE.out]; decide, by rw [PE.out]; rfl⟩, setRow_bel B0.out (Nat.le_refl _) _⟩
  have g8 : decide (n < 8) = false := decide_eq_false h8
  have g8' : decide ((n : Int) < 8) = false := decide_eq_false (by omega)
  by_cases q2 : 65535 < n
  · have PE : Hid (perr l s d = 2) := Lib.hid (by unfold perr; rw [hp, if_neg (by decide), if_neg (by omega), if_pos (by omega)])
    have q2' : decide (65535 < n) = true := decide_eq_true q2
    have q2'' : decide ((65535 : Int) < (n : Int)) = true := decide_eq_true (by omega)
    clear h hl hp q2 h8
    go_enter Tryd.func16, Tryd.ntmps16
    go_wp2_with fail
    refine (P.out _).mono ?_
    rintro e w1 ⟨rfl, rfl⟩
    go_wp2_with (refine wpList_store_row rfl 24 (.tmp 6) (.tmp 21) rfl w.heap.size #[.int .i64 0, .int .i64 0, .int .i64 0, .slice none 0 0] rfl rfl 24 _ R0.out (by kernel_rfl) rfl (oneI Ic.zero _ _ _) ?_)
    exact bodyPost_ret (results_pair rfl _ _ w.heap.size 24 _ (0, 0) _ _ rfl rfl (setRow_heap _ _ _ _ _ _ R0.out) Tryd.underlying24 rfl (by kernel_rfl)) rfl ⟨.inr ⟨by rw [PE.out]; decide, by rw [PE.out]; rfl⟩, setRow_bel B0.out (Nat.le_refl _) _⟩
  have q2' : decide (65535 < n) = false := decide_eq_false q2
  have q2'' : decide ((65535 : Int) < (n : Int)) = false := decide_eq_false (by omega)
  obtain ⟨b, p, rfl, _⟩ := h.2.2.2.2 (by omega)
  have H0 := Lib.hid (h.below (B0.out.mono hB))
  have SM := Lib.hid (sum_doc s d (some ⟨b, p, none⟩) n c l _ B H0.out (Nat.le_trans hB B0.out.size) (by omega) hp)
  have EY : Hid (perr l s d = if summ s d l ≠ 65535 then 5 else 0) := Lib.hid (by unfold perr; rw [hp, if_neg (by decide), if_neg (by omega), if_neg (by omega)])
  obtain ⟨t, ht⟩ : ∃ t, t = summ s d l := ⟨_, rfl⟩
  rw [← ht] at EY SM
  have n65 : n ≤ 65535 := by omega
  have n8 : 8 ≤ n := by omega
  have hby := h.2.2.2.1
  clear ht q2 h8 h hl hp
  by_cases q5 : t = 65535
  rotate_left
  · have PE : Hid (perr l s d = 5) := Lib.hid (by rw [EY.out, if_pos q5])
    have q5' : (t != 65535) = true := by simpa using q5
    clear EY q5
    go_enter Tryd.func16, Tryd.ntmps16
    go_wp2_with fail
    refine (P.out _).mono ?_
    rintro e w1 ⟨rfl, rfl⟩
    go_wp2_with fail
    refine SM.out.mono ?_
    rintro e w2 ⟨rfl, hb⟩
    have B2 := Lib.hid (B0.out.trans (hb.mono B0.out.size))
    have R2 := Lib.hid (R0.out.below hb R0.out.lt)
    clear hb SM B0 R0
    go_wp2_with (refine wpList_store_row rfl 24 (.tmp 6) (.tmp 27) rfl w.heap.size #[.int .i64 0, .int .i64 0, .int .i64 0, .slice none 0 0] rfl rfl 24 _ R2.out (by kernel_rfl) rfl (oneI Ic.zero _ _ _) ?_)
    exact bodyPost_ret (results_pair rfl _ _ w.heap.size 24 _ (0, 0) _ _ rfl rfl (setRow_heap _ _ _ _ _ _ R2.out) Tryd.underlying24 rfl (by kernel_rfl)) rfl ⟨.inr ⟨by rw [PE.out]; decide, by rw [PE.out]; rfl⟩, setRow_bel B2.out (Nat.le_refl _) _⟩
  have PE : Hid (perr l s d = 0) := Lib.hid (by rw [EY.out, if_neg (by omega)])
  subst q5
  clear EY
  go_enter Tryd.func16, Tryd.ntmps16
  go_wp2_with fail
  refine (P.out _).mono ?_
  rintro e w1 ⟨rfl, rfl⟩
  go_wp2_with fail
  refine SM.out.mono ?_
  rintro e w2 ⟨rfl, hb⟩
  have B2 := Lib.hid (B0.out.trans (hb.mono B0.out.size))
  have R2 := Lib.hid (R0.out.below hb R0.out.lt)
  have H2 := Lib.hid (H0.out.below (hb.mono (Nat.le_trans hB B0.out.size)))
  clear hb SM B0 R0 H0 q2' q2'' g8 g8'
  have hm := H2.out.2.2.1
  unfold maxLen at hm
  have x4 := cell_getD H2.out 4 (by omega)
  have x5 := cell_getD H2.out 5 (by omega)
  have x6 := cell_getD H2.out 6 (by omega)
  have x7 := cell_getD H2.out 7 (by omega)
  have y4 := getD_in hby 4
  have y5 := getD_in hby 5
  have y6 := getD_in hby 6
  have y7 := getD_in hby 7
  have ER : Hid (16777216 * l.getD 4 0 + 65536 * l.getD 5 0 + 256 * l.getD 6 0 + l.getD 7 0 = w32 l 4) := Lib.hid (by
    show _ = 65536 * (256 * l.getD 4 0 + l.getD 5 0) + (256 * l.getD 6 0 + l.getD 7 0)
    omega)
  generalize l.getD 4 0 = a4 at *
  generalize l.getD 5 0 = a5 at *
  generalize l.getD 6 0 = a6 at *
  generalize l.getD 7 0 = a7 at *
  obtain ⟨y41, y42⟩ := y4
  obtain ⟨y51, y52⟩ := y5
  obtain ⟨y61, y62⟩ := y6
  obtain ⟨y71, y72⟩ := y7
  have f4 : IntKind.i64.wrap a4 = a4 := IntWalk.i64_in _ (by omega)
  have f5 : IntKind.i64.wrap a5 = a5 := IntWalk.i64_in _ (by omega)
  have f6 : IntKind.i64.wrap a6 = a6 := IntWalk.i64_in _ (by omega)
  have f7 : IntKind.i64.wrap a7 = a7 := IntWalk.i64_in _ (by omega)
  have m4 : IntKind.i64.wrap (16777216 * a4) = 16777216 * a4 := IntWalk.i64_in _ (by omega)
  have m5 : IntKind.i64.wrap (65536 * a5) = 65536 * a5 := IntWalk.i64_in _ (by omega)
  have m6 : IntKind.i64.wrap (256 * a6) = 256 * a6 := IntWalk.i64_in _ (by omega)
  have s1 : IntKind.i64.wrap (16777216 * a4 + 65536 * a5) = 16777216 * a4 + 65536 * a5 := IntWalk.i64_in _ (by omega)
  have s2 : IntKind.i64.wrap (16777216 * a4 + 65536 * a5 + 256 * a6) = 16777216 * a4 + 65536 * a5 + 256 * a6 := IntWalk.i64_in _ (by omega)
  have s3 : IntKind.i64.wrap (16777216 * a4 + 65536 * a5 + 256 * a6 + a7) = 16777216 * a4 + 65536 * a5 + 256 * a6 + a7 := IntWalk.i64_in _ (by omega)
  have i4 : 4 < n := by omega
  have i5 : 5 < n := by omega
  have i6 : 6 < n := by omega
  have i7 : 7 < n := by omega
  have j4 : (4 : Int) < (n : Int) := by omega
  have j5 : (5 : Int) < (n : Int) := by omega
  have j6 : (6 : Int) < (n : Int) := by omega
  have j7 : (7 : Int) < (n : Int) := by omega
  go_wp2_with fail
  go_quiet (fail)
  have B3 : Hid (Below w.heap.size w (w2.drewN nq)) := Lib.hid (below_drewN B2.out nq)
  have R3 : Hid (Blk (w2.drewN nq) w.heap.size 24 #[.int .i64 0, .int .i64 0, .int .i64 0, .slice none 0 0]) := R2
  have H3 : Hid (Holds (w2.drewN nq) B (some ⟨b, p, none⟩) n c l) := H2
  clear f4 f5 f6 f7 m4 m5 m6 s1 s2 s3 i4 i5 i6 i7 j4 j5 j6 j7 x4 x5 x6 x7 B2 R2 H2
  generalize w2.drewN nq = w3 at *
  obtain ⟨R, hR⟩ : ∃ R, R = 16777216 * a4 + 65536 * a5 + 256 * a6 + a7 := ⟨_, rfl⟩
  rw [← hR] at ER ⊢
  clear hR y41 y42 y51 y52 y61 y62 y71 y72
  go_wp2_with fail
  have HW : Hid (∀ w', Below w3.drew.heap.size w3.drew w' → Holds w' B (some ⟨b, p, none⟩) n c l) := Lib.hid fun w' hw => H3.out.below ((((below_drewN (Below.refl w3.heap.size w3) 1).trans hw)).mono (Nat.le_trans hB B3.out.size))
  have hBw : B ≤ w3.drew.heap.size := Nat.le_trans hB B3.out.size
  have hsw : w.heap.size ≤ w3.drew.heap.size := B3.out.size
  have x0 := getD_in hby 0
  have x1 := getD_in hby 1
  refine wp_region_free [0, 1, 2, 3, 4, 5, 6, 7, 8, 9, 10, 11, 12] 13 [14, 15] (fun w1 w2 => Below w1.heap.size w1 w2) (fun k' w' v => match k' with
    | 0 => v = .slice (some ⟨b, p, none⟩) n c
    | 1 => v = .pointer (some ⟨b, p + 0, none⟩)
    | 2 => v = .int .u8 (l.getD 0 0)
    | 3 => v = .int .i64 (l.getD 0 0)
    | 4 => v = .slice (some ⟨b, p, none⟩) n c
    | 5 => v = .pointer (some ⟨b, p + 1, none⟩)
    | 6 => v = .int .u8 (l.getD 1 0)
    | 7 => v = .int .i64 (l.getD 1 0)
    | 8 => v = .int .i64 R
    | 9 => v = .slice (some ⟨b, p, none⟩) n c
    | 10 => v = .slice (some (adr b p c 8)) (n - 8) (c - 8)
    | 11 => ∃ g A0 c0, v = .slice (some ⟨g, 0, none⟩) 1 1 ∧ Both.All w' w'.heap.size g [⟨A0, n - 8, c0, l.drop 8⟩]
    | _ => ∃ A' c', v = .slice A' (n - 8) c' ∧ Owns w' w.heap.size v (n - 8) (l.drop 8)) (by kernel_rfl) (by kernel_rfl) (Below.refl _ _) (fun _ _ _ h k => h.trans (k.mono h.size)) (fun k' w1 w2 v h => match k' with
    | 0 => fun x => x
    | 1 => fun x => x
    | 2 => fun x => x
    | 3 => fun x => x
    | 4 => fun x => x
    | 5 => fun x => x
    | 6 => fun x => x
    | 7 => fun x => x
    | 8 => fun x => x
    | 9 => fun x => x
    | 10 => fun x => x
    | 11 => fun ⟨g, A0, c0, e, x⟩ => ⟨g, A0, c0, e, all_below x h⟩
    | _ + 12 => fun ⟨A', c', e, o⟩ => ⟨A', c', e, Owns.below o h (Nat.le_refl _)⟩) (fun _ _ _ _ _ h => h) ?_ _ (by rfl) ?_
  · refine obs_cons (by rfl) (fun vals w' hgr hdep K hK => ?_) (obs_cons (by rfl) (fun vals w' hgr hdep K hK => ?_) (obs_cons (by rfl) (fun vals w' hgr hdep K hK => ?_) (obs_cons (by rfl) (fun vals w' hgr hdep K hK => ?_) (obs_cons (by rfl) (fun vals w' hgr hdep K hK => ?_) (obs_cons (by rfl) (fun vals w' hgr hdep K hK => ?_) (obs_cons (by rfl) (fun vals w' hgr hdep K hK => ?_) (obs_cons (by rfl) (fun vals w' hgr hdep K hK => ?_) (obs_cons (by rfl) (fun vals w' hgr hdep K hK => ?_) (obs_cons (by rfl) (fun vals w' hgr hdep K hK => ?_) (obs_cons (by rfl) (fun vals w' hgr hdep K hK => ?_) (obs_cons (by rfl) (fun vals w' hgr hdep K hK => ?_) (obs_cons (by rfl) (fun vals w' hgr hdep K hK => ?_) (obs_nil)))))))))))))
    · exact wp_move (.tmp 0) rfl _ (at_out _ (by kernel_rfl) rfl) (hK _ _ (Below.refl _ _) rfl)
    · exact st_byte_at (.tmp 50) (.const (.int .i64 0)) rfl b p n c 0 ((at_dst 0 (by kernel_rfl)).trans (hdep 0 (by simp) (by kernel_rfl))) rfl (by omega) (hK _ _ (Below.refl _ _) rfl)
    · exact wp_load1 (.tmp 51) rfl ⟨b, p + 0, none⟩ ((at_dst 1 (by kernel_rfl)).trans (hdep 1 (by simp) (by kernel_rfl))) Tryd.underlying5 rfl _ (cell_getD (HW.out _ hgr) 0 (by omega)) (hK _ _ (Below.refl _ _) rfl)
    · exact wp_conv (.tmp 52) rfl _ _ ((at_dst 2 (by kernel_rfl)).trans (hdep 2 (by simp) (by kernel_rfl))) (conv_int _ _ (by omega) (by omega)) (hK _ _ (Below.refl _ _) rfl)
    · exact wp_move (.tmp 0) rfl _ (at_out _ (by kernel_rfl) rfl) (hK _ _ (Below.refl _ _) rfl)
    · exact st_byte_at (.tmp 54) (.const (.int .i64 1)) rfl b p n c 1 ((at_dst 4 (by kernel_rfl)).trans (hdep 4 (by simp) (by kernel_rfl))) rfl (by omega) (hK _ _ (Below.refl _ _) rfl)
    · exact wp_load1 (.tmp 55) rfl ⟨b, p + 1, none⟩ ((at_dst 5 (by kernel_rfl)).trans (hdep 5 (by simp) (by kernel_rfl))) Tryd.underlying5 rfl _ (cell_getD (HW.out _ hgr) 1 (by omega)) (hK _ _ (Below.refl _ _) rfl)
    · exact wp_conv (.tmp 56) rfl _ _ ((at_dst 6 (by kernel_rfl)).trans (hdep 6 (by simp) (by kernel_rfl))) (conv_int _ _ (by omega) (by omega)) (hK _ _ (Below.refl _ _) rfl)
    · exact wp_move (.tmp 8) rfl _ (at_out _ (by kernel_rfl) rfl) (hK _ _ (Below.refl _ _) rfl)
    · exact wp_move (.tmp 0) rfl _ (at_out _ (by kernel_rfl) rfl) (hK _ _ (Below.refl _ _) rfl)
    · exact wp_slice (.tmp 59) rfl _ _ (some (.int .i64 8)) none none ((at_dst 9 (by kernel_rfl)).trans (hdep 9 (by simp) (by kernel_rfl))) rfl rfl rfl (cutA_l b p n c 8 _ (by omega) (by omega)) (hK _ _ (Below.refl _ _) rfl)
    · exact st_slice1 (.tmp 60) rfl _ _ _ ((at_dst 10 (by kernel_rfl)).trans (hdep 10 (by simp) (by kernel_rfl))) (hK _ _ ((Below.refl _ _).alloc (Nat.le_refl _) _) ⟨_, adr b p c 8, c - 8, rfl, all_lit _ _ _ _ rfl (Both.mem1 ((cutA_rest (lo := 8) (HW.out _ hgr) (by omega)).more (Nat.le_trans hBw hgr.size)))⟩)
    · obtain ⟨g, A0, c0, eg, al⟩ := hdep 11 (by simp) (by kernel_rfl)
      exact wp_call 9 [.tmp 61] _ rfl ent_both [.slice (some ⟨g, 0, none⟩) 1 1] (congrArg (fun z => [z]) ((at_dst 11 (by kernel_rfl)).trans eg)) (fun v w'' => (∃ A' c', v = .slice A' (n - 8) c' ∧ Owns w'' w'.heap.size v (n - 8) (l.drop 8)) ∧ Below w'.heap.size w' w'') ((Both.both_any g 1 1 _ w' al rfl (by decide) (by show n - 8 + 0 ≤ 1048576; omega)).mono fun e w'' ⟨v, h1, h2, h3⟩ => ⟨v, h1, by
        have h2' : Owns w'' w'.heap.size v (n - 8) (l.drop 8) := by simpa [Both.flat, Both.total] using h2
        obtain ⟨A', c', rfl, _⟩ := h2'.slice
        exact ⟨A', c', rfl, h2'⟩, h3⟩) (fun v w'' ⟨⟨A', c', h1, h2⟩, h3⟩ => hK v w'' h3 ⟨A', c', h1, h2.mono (Nat.le_trans hsw hgr.size)⟩)
  · intro vals w' hgr hG
    obtain ⟨A', c', ec, oc⟩ : ∃ A' c', vals 12 = .slice A' (n - 8) c' ∧ Owns w' w.heap.size (vals 12) (n - 8) (l.drop 8) := hG 12 (by simp)
    have e3 : vals 3 = .int .i64 (l.getD 0 0) := hG 3 (by simp)
    have e7 : vals 7 = .int .i64 (l.getD 1 0) := hG 7 (by simp)
    have e8 : vals 8 = .int .i64 (R) := hG 8 (by simp)
    rw [ec] at oc
    refine st_build ([(0, 53, 3), (1, 57, 7), (2, 58, 8), (3, 62, 12)].map fun q => (q.1, Operand.tmp q.2.1)) rfl ([(0, 53, 3), (1, 57, 7), (2, 58, 8), (3, 62, 12)].map fun q => (q.1, vals q.2.2)) (map_fill [(0, 53, 3), (1, 57, 7), (2, 58, 8), (3, 62, 12)] (by kernel_rfl)) (.agg #[.int .i64 (l.getD 0 0), .int .i64 (l.getD 1 0), .int .i64 (R), .slice A' (n - 8) c']) ?_ ?_
    · simp only [List.map, e3, e7, e8, ec]
      exact buildI _ _ _ _ _ _ _
    · have R9 := R3.out.drew.below hgr R3.out.lt
      refine wpAnyH_next 14 _ rfl rfl (by kernel_rfl) (st_store_row 24 (.tmp 6) (.tmp 63) rfl w.heap.size _ (put_tmps_ne (by rfl) (at_out _ (by kernel_rfl) rfl)) (put_tmps_eq (fill_size _ _ _) (by kernel_rfl)) 24 _ R9 (by kernel_rfl) rfl (oneI ⟨_, _, _⟩ _ _ _) ⟨trivial, wpAnyH_next 15 _ rfl rfl (by kernel_rfl) (st_assign (.const (.int .i64 0)) (.int .i64 0) rfl rfl ⟨trivial, wpAnyH_done (by kernel_rfl) ?_ _⟩)⟩)
      have BB : Below w.heap.size w (w'.setRow w.heap.size #[.int .i64 (l.getD 0 0), .int .i64 (l.getD 1 0), .int .i64 (R), .slice A' (n - 8) c']) := setRow_bel ((below_drewN B3.out 1).trans (hgr.mono hsw)) (Nat.le_refl _) _
      have RR := setRow_heap w' w.heap.size _ #[.int .i64 (l.getD 0 0), .int .i64 (l.getD 1 0), .int .i64 (R), .slice A' (n - 8) c'] _ _ R9
      have OO : Owns (w'.setRow w.heap.size #[.int .i64 (l.getD 0 0), .int .i64 (l.getD 1 0), .int .i64 (R), .slice A' (n - 8) c']) w.heap.size (.slice A' (n - 8) c') (n - 8) (l.drop 8) := oc.kept (row := some w.heap.size) (grown_row _ _ _) (.inr (own_other oc R9 (by decide)))
      generalize hF : Act.put _ _ _ = F
      have h2 : F.eval (.tmp 6) = .pointer (some ⟨w.heap.size, 0, none⟩) := by
        rw [← hF]
        exact put_tmps_ne (d := 7) (by rfl) (put_none (put_tmps_ne (d := 63) (by rfl) (at_out _ (by kernel_rfl) rfl)))
      have h3 : F.eval (.tmp 7) = .int .i64 0 := by
        rw [← hF]
        exact put_tmps_eq (d := 7) (put_size (put_size (fill_size _ _ _))) (by kernel_rfl)
      have h0 : F.defers = [] := by
        rw [← hF]
        exact put_defs (put_defs (put_defs (fill_defs _ _ _)))
      clear hF hG oc R9
      generalize w'.setRow w.heap.size _ = w9 at *
      go_wp2_with fail
      exact bodyPost_ret (results_pair rfl _ _ w.heap.size 24 _ (0, 0) _ _ h2 h3 RR Tryd.underlying24 rfl (by kernel_rfl)) h0 ⟨.inl ⟨PE.out, A', n - 8, c', by rw [ER.out]; rfl, OO⟩, BB⟩
end Go.Proofs.YthmleabmklnmcaaDoor.IcmQ
