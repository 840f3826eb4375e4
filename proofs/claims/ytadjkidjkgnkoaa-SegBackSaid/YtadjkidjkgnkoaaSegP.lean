/- The contract of the document's Parse. -/
import Derived.Test.YtadjkidjkgnkoaaSeg6
import Derived.Test.YtadjkidjkgnkoaaSeg3
import Derived.Test.YtadjkidjkgnkoaaRegs
set_option linter.unusedVariables false
namespace Go.Proofs.Ytadjkidjkgnkoaa.SegP
open Go.RowKit Go.Sort Go.Proofs.Ytadjkidjkgnkoaa.Sums Go.Proofs.Ytadjkidjkgnkoaa.Words Go.Proofs.Ytadjkidjkgnkoaa.Mem Go.Proofs.Ytadjkidjkgnkoaa.Ahead Go.Proofs.Ytadjkidjkgnkoaa.SegD Go.Proofs.Ytadjkidjkgnkoaa.Blk Go.Proofs.Ytadjkidjkgnkoaa.Bits Go.Proofs.Ytadjkidjkgnkoaa.InetSum Go.Proofs.Ytadjkidjkgnkoaa.Steps Go.Proofs.Ytadjkidjkgnkoaa.Free Go.Proofs.Ytadjkidjkgnkoaa.Cut
open Go.Proofs.Ytadjkidjkgnkoaa.Com Go.Proofs.Ytadjkidjkgnkoaa.Seg3 Go.Proofs.Ytadjkidjkgnkoaa.Seg6
open Go.Proofs.Ytadjkidjkgnkoaa.Regs (Lies all_below all_lit st_byte_at conv_int cell_getD st_slice1 ent_both)
theorem ent_two6 : Enters Try.prog 38 := enters_of Try.func38 (by kernel_rfl) rfl
theorem ent_four6 : Enters Try.prog 39 := enters_of Try.func39 (by kernel_rfl) rfl

set_option maxHeartbeats 4000000 in
set_option maxRecDepth 100000 in
theorem parse_ref (s d : ByteArray) (A : Option Addr) (n c : Nat) (l : List Int) (w : World) (B : Nat) (h : Holds w B A n c l) (hB : B ≤ w.heap.size) (hn : n ≤ 1048576) :
    Calls Try.prog 19 #[.slice A n c, .string s, .string d] w (Gs l s d w) := by
  have hl := h.1
  have hnc := h.2.1
  have B0 := Lib.hid ((Below.refl w.heap.size w).alloc (Nat.le_refl _) (.cells #[.int .i64 0, .int .i64 0, .int .i64 0, .int .i64 0, .int .i64 0, .int .i64 0, .int .i64 0, .string ⟨#[]⟩, .slice none 0 0] 24))
  have R0 := Lib.hid (Blk.new w 24 #[.int .i64 0, .int .i64 0, .int .i64 0, .int .i64 0, .int .i64 0, .int .i64 0, .int .i64 0, .string ⟨#[]⟩, .slice none 0 0])
  have P := Lib.hid (fun W => Ref5.pair_ref s d W)
  cases hp : paired s d with
  | false =>
    rw [hp] at P
    have PE : Hid (perr l s d = 1) := Lib.hid (by unfold perr; rw [hp, if_pos rfl])
    clear h hl hp
    go_enter Try.func19, Try.ntmps19
    go_wp2_with fail
    refine (P.out _).mono ?_
    rintro e w1 ⟨rfl, rfl⟩
    go_wp2_with (refine wpList_store_row rfl 24 (.tmp 6) (.tmp 13) rfl w.heap.size #[.int .i64 0, .int .i64 0, .int .i64 0, .int .i64 0, .int .i64 0, .int .i64 0, .int .i64 0, .string ⟨#[]⟩, .slice none 0 0] rfl rfl 24 _ R0.out (by kernel_rfl) rfl (oneS Sg.zero _ _ _) ?_)
    exact bodyPost_ret (results_pair rfl _ _ w.heap.size 24 _ (0, 0) _ _ rfl rfl (setRow_heap _ _ _ _ _ _ R0.out) Try.underlying24 rfl (by kernel_rfl)) rfl ⟨.inr ⟨by rw [PE.out]; decide, by rw [PE.out]; rfl⟩, setRow_bel B0.out (Nat.le_refl _) _⟩
  | true =>
  rw [hp] at P
  by_cases h8 : n < 20
  · have PE : Hid (perr l s d = 8) := Lib.hid (by unfold perr; rw [hp, if_neg (by decide), if_pos (by omega)])
    clear h hl hp
    go_enter Try.func19, Try.ntmps19
    go_wp2_with fail
    refine (P.out _).mono ?_
    rintro e w1 ⟨rfl, rfl⟩
    go_wp2_with (refine wpList_store_row rfl 24 (.tmp 6) (.tmp 17) rfl w.heap.size #[.int .i64 0, .int .i64 0, .int .i64 0, .int .i64 0, .int .i64 0, .int .i64 0, .int .i64 0, .string ⟨#[]⟩, .slice none 0 0] rfl rfl 24 _ R0.out (by kernel_rfl) rfl (oneS Sg.zero _ _ _) ?_)
    exact bodyPost_ret (results_pair rfl _ _ w.heap.size 24 _ (0, 0) _ _ rfl rfl (setRow_heap _ _ _ _ _ _ R0.out) Try.underlying24 rfl (by kernel_rfl)) rfl ⟨.inr ⟨by rw [PE.out]; decide, by rw [PE.out]; rfl⟩, setRow_bel B0.out (Nat.le_refl _) _⟩
  obtain ⟨b, p, rfl, _⟩ := h.2.2.2.2 (by omega)
  have EZ : Hid (perr l s d = if (n : Int) < l.getD 12 0 / 16 * 4 then 8 else if 65535 < n then 2 else if l.getD 12 0 / 16 * 4 < 20 then 4 else if l.getD 12 0 % 16 ≠ 0 then 4 else if whole s d 6 l ≠ 65535 then 5 else 0) := Lib.hid (by
    unfold perr
    rw [hp, if_neg (by decide), if_neg (by omega), hl])
  have H0 := Lib.hid (h.below (B0.out.mono hB))
  have c12 := cell_getD H0.out 12 (by omega)
  have y := getD_in h.2.2.2.1 12
  have hby := h.2.2.2.1
  have HL := Lib.hid hl
  have HP := Lib.hid hp
  obtain ⟨T, hT⟩ : ∃ T, T = l.getD 12 0 / 16 * 4 := ⟨_, rfl⟩
  have TH := Lib.hid hT
  clear h hl hp
  rw [← hT] at EZ
  obtain ⟨y0, hy0⟩ : ∃ y0, y0 = l.getD 12 0 := ⟨_, rfl⟩
  rw [← hy0] at EZ c12 y hT
  obtain ⟨y1, y2⟩ := y
  have q16 : y0.tdiv 16 = y0 / 16 := Int.tdiv_eq_ediv_of_nonneg y1
  have r16 : y0.tmod 16 = y0 % 16 := Int.tmod_eq_emod_of_nonneg y1
  have e0 : IntKind.i64.wrap y0 = y0 := IntWalk.i64_in _ (by omega)
  have e1 : IntKind.i64.wrap (y0 / 16) = y0 / 16 := IntWalk.i64_in _ (by omega)
  have e2 : IntKind.i64.wrap (y0 / 16 * 4) = T := by rw [hT]; exact IntWalk.i64_in _ (by omega)
  have i12 : 12 < n := by omega
  have i12' : (12 : Int) < (n : Int) := by omega
  have TB : 0 ≤ T ∧ T ≤ 60 := by omega
  clear hy0 hT
  by_cases q1 : (n : Int) < T
  · have PE : Hid (perr l s d = 8) := Lib.hid (by rw [EZ.out, if_pos q1])
    have q1' : decide ((n : Int) < T) = true := decide_eq_true q1
    clear EZ q1
    go_enter Try.func19, Try.ntmps19
    go_wp2_with fail
    refine (P.out _).mono ?_
    rintro e w1 ⟨rfl, rfl⟩
    go_wp2_with (refine wpList_store_row rfl 24 (.tmp 6) (.tmp 28) rfl w.heap.size #[.int .i64 0, .int .i64 0, .int .i64 0, .int .i64 0, .int .i64 0, .int .i64 0, .int .i64 0, .string ⟨#[]⟩, .slice none 0 0] rfl rfl 24 _ R0.out (by kernel_rfl) rfl (oneS Sg.zero _ _ _) ?_)
    exact bodyPost_ret (results_pair rfl _ _ w.heap.size 24 _ (0, 0) _ _ rfl rfl (setRow_heap _ _ _ _ _ _ R0.out) Try.underlying24 rfl (by kernel_rfl)) rfl ⟨.inr ⟨by rw [PE.out]; decide, by rw [PE.out]; rfl⟩, setRow_bel B0.out (Nat.le_refl _) _⟩
  have q1' : decide ((n : Int) < T) = false := decide_eq_false q1
  by_cases q2 : 65535 < n
  · have PE : Hid (perr l s d = 2) := Lib.hid (by rw [EZ.out, if_neg q1, if_pos q2])
    have q2' : decide (65535 < n) = true := decide_eq_true q2
    have q2'' : decide ((65535 : Int) < (n : Int)) = true := decide_eq_true (by omega)
    clear EZ q1 q2
    go_enter Try.func19, Try.ntmps19
    go_wp2_with fail
    refine (P.out _).mono ?_
    rintro e w1 ⟨rfl, rfl⟩
    go_wp2_with (refine wpList_store_row rfl 24 (.tmp 6) (.tmp 32) rfl w.heap.size #[.int .i64 0, .int .i64 0, .int .i64 0, .int .i64 0, .int .i64 0, .int .i64 0, .int .i64 0, .string ⟨#[]⟩, .slice none 0 0] rfl rfl 24 _ R0.out (by kernel_rfl) rfl (oneS Sg.zero _ _ _) ?_)
    exact bodyPost_ret (results_pair rfl _ _ w.heap.size 24 _ (0, 0) _ _ rfl rfl (setRow_heap _ _ _ _ _ _ R0.out) Try.underlying24 rfl (by kernel_rfl)) rfl ⟨.inr ⟨by rw [PE.out]; decide, by rw [PE.out]; rfl⟩, setRow_bel B0.out (Nat.le_refl _) _⟩
  have q2' : decide (65535 < n) = false := decide_eq_false q2
  have q2'' : decide ((65535 : Int) < (n : Int)) = false := decide_eq_false (by omega)
  by_cases q3 : T < 20
  · have PE : Hid (perr l s d = 4) := Lib.hid (by rw [EZ.out, if_neg q1, if_neg q2, if_pos q3])
    have q3' : decide (T < 20) = true := decide_eq_true q3
    clear EZ q1 q2 q3
    go_enter Try.func19, Try.ntmps19
    go_wp2_with fail
    refine (P.out _).mono ?_
    rintro e w1 ⟨rfl, rfl⟩
    go_wp2_with (refine wpList_store_row rfl 24 (.tmp 6) (.tmp 42) rfl w.heap.size #[.int .i64 0, .int .i64 0, .int .i64 0, .int .i64 0, .int .i64 0, .int .i64 0, .int .i64 0, .string ⟨#[]⟩, .slice none 0 0] rfl rfl 24 _ R0.out (by kernel_rfl) rfl (oneS Sg.zero _ _ _) ?_)
    exact bodyPost_ret (results_pair rfl _ _ w.heap.size 24 _ (0, 0) _ _ rfl rfl (setRow_heap _ _ _ _ _ _ R0.out) Try.underlying24 rfl (by kernel_rfl)) rfl ⟨.inr ⟨by rw [PE.out]; decide, by rw [PE.out]; rfl⟩, setRow_bel B0.out (Nat.le_refl _) _⟩
  have q3' : decide (T < 20) = false := decide_eq_false q3
  by_cases q4 : y0 % 16 = 0
  rotate_left
  · have PE : Hid (perr l s d = 4) := Lib.hid (by rw [EZ.out, if_neg q1, if_neg q2, if_neg q3, if_pos q4])
    have q4' : (y0 % 16 != 0) = true := by simpa using q4
    clear EZ q1 q2 q3 q4
    go_enter Try.func19, Try.ntmps19
    go_wp2_with fail
    refine (P.out _).mono ?_
    rintro e w1 ⟨rfl, rfl⟩
    go_wp2_with (refine wpList_store_row rfl 24 (.tmp 6) (.tmp 42) rfl w.heap.size #[.int .i64 0, .int .i64 0, .int .i64 0, .int .i64 0, .int .i64 0, .int .i64 0, .int .i64 0, .string ⟨#[]⟩, .slice none 0 0] rfl rfl 24 _ R0.out (by kernel_rfl) rfl (oneS Sg.zero _ _ _) ?_)
    exact bodyPost_ret (results_pair rfl _ _ w.heap.size 24 _ (0, 0) _ _ rfl rfl (setRow_heap _ _ _ _ _ _ R0.out) Try.underlying24 rfl (by kernel_rfl)) rfl ⟨.inr ⟨by rw [PE.out]; decide, by rw [PE.out]; rfl⟩, setRow_bel B0.out (Nat.le_refl _) _⟩
  have q4' : (y0 % 16 != 0) = false := by rw [q4]; rfl
  have SM := Lib.hid (Ref5.sum_any5 s d 6 (some ⟨b, p, none⟩) n c l _ B H0.out (Nat.le_trans hB B0.out.size) (by omega) HP.out (by decide) (by decide))
  have EY : Hid (perr l s d = if whole s d 6 l ≠ 65535 then 5 else 0) := Lib.hid (by rw [EZ.out, if_neg q1, if_neg q2, if_neg q3, if_neg (by omega)])
  obtain ⟨t, ht⟩ : ∃ t, t = whole s d 6 l := ⟨_, rfl⟩
  rw [← ht] at EY SM
  have n65 : n ≤ 65535 := by omega
  obtain ⟨H, hH⟩ : ∃ H, H = hdOf l := ⟨_, rfl⟩
  have hTH : T = (H : Int) := by
    have := TH.out
    rw [hH]; unfold hdOf; omega
  have hH1 : 20 ≤ H := by omega
  have hH2 : H ≤ n := by omega
  have HH := Lib.hid hH
  subst hTH
  clear ht EZ q1 q2 q3 q4 hH TB TH
  by_cases q5 : t = 65535
  rotate_left
  · have PE : Hid (perr l s d = 5) := Lib.hid (by rw [EY.out, if_pos q5])
    have q5' : (t != 65535) = true := by simpa using q5
    clear EY q5
    go_enter Try.func19, Try.ntmps19
    go_wp2_with fail
    refine (P.out _).mono ?_
    rintro e w1 ⟨rfl, rfl⟩
    go_wp2_with fail
    refine SM.out.mono ?_
    rintro e w2 ⟨rfl, hb⟩
    have B2 := Lib.hid (B0.out.trans (hb.mono B0.out.size))
    have R2 := Lib.hid (R0.out.below hb R0.out.lt)
    clear hb SM B0 R0
    go_wp2_with (refine wpList_store_row rfl 24 (.tmp 6) (.tmp 48) rfl w.heap.size #[.int .i64 0, .int .i64 0, .int .i64 0, .int .i64 0, .int .i64 0, .int .i64 0, .int .i64 0, .string ⟨#[]⟩, .slice none 0 0] rfl rfl 24 _ R2.out (by kernel_rfl) rfl (oneS Sg.zero _ _ _) ?_)
    exact bodyPost_ret (results_pair rfl _ _ w.heap.size 24 _ (0, 0) _ _ rfl rfl (setRow_heap _ _ _ _ _ _ R2.out) Try.underlying24 rfl (by kernel_rfl)) rfl ⟨.inr ⟨by rw [PE.out]; decide, by rw [PE.out]; rfl⟩, setRow_bel B2.out (Nat.le_refl _) _⟩
  have PE : Hid (perr l s d = 0) := Lib.hid (by rw [EY.out, if_neg (by omega)])
  subst q5
  clear EY
  go_enter Try.func19, Try.ntmps19
  go_wp2_with fail
  refine (P.out _).mono ?_
  rintro e w1 ⟨rfl, rfl⟩
  go_wp2_with fail
  refine SM.out.mono ?_
  rintro e w2 ⟨rfl, hb⟩
  have B2 := Lib.hid (B0.out.trans (hb.mono B0.out.size))
  have R2 := Lib.hid (R0.out.below hb R0.out.lt)
  have H2 := Lib.hid (H0.out.below (hb.mono (Nat.le_trans hB B0.out.size)))
  clear hb SM B0 R0 H0 c12 e0 e1 e2 q16 r16 i12 i12' q1' q2' q2'' q3' q4'
  go_wp2_with fail
  have HW : Hid (∀ w', Below w2.drew.heap.size w2.drew w' → Holds w' B (some ⟨b, p, none⟩) n c l) := Lib.hid fun w' hw => H2.out.below ((((below_drewN (Below.refl w2.heap.size w2) 1).trans hw)).mono (Nat.le_trans hB B2.out.size))
  have hBw : B ≤ w2.drew.heap.size := Nat.le_trans hB B2.out.size
  have hsw : w.heap.size ≤ w2.drew.heap.size := B2.out.size
  have x13 := getD_in hby 13
  refine wp_region_free [0, 1, 2, 3, 4, 5, 6, 7, 8, 9, 10, 11, 12, 13, 14, 15, 16, 17, 18, 19, 20, 21, 22, 23, 24] 25 [26, 27] (fun w1 w2 => Below w1.heap.size w1 w2) (fun k' w' v => match k' with
    | 0 => v = .slice (some ⟨b, p, none⟩) n c
    | 1 => v = .int .i64 (w16 l 0)
    | 2 => v = .slice (some ⟨b, p, none⟩) n c
    | 3 => v = .int .i64 (w16 l 2)
    | 4 => v = .slice (some ⟨b, p, none⟩) n c
    | 5 => v = .int .i64 (w32 l 4)
    | 6 => v = .slice (some ⟨b, p, none⟩) n c
    | 7 => v = .int .i64 (w32 l 8)
    | 8 => v = .slice (some ⟨b, p, none⟩) n c
    | 9 => v = .pointer (some ⟨b, p + 13, none⟩)
    | 10 => v = .int .u8 (l.getD 13 0)
    | 11 => v = .int .i64 (l.getD 13 0)
    | 12 => v = .slice (some ⟨b, p, none⟩) n c
    | 13 => v = .int .i64 (w16 l 14)
    | 14 => v = .slice (some ⟨b, p, none⟩) n c
    | 15 => v = .int .i64 (w16 l 18)
    | 16 => v = .slice (some ⟨b, p, none⟩) n c
    | 17 => v = .int .i64 ((H : Int))
    | 18 => v = .slice (some (adr b p c 20)) (H - 20) (c - 20)
    | 19 => v = .string (strOfNums ((l.drop 20).take (H - 20)))
    | 20 => v = .slice (some ⟨b, p, none⟩) n c
    | 21 => v = .int .i64 ((H : Int))
    | 22 => v = .slice (some (adr b p c H)) (n - H) (c - H)
    | 23 => ∃ g A0 c0, v = .slice (some ⟨g, 0, none⟩) 1 1 ∧ Both.All w' w'.heap.size g [⟨A0, n - H, c0, l.drop H⟩]
    | _ => ∃ A' c', v = .slice A' (n - H) c' ∧ Owns w' w.heap.size v (n - H) (l.drop H)) (by kernel_rfl) (by kernel_rfl) (Below.refl _ _) (fun _ _ _ h k => h.trans (k.mono h.size)) (fun k' w1 w2 v h => match k' with
    | 0 => fun x => x
    | 1 => fun x => x
    | 2 => fun x => x
    | 3 => fun x => x
    | 4 => fun x => x
    | 5 => fun x => x
    | 6 => fun x => x
    | 7 => fun x => x
    | 8 => fun x => x
    | 9 => fun x => x
    | 10 => fun x => x
    | 11 => fun x => x
    | 12 => fun x => x
    | 13 => fun x => x
    | 14 => fun x => x
    | 15 => fun x => x
    | 16 => fun x => x
    | 17 => fun x => x
    | 18 => fun x => x
    | 19 => fun x => x
    | 20 => fun x => x
    | 21 => fun x => x
    | 22 => fun x => x
    | 23 => fun ⟨g, A0, c0, e, x⟩ => ⟨g, A0, c0, e, all_below x h⟩
    | _ + 24 => fun ⟨A', c', e, o⟩ => ⟨A', c', e, Owns.below o h (Nat.le_refl _)⟩) (fun _ _ _ _ _ h => h) ?_ _ (by rfl) ?_
  · refine obs_cons (by rfl) (fun vals w' hgr hdep K hK => ?_) (obs_cons (by rfl) (fun vals w' hgr hdep K hK => ?_) (obs_cons (by rfl) (fun vals w' hgr hdep K hK => ?_) (obs_cons (by rfl) (fun vals w' hgr hdep K hK => ?_) (obs_cons (by rfl) (fun vals w' hgr hdep K hK => ?_) (obs_cons (by rfl) (fun vals w' hgr hdep K hK => ?_) (obs_cons (by rfl) (fun vals w' hgr hdep K hK => ?_) (obs_cons (by rfl) (fun vals w' hgr hdep K hK => ?_) (obs_cons (by rfl) (fun vals w' hgr hdep K hK => ?_) (obs_cons (by rfl) (fun vals w' hgr hdep K hK => ?_) (obs_cons (by rfl) (fun vals w' hgr hdep K hK => ?_) (obs_cons (by rfl) (fun vals w' hgr hdep K hK => ?_) (obs_cons (by rfl) (fun vals w' hgr hdep K hK => ?_) (obs_cons (by rfl) (fun vals w' hgr hdep K hK => ?_) (obs_cons (by rfl) (fun vals w' hgr hdep K hK => ?_) (obs_cons (by rfl) (fun vals w' hgr hdep K hK => ?_) (obs_cons (by rfl) (fun vals w' hgr hdep K hK => ?_) (obs_cons (by rfl) (fun vals w' hgr hdep K hK => ?_) (obs_cons (by rfl) (fun vals w' hgr hdep K hK => ?_) (obs_cons (by rfl) (fun vals w' hgr hdep K hK => ?_) (obs_cons (by rfl) (fun vals w' hgr hdep K hK => ?_) (obs_cons (by rfl) (fun vals w' hgr hdep K hK => ?_) (obs_cons (by rfl) (fun vals w' hgr hdep K hK => ?_) (obs_cons (by rfl) (fun vals w' hgr hdep K hK => ?_) (obs_cons (by rfl) (fun vals w' hgr hdep K hK => ?_) (obs_nil)))))))))))))))))))))))))
    · exact wp_move (.tmp 0) rfl _ (at_out _ (by kernel_rfl) rfl) (hK _ _ (Below.refl _ _) rfl)
    · exact wp_call 38 [.tmp 49, .const (.int .i64 0)] _ rfl ent_two6 [.slice (some ⟨b, p, none⟩) n c, .int .i64 0] (congrArg (fun z => [z, Value.int .i64 0]) ((at_dst 0 (by kernel_rfl)).trans (hdep 0 (by simp) (by kernel_rfl)))) (fun v w'' => v = .int .i64 (w16 l 0) ∧ Below w'.heap.size w' w'') ((two_ref _ n c l w' B (HW.out _ hgr) 0 (by omega)).mono fun e w'' ⟨h1, h2⟩ => ⟨_, h1, rfl, h2⟩) (fun v w'' ⟨h1, h2⟩ => hK v w'' h2 h1)
    · exact wp_move (.tmp 0) rfl _ (at_out _ (by kernel_rfl) rfl) (hK _ _ (Below.refl _ _) rfl)
    · exact wp_call 38 [.tmp 51, .const (.int .i64 2)] _ rfl ent_two6 [.slice (some ⟨b, p, none⟩) n c, .int .i64 2] (congrArg (fun z => [z, Value.int .i64 2]) ((at_dst 2 (by kernel_rfl)).trans (hdep 2 (by simp) (by kernel_rfl)))) (fun v w'' => v = .int .i64 (w16 l 2) ∧ Below w'.heap.size w' w'') ((two_ref _ n c l w' B (HW.out _ hgr) 2 (by omega)).mono fun e w'' ⟨h1, h2⟩ => ⟨_, h1, rfl, h2⟩) (fun v w'' ⟨h1, h2⟩ => hK v w'' h2 h1)
    · exact wp_move (.tmp 0) rfl _ (at_out _ (by kernel_rfl) rfl) (hK _ _ (Below.refl _ _) rfl)
    · exact wp_call 39 [.tmp 53, .const (.int .i64 4)] _ rfl ent_four6 [.slice (some ⟨b, p, none⟩) n c, .int .i64 4] (congrArg (fun z => [z, Value.int .i64 4]) ((at_dst 4 (by kernel_rfl)).trans (hdep 4 (by simp) (by kernel_rfl)))) (fun v w'' => v = .int .i64 (w32 l 4) ∧ Below w'.heap.size w' w'') ((four_ref _ n c l w' B (HW.out _ hgr) (Nat.le_trans hBw hgr.size) 4 (by omega)).mono fun e w'' ⟨h1, h2⟩ => ⟨_, h1, rfl, h2⟩) (fun v w'' ⟨h1, h2⟩ => hK v w'' h2 h1)
    · exact wp_move (.tmp 0) rfl _ (at_out _ (by kernel_rfl) rfl) (hK _ _ (Below.refl _ _) rfl)
    · exact wp_call 39 [.tmp 55, .const (.int .i64 8)] _ rfl ent_four6 [.slice (some ⟨b, p, none⟩) n c, .int .i64 8] (congrArg (fun z => [z, Value.int .i64 8]) ((at_dst 6 (by kernel_rfl)).trans (hdep 6 (by simp) (by kernel_rfl)))) (fun v w'' => v = .int .i64 (w32 l 8) ∧ Below w'.heap.size w' w'') ((four_ref _ n c l w' B (HW.out _ hgr) (Nat.le_trans hBw hgr.size) 8 (by omega)).mono fun e w'' ⟨h1, h2⟩ => ⟨_, h1, rfl, h2⟩) (fun v w'' ⟨h1, h2⟩ => hK v w'' h2 h1)
    · exact wp_move (.tmp 0) rfl _ (at_out _ (by kernel_rfl) rfl) (hK _ _ (Below.refl _ _) rfl)
    · exact st_byte_at (.tmp 57) (.const (.int .i64 13)) rfl b p n c 13 ((at_dst 8 (by kernel_rfl)).trans (hdep 8 (by simp) (by kernel_rfl))) rfl (by omega) (hK _ _ (Below.refl _ _) rfl)
    · exact wp_load1 (.tmp 58) rfl ⟨b, p + 13, none⟩ ((at_dst 9 (by kernel_rfl)).trans (hdep 9 (by simp) (by kernel_rfl))) Try.underlying5 rfl _ (cell_getD (HW.out _ hgr) 13 (by omega)) (hK _ _ (Below.refl _ _) rfl)
    · exact wp_conv (.tmp 59) rfl _ _ ((at_dst 10 (by kernel_rfl)).trans (hdep 10 (by simp) (by kernel_rfl))) (conv_int _ _ (by omega) (by omega)) (hK _ _ (Below.refl _ _) rfl)
    · exact wp_move (.tmp 0) rfl _ (at_out _ (by kernel_rfl) rfl) (hK _ _ (Below.refl _ _) rfl)
    · exact wp_call 38 [.tmp 61, .const (.int .i64 14)] _ rfl ent_two6 [.slice (some ⟨b, p, none⟩) n c, .int .i64 14] (congrArg (fun z => [z, Value.int .i64 14]) ((at_dst 12 (by kernel_rfl)).trans (hdep 12 (by simp) (by kernel_rfl)))) (fun v w'' => v = .int .i64 (w16 l 14) ∧ Below w'.heap.size w' w'') ((two_ref _ n c l w' B (HW.out _ hgr) 14 (by omega)).mono fun e w'' ⟨h1, h2⟩ => ⟨_, h1, rfl, h2⟩) (fun v w'' ⟨h1, h2⟩ => hK v w'' h2 h1)
    · exact wp_move (.tmp 0) rfl _ (at_out _ (by kernel_rfl) rfl) (hK _ _ (Below.refl _ _) rfl)
    · exact wp_call 38 [.tmp 63, .const (.int .i64 18)] _ rfl ent_two6 [.slice (some ⟨b, p, none⟩) n c, .int .i64 18] (congrArg (fun z => [z, Value.int .i64 18]) ((at_dst 14 (by kernel_rfl)).trans (hdep 14 (by simp) (by kernel_rfl)))) (fun v w'' => v = .int .i64 (w16 l 18) ∧ Below w'.heap.size w' w'') ((two_ref _ n c l w' B (HW.out _ hgr) 18 (by omega)).mono fun e w'' ⟨h1, h2⟩ => ⟨_, h1, rfl, h2⟩) (fun v w'' ⟨h1, h2⟩ => hK v w'' h2 h1)
    · exact wp_move (.tmp 0) rfl _ (at_out _ (by kernel_rfl) rfl) (hK _ _ (Below.refl _ _) rfl)
    · exact wp_move (.tmp 8) rfl _ (at_out _ (by kernel_rfl) rfl) (hK _ _ (Below.refl _ _) rfl)
    · exact wp_slice (.tmp 65) rfl _ _ (some (.int .i64 20)) (some (.int .i64 ((H : Int)))) none ((at_dst 16 (by kernel_rfl)).trans (hdep 16 (by simp) (by kernel_rfl))) rfl (congrArg some ((at_dst 17 (by kernel_rfl)).trans (hdep 17 (by simp) (by kernel_rfl)))) rfl (cutA_lh b p n c 20 H _ (by omega) (by omega)) (hK _ _ (Below.refl _ _) rfl)
    · exact wp_conv (.tmp 67) rfl _ _ ((at_dst 18 (by kernel_rfl)).trans (hdep 18 (by simp) (by kernel_rfl))) (run_string_bytes (cutA_holds (lo := 20) (hi := H) (HW.out _ hgr) (by omega) (by omega))) (hK _ _ (Below.refl _ _) rfl)
    · exact wp_move (.tmp 0) rfl _ (at_out _ (by kernel_rfl) rfl) (hK _ _ (Below.refl _ _) rfl)
    · exact wp_move (.tmp 8) rfl _ (at_out _ (by kernel_rfl) rfl) (hK _ _ (Below.refl _ _) rfl)
    · exact wp_slice (.tmp 69) rfl _ _ (some (.int .i64 ((H : Int)))) none none ((at_dst 20 (by kernel_rfl)).trans (hdep 20 (by simp) (by kernel_rfl))) (congrArg some ((at_dst 21 (by kernel_rfl)).trans (hdep 21 (by simp) (by kernel_rfl)))) rfl rfl (cutA_l b p n c H _ (by omega) (by omega)) (hK _ _ (Below.refl _ _) rfl)
    · exact st_slice1 (.tmp 71) rfl _ _ _ ((at_dst 22 (by kernel_rfl)).trans (hdep 22 (by simp) (by kernel_rfl))) (hK _ _ ((Below.refl _ _).alloc (Nat.le_refl _) _) ⟨_, adr b p c H, c - H, rfl, all_lit _ _ _ _ rfl (Both.mem1 ((cutA_rest (lo := H) (HW.out _ hgr) (by omega)).more (Nat.le_trans hBw hgr.size)))⟩)
    · obtain ⟨g, A0, c0, eg, al⟩ := hdep 23 (by simp) (by kernel_rfl)
      exact wp_call 9 [.tmp 72] _ rfl ent_both [.slice (some ⟨g, 0, none⟩) 1 1] (congrArg (fun z => [z]) ((at_dst 23 (by kernel_rfl)).trans eg)) (fun v w'' => (∃ A' c', v = .slice A' (n - H) c' ∧ Owns w'' w'.heap.size v (n - H) (l.drop H)) ∧ Below w'.heap.size w' w'') ((Both.both_any g 1 1 _ w' al rfl (by decide) (by show n - H + 0 ≤ 1048576; omega)).mono fun e w'' ⟨v, h1, h2, h3⟩ => ⟨v, h1, by
        have h2' : Owns w'' w'.heap.size v (n - H) (l.drop H) := by simpa [Both.flat, Both.total] using h2
        obtain ⟨A', c', rfl, _⟩ := h2'.slice
        exact ⟨A', c', rfl, h2'⟩, h3⟩) (fun v w'' ⟨⟨A', c', h1, h2⟩, h3⟩ => hK v w'' h3 ⟨A', c', h1, h2.mono (Nat.le_trans hsw hgr.size)⟩)
  · intro vals w' hgr hG
    obtain ⟨A', c', ec, oc⟩ : ∃ A' c', vals 24 = .slice A' (n - H) c' ∧ Owns w' w.heap.size (vals 24) (n - H) (l.drop H) := hG 24 (by simp)
    have e1 : vals 1 = .int .i64 (w16 l 0) := hG 1 (by simp)
    have e3 : vals 3 = .int .i64 (w16 l 2) := hG 3 (by simp)
    have e5 : vals 5 = .int .i64 (w32 l 4) := hG 5 (by simp)
    have e7 : vals 7 = .int .i64 (w32 l 8) := hG 7 (by simp)
    have e11 : vals 11 = .int .i64 (l.getD 13 0) := hG 11 (by simp)
    have e13 : vals 13 = .int .i64 (w16 l 14) := hG 13 (by simp)
    have e15 : vals 15 = .int .i64 (w16 l 18) := hG 15 (by simp)
    have e19 : vals 19 = .string (strOfNums ((l.drop 20).take (H - 20))) := hG 19 (by simp)
    rw [ec] at oc
    refine st_build ([(0, 50, 1), (1, 52, 3), (2, 54, 5), (3, 56, 7), (4, 60, 11), (5, 62, 13), (6, 64, 15), (7, 68, 19), (8, 73, 24)].map fun q => (q.1, Operand.tmp q.2.1)) rfl ([(0, 50, 1), (1, 52, 3), (2, 54, 5), (3, 56, 7), (4, 60, 11), (5, 62, 13), (6, 64, 15), (7, 68, 19), (8, 73, 24)].map fun q => (q.1, vals q.2.2)) (map_fill [(0, 50, 1), (1, 52, 3), (2, 54, 5), (3, 56, 7), (4, 60, 11), (5, 62, 13), (6, 64, 15), (7, 68, 19), (8, 73, 24)] (by kernel_rfl)) (.agg #[.int .i64 (w16 l 0), .int .i64 (w16 l 2), .int .i64 (w32 l 4), .int .i64 (w32 l 8), .int .i64 (l.getD 13 0), .int .i64 (w16 l 14), .int .i64 (w16 l 18), .string (strOfNums ((l.drop 20).take (H - 20))), .slice A' (n - H) c']) ?_ ?_
    · simp only [List.map, e1, e3, e5, e7, e11, e13, e15, e19, ec]
      exact buildS _ _ _ _ _ _ _ _ _ _ _ _
    · have R9 := R2.out.drew.below hgr R2.out.lt
      refine wpAnyH_next 26 _ rfl rfl (by kernel_rfl) (st_store_row 24 (.tmp 6) (.tmp 74) rfl w.heap.size _ (put_tmps_ne (by rfl) (at_out _ (by kernel_rfl) rfl)) (put_tmps_eq (fill_size _ _ _) (by kernel_rfl)) 24 _ R9 (by kernel_rfl) rfl (oneS ⟨_, _, _, _, _, _, _, _⟩ _ _ _) ⟨trivial, wpAnyH_next 27 _ rfl rfl (by kernel_rfl) (st_assign (.const (.int .i64 0)) (.int .i64 0) rfl rfl ⟨trivial, wpAnyH_done (by kernel_rfl) ?_ _⟩)⟩)
      have BB : Below w.heap.size w (w'.setRow w.heap.size #[.int .i64 (w16 l 0), .int .i64 (w16 l 2), .int .i64 (w32 l 4), .int .i64 (w32 l 8), .int .i64 (l.getD 13 0), .int .i64 (w16 l 14), .int .i64 (w16 l 18), .string (strOfNums ((l.drop 20).take (H - 20))), .slice A' (n - H) c']) := setRow_bel ((below_drewN B2.out 1).trans (hgr.mono hsw)) (Nat.le_refl _) _
      have RR := setRow_heap w' w.heap.size _ #[.int .i64 (w16 l 0), .int .i64 (w16 l 2), .int .i64 (w32 l 4), .int .i64 (w32 l 8), .int .i64 (l.getD 13 0), .int .i64 (w16 l 14), .int .i64 (w16 l 18), .string (strOfNums ((l.drop 20).take (H - 20))), .slice A' (n - H) c'] _ _ R9
      have OO : Owns (w'.setRow w.heap.size #[.int .i64 (w16 l 0), .int .i64 (w16 l 2), .int .i64 (w32 l 4), .int .i64 (w32 l 8), .int .i64 (l.getD 13 0), .int .i64 (w16 l 14), .int .i64 (w16 l 18), .string (strOfNums ((l.drop 20).take (H - 20))), .slice A' (n - H) c']) w.heap.size (.slice A' (n - H) c') (n - H) (l.drop H) := oc.kept (row := some w.heap.size) (grown_row _ _ _) (.inr (own_other oc R9 (by decide)))
      generalize hF : Act.put _ _ _ = F
      have h2 : F.eval (.tmp 6) = .pointer (some ⟨w.heap.size, 0, none⟩) := by
        rw [← hF]
        exact put_tmps_ne (d := 7) (by rfl) (put_none (put_tmps_ne (d := 74) (by rfl) (at_out _ (by kernel_rfl) rfl)))
      have h3 : F.eval (.tmp 7) = .int .i64 0 := by
        rw [← hF]
        exact put_tmps_eq (d := 7) (put_size (put_size (fill_size _ _ _))) (by kernel_rfl)
      have h0 : F.defers = [] := by
        rw [← hF]
        exact put_defs (put_defs (put_defs (fill_defs _ _ _)))
      clear hF hG oc R9
      generalize w'.setRow w.heap.size _ = w9 at *
      go_wp2_with fail
      exact bodyPost_ret (results_pair rfl _ _ w.heap.size 24 _ (0, 0) _ _ h2 h3 RR Try.underlying24 rfl (by kernel_rfl)) h0 ⟨.inl ⟨PE.out, A', n - H, c', by rw [HH.out]; rfl, by rw [← HH.out]; exact OO⟩, BB⟩
end Go.Proofs.Ytadjkidjkgnkoaa.SegP
