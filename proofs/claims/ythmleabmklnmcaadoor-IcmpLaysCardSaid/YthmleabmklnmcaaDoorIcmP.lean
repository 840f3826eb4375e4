/- The contract of the code's Parse. -/
import Derived.Test.YthmleabmklnmcaaDoorIcm1
set_option linter.unusedVariables false
namespace Go.Proofs.YthmleabmklnmcaaDoor.IcmP
open Go.RowKit Go.Sort Go.Proofs.YthmleabmklnmcaaDoor.Sums Go.Proofs.YthmleabmklnmcaaDoor.Words Go.Proofs.YthmleabmklnmcaaDoor.Mem Go.Proofs.YthmleabmklnmcaaDoor.Ahead Go.Proofs.YthmleabmklnmcaaDoor.IcmD Go.Proofs.YthmleabmklnmcaaDoor.Blk Go.Proofs.YthmleabmklnmcaaDoor.Bits Go.Proofs.YthmleabmklnmcaaDoor.InetSum Go.Proofs.YthmleabmklnmcaaDoor.Steps Go.Proofs.YthmleabmklnmcaaDoor.Free Go.Proofs.YthmleabmklnmcaaDoor.Cut
open Go.Proofs.YthmleabmklnmcaaDoor.Com Go.Proofs.YthmleabmklnmcaaDoor.Icm1
open Go.Proofs.YthmleabmklnmcaaDoor.Regs (st_byte_at conv_int cell_getD b_shl16 b_or)

theorem perr_zero {l : List Int} {s d : ByteArray} (h : perr l s d = 0) : paired s d = true ∧ 8 ≤ l.length ∧ l.length ≤ 65535 ∧ summ s d l = 65535 := by
  unfold perr at h
  split at h
  · cases h
  · next q0 =>
    split at h
    · cases h
    · split at h
      · cases h
      · split at h
        · cases h
        · next q1 q2 q3 => exact ⟨by simpa using q0, by omega, by omega, by simpa using q3⟩
theorem oneI (p : Ic) (A : Option Addr) (n c : Nat) : (#[.int .i64 p.typ, .int .i64 p.code, .int .i64 p.rest, .slice A n c] : Array Value).all (·.oneCell') = true := by simp [Value.oneCell']
theorem buildI (a0 a1 a2 : Int) (A : Option Addr) (n c : Nat) (w : World) : (Instr.build 24 [(0, Value.int .i64 a0), (1, .int .i64 a1), (2, .int .i64 a2), (3, .slice A n c)].toArray).run Tryd.prog w = .ok (.agg #[.int .i64 a0, .int .i64 a1, .int .i64 a2, .slice A n c]) w := by kernel_rfl
theorem ent_word : Enters Tryd.prog 31 := enters_of Tryd.func31 (by kernel_rfl) rfl
theorem ent_clone : Enters Tryd.prog 32 := enters_of Tryd.func32 (by kernel_rfl) rfl

/-- What Parse gives. -/
def Gi (l : List Int) (s d : ByteArray) (w : World) (e : Ending) (w' : World) : Prop :=
  ((perr l s d = 0 ∧ ∃ A' n' c', e = .returned (.tuple #[.agg #[.int .i64 (icOf l).typ, .int .i64 (icOf l).code, .int .i64 (icOf l).rest, .slice A' n' c'], .int .i64 0]) ∧ Owns w' w.heap.size (.slice A' n' c') n' (l.drop 8)) ∨
   (perr l s d ≠ 0 ∧ e = .returned (.tuple #[.agg #[.int .i64 0, .int .i64 0, .int .i64 0, .slice none 0 0], .int .i64 (perr l s d)]))) ∧ Below w.heap.size w w'

set_option maxHeartbeats 4000000 in
set_option maxRecDepth 100000 in
theorem parse_any (s d : ByteArray) (A : Option Addr) (n c : Nat) (l : List Int) (w : World) (B : Nat) (h : Holds w B A n c l) (hB : B ≤ w.heap.size) (hn : n ≤ 1048576) :
    Calls Tryd.prog 15 #[.slice A n c, .string s, .string d] w (Gi l s d w) := by
  have HL := Lib.hid h.1
  have B0 := Lib.hid ((Below.refl w.heap.size w).alloc (Nat.le_refl _) (.cells #[.int .i64 0, .int .i64 0, .int .i64 0, .slice none 0 0] 24))
  have R0 := Lib.hid (Blk.new w 24 #[.int .i64 0, .int .i64 0, .int .i64 0, .slice none 0 0])
  have H0 := Lib.hid (h.below (B0.out.mono hB))
  have hby := h.2.2.2.1
  have hnc := h.2.1
  clear h
  go_enter Tryd.func15, Tryd.ntmps15
  go_wp2_with fail
  generalize w.alloc (.cells #[.int .i64 0, .int .i64 0, .int .i64 0, .slice none 0 0] 24) = w3 at *
  have hs3 := B0.out.size
  refine (faulty_any s d A n c l w3 B H0.out (by omega) hn).mono ?_
  rintro e w4 ⟨rfl, hb⟩
  have B4 := Lib.hid (B0.out.trans (hb.mono B0.out.size))
  have R4 := Lib.hid (R0.out.below hb R0.out.lt)
  have H4 := Lib.hid (H0.out.below (hb.mono (by omega)))
  clear hb B0 R0 H0
  have hs4 := B4.out.size
  obtain ⟨pe, hpe⟩ : ∃ pe, pe = perr l s d := ⟨_, rfl⟩
  have PH := Lib.hid hpe
  rw [← hpe]
  clear hpe
  by_cases q : pe = 0
  · subst q
    have pz := perr_zero PH.out.symm
    have h8 : 8 ≤ n := by have := pz.2.1; rw [HL.out] at this; exact this
    have y4 := w16_in hby 4
    have y6 := w16_in hby 6
    have OR : Hid (bits .or .i64 ((w16 l 4) * 65536) (w16 l 6) = w32 l 4) := Lib.hid (by
      have := or_low 16 (a := w16 l 4) (b := w16 l 6) y4.1 (by show w16 l 4 * 65536 < _; omega) y6.1 (by show w16 l 6 < 65536; omega) (by decide)
      rw [show ((2 ^ 16 : Nat) : Int) = 65536 from rfl] at this
      rw [this]; show _ = 65536 * w16 l 4 + w16 l 6; omega)
    clear pz
    obtain ⟨b, p, rfl, _⟩ := H4.out.2.2.2.2 (by omega)
    go_wp2_with fail
    have HW : Hid (∀ w', Below w4.drew.heap.size w4.drew w' → Holds w' B (some ⟨b, p, none⟩) n c l) := Lib.hid fun w' hw => H4.out.below ((((below_drewN (Below.refl w4.heap.size w4) 1).trans hw)).mono (by omega))
    have hBw : B ≤ w4.drew.heap.size := by show B ≤ w4.heap.size; omega
    have hsw : w.heap.size ≤ w4.drew.heap.size := B4.out.size
    have x0 := getD_in hby 0
    have x1 := getD_in hby 1
    refine wp_region_free [0, 1, 2, 3, 4, 5, 6, 7, 8, 9, 10, 11, 12, 13, 14, 15, 16] 17 [18, 19] (fun w1 w2 => Below w1.heap.size w1 w2) (fun k' w' v => match k' with
      | 0 => v = .slice (some ⟨b, p, none⟩) n c
      | 1 => v = .pointer (some ⟨b, p + 0, none⟩)
      | 2 => v = .int .u8 (l.getD 0 0)
      | 3 => v = .int .i64 (l.getD 0 0)
      | 4 => v = .slice (some ⟨b, p, none⟩) n c
      | 5 => v = .pointer (some ⟨b, p + 1, none⟩)
      | 6 => v = .int .u8 (l.getD 1 0)
      | 7 => v = .int .i64 (l.getD 1 0)
      | 8 => v = .slice (some ⟨b, p, none⟩) n c
      | 9 => v = .int .i64 (w16 l 4)
      | 10 => v = .int .i64 ((w16 l 4) * 65536)
      | 11 => v = .slice (some ⟨b, p, none⟩) n c
      | 12 => v = .int .i64 (w16 l 6)
      | 13 => v = .int .i64 (w32 l 4)
      | 14 => v = .slice (some ⟨b, p, none⟩) n c
      | 15 => v = .slice (some (adr b p c 8)) (n - 8) (c - 8)
      | _ => ∃ A' c', v = .slice A' (n - 8) c' ∧ Owns w' w.heap.size v (n - 8) (l.drop 8)) (by kernel_rfl) (by kernel_rfl) (Below.refl _ _) (fun _ _ _ h k => h.trans (k.mono h.size)) (fun k' w1 w2 v h => match k' with
      | 0 => fun x => x
      | 1 => fun x => x
      | 2 => fun x => x
      | 3 => fun x => x
      | 4 => fun x => x
      | 5 => fun x => x
      | 6 => fun x => x
      | 7 => fun x => x
      | 8 => fun x => x
      | 9 => fun x => x
      | 10 => fun x => x
      | 11 => fun x => x
      | 12 => fun x => x
      | 13 => fun x => x
      | 14 => fun x => x
      | 15 => fun x => x
      | _ + 16 => fun ⟨A', c', e, o⟩ => ⟨A', c', e, Owns.below o h (Nat.le_refl _)⟩) (fun _ _ _ _ _ h => h) ?_ _ (by rfl) ?_
    · refine obs_cons (by rfl) (fun vals w' hgr hdep K hK => ?_) (obs_cons (by rfl) (fun vals w' hgr hdep K hK => ?_) (obs_cons (by rfl) (fun vals w' hgr hdep K hK => ?_) (obs_cons (by rfl) (fun vals w' hgr hdep K hK => ?_) (obs_cons (by rfl) (fun vals w' hgr hdep K hK => ?_) (obs_cons (by rfl) (fun vals w' hgr hdep K hK => ?_) (obs_cons (by rfl) (fun vals w' hgr hdep K hK => ?_) (obs_cons (by rfl) (fun vals w' hgr hdep K hK => ?_) (obs_cons (by rfl) (fun vals w' hgr hdep K hK => ?_) (obs_cons (by rfl) (fun vals w' hgr hdep K hK => ?_) (obs_cons (by rfl) (fun vals w' hgr hdep K hK => ?_) (obs_cons (by rfl) (fun vals w' hgr hdep K hK => ?_) (obs_cons (by rfl) (fun vals w' hgr hdep K hK => ?_) (obs_cons (by rfl) (fun vals w' hgr hdep K hK => ?_) (obs_cons (by rfl) (fun vals w' hgr hdep K hK => ?_) (obs_cons (by rfl) (fun vals w' hgr hdep K hK => ?_) (obs_cons (by rfl) (fun vals w' hgr hdep K hK => ?_) (obs_nil)))))))))))))))))
      · exact wp_move (.tmp 0) rfl _ (at_out _ (by kernel_rfl) rfl) (hK _ _ (Below.refl _ _) rfl)
      · exact st_byte_at (.tmp 17) (.const (.int .i64 0)) rfl b p n c 0 ((at_dst 0 (by kernel_rfl)).trans (hdep 0 (by simp) (by kernel_rfl))) rfl (by omega) (hK _ _ (Below.refl _ _) rfl)
      · exact wp_load1 (.tmp 18) rfl ⟨b, p + 0, none⟩ ((at_dst 1 (by kernel_rfl)).trans (hdep 1 (by simp) (by kernel_rfl))) Tryd.underlying5 rfl _ (cell_getD (HW.out _ hgr) 0 (by omega)) (hK _ _ (Below.refl _ _) rfl)
      · exact wp_conv (.tmp 19) rfl _ _ ((at_dst 2 (by kernel_rfl)).trans (hdep 2 (by simp) (by kernel_rfl))) (conv_int _ _ (by omega) (by omega)) (hK _ _ (Below.refl _ _) rfl)
      · exact wp_move (.tmp 0) rfl _ (at_out _ (by kernel_rfl) rfl) (hK _ _ (Below.refl _ _) rfl)
      · exact st_byte_at (.tmp 21) (.const (.int .i64 1)) rfl b p n c 1 ((at_dst 4 (by kernel_rfl)).trans (hdep 4 (by simp) (by kernel_rfl))) rfl (by omega) (hK _ _ (Below.refl _ _) rfl)
      · exact wp_load1 (.tmp 22) rfl ⟨b, p + 1, none⟩ ((at_dst 5 (by kernel_rfl)).trans (hdep 5 (by simp) (by kernel_rfl))) Tryd.underlying5 rfl _ (cell_getD (HW.out _ hgr) 1 (by omega)) (hK _ _ (Below.refl _ _) rfl)
      · exact wp_conv (.tmp 23) rfl _ _ ((at_dst 6 (by kernel_rfl)).trans (hdep 6 (by simp) (by kernel_rfl))) (conv_int _ _ (by omega) (by omega)) (hK _ _ (Below.refl _ _) rfl)
      · exact wp_move (.tmp 0) rfl _ (at_out _ (by kernel_rfl) rfl) (hK _ _ (Below.refl _ _) rfl)
      · exact wp_call 31 [.tmp 25, .const (.int .i64 4)] _ rfl ent_word [.slice (some ⟨b, p, none⟩) n c, .int .i64 4] (congrArg (fun z => [z, Value.int .i64 4]) ((at_dst 8 (by kernel_rfl)).trans (hdep 8 (by simp) (by kernel_rfl)))) (fun v w'' => v = .int .i64 (w16 l 4) ∧ Below w'.heap.size w' w'') ((word_any _ n c l w' B (HW.out _ hgr) 4 (by omega)).mono fun e w'' ⟨h1, h2⟩ => ⟨_, h1, rfl, h2⟩) (fun v w'' ⟨h1, h2⟩ => hK v w'' h2 h1)
      · exact wp_bin (.tmp 26) (.const (.int .u64 16)) rfl _ _ _ ((at_dst 9 (by kernel_rfl)).trans (hdep 9 (by simp) (by kernel_rfl))) rfl (b_shl16 _ _ _ _ (by omega) (by omega)) (hK _ _ (Below.refl _ _) rfl)
      · exact wp_move (.tmp 0) rfl _ (at_out _ (by kernel_rfl) rfl) (hK _ _ (Below.refl _ _) rfl)
      · exact wp_call 31 [.tmp 28, .const (.int .i64 6)] _ rfl ent_word [.slice (some ⟨b, p, none⟩) n c, .int .i64 6] (congrArg (fun z => [z, Value.int .i64 6]) ((at_dst 11 (by kernel_rfl)).trans (hdep 11 (by simp) (by kernel_rfl)))) (fun v w'' => v = .int .i64 (w16 l 6) ∧ Below w'.heap.size w' w'') ((word_any _ n c l w' B (HW.out _ hgr) 6 (by omega)).mono fun e w'' ⟨h1, h2⟩ => ⟨_, h1, rfl, h2⟩) (fun v w'' ⟨h1, h2⟩ => hK v w'' h2 h1)
      · exact wp_bin (.tmp 27) (.tmp 29) rfl _ _ _ ((at_dst 10 (by kernel_rfl)).trans (hdep 10 (by simp) (by kernel_rfl))) ((at_dst 12 (by kernel_rfl)).trans (hdep 12 (by simp) (by kernel_rfl))) (b_or _ _ _ _ _ _ (OR.out)) (hK _ _ (Below.refl _ _) rfl)
      · exact wp_move (.tmp 0) rfl _ (at_out _ (by kernel_rfl) rfl) (hK _ _ (Below.refl _ _) rfl)
      · exact wp_slice (.tmp 31) rfl _ _ (some (.int .i64 8)) none none ((at_dst 14 (by kernel_rfl)).trans (hdep 14 (by simp) (by kernel_rfl))) rfl rfl rfl (cutA_l b p n c 8 _ (by omega) (by omega)) (hK _ _ (Below.refl _ _) rfl)
      · exact wp_call 32 [.tmp 32] _ rfl ent_clone [.slice (some (adr b p c 8)) (n - 8) (c - 8)] (congrArg (fun z => [z]) ((at_dst 15 (by kernel_rfl)).trans (hdep 15 (by simp) (by kernel_rfl)))) (fun v w'' => (∃ A' c', v = .slice A' (n - 8) c' ∧ Owns w'' w'.heap.size v (n - 8) (l.drop 8)) ∧ Below w'.heap.size w' w'') ((clone_any _ _ _ _ w' B (cutA_rest (HW.out _ hgr) (by omega)) (Nat.le_trans hBw hgr.size) (by omega)).mono fun e w'' ⟨A', c', h1, h2, h3⟩ => ⟨_, h1, ⟨A', c', rfl, h2⟩, h3⟩) (fun v w'' ⟨⟨A', c', h1, h2⟩, h3⟩ => hK v w'' h3 ⟨A', c', h1, h2.mono (Nat.le_trans hsw hgr.size)⟩)
    · intro vals w' hgr hG
      obtain ⟨A', c', ec, oc⟩ : ∃ A' c', vals 16 = .slice A' (n - 8) c' ∧ Owns w' w.heap.size (vals 16) (n - 8) (l.drop 8) := hG 16 (by simp)
      have e3 : vals 3 = .int .i64 (l.getD 0 0) := hG 3 (by simp)
      have e7 : vals 7 = .int .i64 (l.getD 1 0) := hG 7 (by simp)
      have e13 : vals 13 = .int .i64 (w32 l 4) := hG 13 (by simp)
      rw [ec] at oc
      refine st_build ([(0, 20, 3), (1, 24, 7), (2, 30, 13), (3, 33, 16)].map fun q => (q.1, Operand.tmp q.2.1)) rfl ([(0, 20, 3), (1, 24, 7), (2, 30, 13), (3, 33, 16)].map fun q => (q.1, vals q.2.2)) (map_fill [(0, 20, 3), (1, 24, 7), (2, 30, 13), (3, 33, 16)] (by kernel_rfl)) (.agg #[.int .i64 (l.getD 0 0), .int .i64 (l.getD 1 0), .int .i64 (w32 l 4), .slice A' (n - 8) c']) ?_ ?_
      · simp only [List.map, e3, e7, e13, ec]
        exact buildI _ _ _ _ _ _ _
      · have R9 := R4.out.drew.below hgr R4.out.lt
        refine wpAnyH_next 18 _ rfl rfl (by kernel_rfl) (st_store_row 24 (.tmp 6) (.tmp 34) rfl w.heap.size _ (put_tmps_ne (by rfl) (at_out _ (by kernel_rfl) rfl)) (put_tmps_eq (fill_size _ _ _) (by kernel_rfl)) 24 _ R9 (by kernel_rfl) rfl (oneI ⟨_, _, _⟩ _ _ _) ⟨trivial, wpAnyH_next 19 _ rfl rfl (by kernel_rfl) (st_assign (.const (.int .i64 0)) (.int .i64 0) rfl rfl ⟨trivial, wpAnyH_done (by kernel_rfl) ?_ _⟩)⟩)
        have BB : Below w.heap.size w (w'.setRow w.heap.size #[.int .i64 (l.getD 0 0), .int .i64 (l.getD 1 0), .int .i64 (w32 l 4), .slice A' (n - 8) c']) := setRow_bel ((below_drewN B4.out 1).trans (hgr.mono hsw)) (Nat.le_refl _) _
        have RR := setRow_heap w' w.heap.size _ #[.int .i64 (l.getD 0 0), .int .i64 (l.getD 1 0), .int .i64 (w32 l 4), .slice A' (n - 8) c'] _ _ R9
        have OO : Owns (w'.setRow w.heap.size #[.int .i64 (l.getD 0 0), .int .i64 (l.getD 1 0), .int .i64 (w32 l 4), .slice A' (n - 8) c']) w.heap.size (.slice A' (n - 8) c') (n - 8) (l.drop 8) := oc.kept (row := some w.heap.size) (grown_row _ _ _) (.inr (own_other oc R9 (by decide)))
        generalize hF : Act.put _ _ _ = F
        have h2 : F.eval (.tmp 6) = .pointer (some ⟨w.heap.size, 0, none⟩) := by
          rw [← hF]
          exact put_tmps_ne (d := 7) (by rfl) (put_none (put_tmps_ne (d := 34) (by rfl) (at_out _ (by kernel_rfl) rfl)))
        have h3 : F.eval (.tmp 7) = .int .i64 0 := by
          rw [← hF]
          exact put_tmps_eq (d := 7) (put_size (put_size (fill_size _ _ _))) (by kernel_rfl)
        have h0 : F.defers = [] := by
          rw [← hF]
          exact put_defs (put_defs (put_defs (fill_defs _ _ _)))
        clear hF hG oc R9
        generalize w'.setRow w.heap.size _ = w9 at *
        go_wp2_with fail
        exact bodyPost_ret (results_pair rfl _ _ w.heap.size 24 _ (0, 0) _ _ h2 h3 RR Tryd.underlying24 rfl (by kernel_rfl)) h0 ⟨.inl ⟨PH.out.symm, A', n - 8, c', rfl, OO⟩, BB⟩
  · have q1 : (pe != 0) = true := by simpa using q
    have Q := Lib.hid q
    clear q
    go_wp2_with (refine wpList_store_row rfl 24 (.tmp 6) (.tmp 15) rfl w.heap.size #[.int .i64 0, .int .i64 0, .int .i64 0, .slice none 0 0] rfl rfl 24 _ R4.out (by kernel_rfl) rfl (oneI Ic.zero _ _ _) ?_)
    exact bodyPost_ret (results_pair rfl _ _ w.heap.size 24 _ (0, 0) _ _ rfl rfl (setRow_heap _ _ _ _ _ _ R4.out) Tryd.underlying24 rfl (by kernel_rfl)) rfl ⟨.inr ⟨by rw [← PH.out]; exact Q.out, by rw [← PH.out]; rfl⟩, setRow_bel B4.out (Nat.le_refl _) _⟩
end Go.Proofs.YthmleabmklnmcaaDoor.IcmP
