/- The contract of the code's Make. -/
import Derived.Test.YthmleabmklnmcaaDoorLook
import Derived.Test.YthmleabmklnmcaaDoorIcmP
set_option linter.unusedVariables false
namespace Go.Proofs.YthmleabmklnmcaaDoor.Make
open Go.RowKit Go.Sort Go.Proofs.YthmleabmklnmcaaDoor.Sums Go.Proofs.YthmleabmklnmcaaDoor.Words Go.Proofs.YthmleabmklnmcaaDoor.Mem Go.Proofs.YthmleabmklnmcaaDoor.Ahead Go.Proofs.YthmleabmklnmcaaDoor.IcmD Go.Proofs.YthmleabmklnmcaaDoor.Blk Go.Proofs.YthmleabmklnmcaaDoor.Bits Go.Proofs.YthmleabmklnmcaaDoor.InetSum Go.Proofs.YthmleabmklnmcaaDoor.Steps Go.Proofs.YthmleabmklnmcaaDoor.Free Go.Proofs.YthmleabmklnmcaaDoor.Cut
open Go.Proofs.YthmleabmklnmcaaDoor.Com Go.Proofs.YthmleabmklnmcaaDoor.Icm1 Go.Proofs.YthmleabmklnmcaaDoor.IcmP Go.Proofs.YthmleabmklnmcaaDoor.Fam Go.Proofs.YthmleabmklnmcaaDoor.Look

theorem fieldL0 (g : Nat) (w : World) : (Instr.fieldAt 54 (.pointer (some ⟨g, 0, none⟩)) 0).run Tryd.prog w = .ok (.pointer (some ⟨g, 0, none⟩)) w := by kernel_rfl
theorem fieldL1 (g : Nat) (w : World) : (Instr.fieldAt 54 (.pointer (some ⟨g, 0, none⟩)) 1).run Tryd.prog w = .ok (.pointer (some ⟨g, 1, none⟩)) w := by kernel_rfl
/-- What Make gives. -/
def Gm (k : Int) (wide : Bool) (rest : Int) (n : Nat) (l : List Int) (w : World) (e : Ending) (w' : World) : Prop :=
  ((mkErr k rest = 0 ∧ ∃ A' c', e = .returned (.tuple #[.agg #[.int .i64 (⟨(made k wide).1, (made k wide).2, rest⟩ : Ic).typ, .int .i64 (⟨(made k wide).1, (made k wide).2, rest⟩ : Ic).code, .int .i64 (⟨(made k wide).1, (made k wide).2, rest⟩ : Ic).rest, .slice A' n c'], .int .i64 0]) ∧ Owns w' w.heap.size (.slice A' n c') n l) ∨
   (mkErr k rest ≠ 0 ∧ e = .returned (.tuple #[.agg #[.int .i64 0, .int .i64 0, .int .i64 0, .slice none 0 0], .int .i64 1]))) ∧ Below w.heap.size w w'
theorem mk_zero {k rest : Int} (h : mkErr k rest = 0) : 1 ≤ k ∧ k ≤ 6 ∧ 0 ≤ rest ∧ rest ≤ 4294967295 := by
  unfold mkErr at h
  split at h
  · assumption
  · cases h
theorem mk_one {k rest : Int} (h : ¬ (1 ≤ k ∧ k ≤ 6 ∧ 0 ≤ rest ∧ rest ≤ 4294967295)) : mkErr k rest = 1 := by unfold mkErr; rw [if_neg h]

set_option maxHeartbeats 4000000 in
set_option maxRecDepth 100000 in
theorem make_any (k : Int) (wide : Bool) (rest : Int) (A : Option Addr) (n c : Nat) (l : List Int) (w : World) (B : Nat) (h : Holds w B A n c l) (hB : B ≤ w.heap.size) (hn : n ≤ 1048576) (hf : Fam w) :
    Calls Tryd.prog 17 #[.int .i64 k, .bool wide, .int .i64 rest, .slice A n c] w (Gm k wide rest n l w) := by
  have B0 := Lib.hid ((Below.refl w.heap.size w).alloc (Nat.le_refl _) (.cells #[.int .i64 0, .int .i64 0, .int .i64 0, .slice none 0 0] 24))
  have R0 := Lib.hid (Blk.new w 24 #[.int .i64 0, .int .i64 0, .int .i64 0, .slice none 0 0])
  have H0 := Lib.hid (h.below (B0.out.mono hB))
  have F0 := hf.alloc (.cells #[.int .i64 0, .int .i64 0, .int .i64 0, .slice none 0 0] 24)
  have LK := Lib.hid (look_any k wide _ F0)
  have WI := Lib.hid (fun W => within_any rest 4294967295 W)
  have WE : Hid (wi rest 4294967295 = (decide (0 ≤ rest) && decide (rest ≤ 4294967295))) := Lib.hid rfl
  clear h F0 hf
  generalize wi rest 4294967295 = zw at *
  by_cases hk : 1 ≤ k ∧ k ≤ 6
  · obtain ⟨x, hx, xt, xc⟩ := lk_some hk.1 hk.2 wide
    rw [hx] at LK
    have XT := Lib.hid xt
    have XC := Lib.hid xc
    clear hx xt xc
    have LK2 : Hid (Calls Tryd.prog 33 #[.int .i64 k, .bool wide] (w.alloc (.cells #[.int .i64 0, .int .i64 0, .int .i64 0, .slice none 0 0] 24)) fun e w' => e = .returned (.tuple #[.agg #[.int .i64 x.t, .int .i64 x.c, .bool x.o], .bool true]) ∧ Below (w.alloc (.cells #[.int .i64 0, .int .i64 0, .int .i64 0, .slice none 0 0] 24)).heap.size (w.alloc (.cells #[.int .i64 0, .int .i64 0, .int .i64 0, .slice none 0 0] 24)) w') := Lib.hid LK.out
    clear LK
    cases zw with
    | false =>
      have PE : Hid (mkErr k rest = 1) := Lib.hid (mk_one fun q => by have := WE.out; simp [q.2.2.1, q.2.2.2] at this)
      clear hk WE
      go_enter Tryd.func17, Tryd.ntmps17
      go_wp2_with fail
      refine LK2.out.mono ?_
      rintro e w4 ⟨rfl, hb⟩
      have B4 := Lib.hid (B0.out.trans (hb.mono B0.out.size))
      have R4 := Lib.hid (R0.out.below hb R0.out.lt)
      have B5 := Lib.hid (B4.out.alloc B4.out.size (.cells #[.int .i64 x.t, .int .i64 x.c, .bool x.o] 54))
      have R5 := Lib.hid (R4.out.alloc (.cells #[.int .i64 x.t, .int .i64 x.c, .bool x.o] 54))
      clear hb B0 R0 H0 LK2
      go_wp2_with fail
      refine (WI.out _).mono ?_
      rintro e w6 ⟨rfl, rfl⟩
      go_wp2_with (refine wpList_store_row rfl 24 (.tmp 8) (.tmp 25) rfl w.heap.size #[.int .i64 0, .int .i64 0, .int .i64 0, .slice none 0 0] rfl rfl 24 _ R5.out (by kernel_rfl) rfl (oneI Ic.zero _ _ _) ?_)
      exact bodyPost_ret (results_pair rfl _ _ w.heap.size 24 _ (0, 0) _ _ rfl rfl (setRow_heap _ _ _ _ _ _ R5.out) Tryd.underlying24 rfl (by kernel_rfl)) rfl ⟨.inr ⟨by rw [PE.out]; decide, rfl⟩, setRow_bel B5.out (Nat.le_refl _) _⟩
    | true =>
      have PE : Hid (mkErr k rest = 0) := Lib.hid (by
        have := WE.out
        simp only [Bool.true_eq, Bool.and_eq_true, decide_eq_true_eq] at this
        unfold mkErr; rw [if_pos ⟨hk.1, hk.2, this.1, this.2⟩])
      clear hk WE
      go_enter Tryd.func17, Tryd.ntmps17
      go_wp2_with fail
      refine LK2.out.mono ?_
      rintro e w4 ⟨rfl, hb⟩
      have B4 := Lib.hid (B0.out.trans (hb.mono B0.out.size))
      have R4 := Lib.hid (R0.out.below hb R0.out.lt)
      have H4 := Lib.hid (H0.out.below (hb.mono (Nat.le_trans hB B0.out.size)))
      have L5 := Lib.hid (Blk.new w4 54 #[.int .i64 x.t, .int .i64 x.c, .bool x.o])
      have B5 := Lib.hid (B4.out.alloc B4.out.size (.cells #[.int .i64 x.t, .int .i64 x.c, .bool x.o] 54))
      have R5 := Lib.hid (R4.out.alloc (.cells #[.int .i64 x.t, .int .i64 x.c, .bool x.o] 54))
      have H5 := Lib.hid (H4.out.below ((Below.refl B w4).alloc (Nat.le_trans hB B4.out.size) (.cells #[.int .i64 x.t, .int .i64 x.c, .bool x.o] 54)))
      obtain ⟨g, hg⟩ : ∃ g, g = w4.heap.size := ⟨_, rfl⟩
      clear hb B0 R0 H0 LK2
      go_wp2_with fail
      refine (WI.out _).mono ?_
      rintro e w6 ⟨rfl, rfl⟩
      go_wp2_with fail
      rw [← hg] at L5 ⊢
      clear hg B4 R4 H4
      generalize w4.alloc (.cells #[.int .i64 x.t, .int .i64 x.c, .bool x.o] 54) = w5 at *
      have HW : Hid (∀ w', Below w5.drew.heap.size w5.drew w' → Holds w' B A n c l) := Lib.hid fun w' hw => H5.out.below ((((below_drewN (Below.refl w5.heap.size w5) 1).trans hw)).mono (Nat.le_trans hB B5.out.size))
      have LW := Lib.hid L5.out.drew
      have hBw : B ≤ w5.drew.heap.size := Nat.le_trans hB B5.out.size
      have hsw : w.heap.size ≤ w5.drew.heap.size := B5.out.size
      refine wp_region_free [0, 1, 2, 3, 4, 5, 6] 7 [8, 9] (fun w1 w2 => Below w1.heap.size w1 w2) (fun k' w' v => match k' with
        | 0 => v = .pointer (some ⟨g, 0, none⟩)
        | 1 => v = .int .i64 x.t
        | 2 => v = .pointer (some ⟨g, 1, none⟩)
        | 3 => v = .int .i64 x.c
        | 4 => v = .int .i64 rest
        | 5 => v = .slice A n c
        | _ => ∃ A' c', v = .slice A' n c' ∧ Owns w' w.heap.size v n l) (by kernel_rfl) (by kernel_rfl) (Below.refl _ _) (fun _ _ _ h k => h.trans (k.mono h.size)) (fun k' w1 w2 v h => match k' with
        | 0 => fun x => x
        | 1 => fun x => x
        | 2 => fun x => x
        | 3 => fun x => x
        | 4 => fun x => x
        | 5 => fun x => x
        | _ + 6 => fun ⟨A', c', e, o⟩ => ⟨A', c', e, Owns.below o h (Nat.le_refl _)⟩) (fun _ _ _ _ _ h => h) ?_ _ (by rfl) ?_
      · refine obs_cons (by rfl) (fun vals w' hgr hdep K hK => ?_) (obs_cons (by rfl) (fun vals w' hgr hdep K hK => ?_) (obs_cons (by rfl) (fun vals w' hgr hdep K hK => ?_) (obs_cons (by rfl) (fun vals w' hgr hdep K hK => ?_) (obs_cons (by rfl) (fun vals w' hgr hdep K hK => ?_) (obs_cons (by rfl) (fun vals w' hgr hdep K hK => ?_) (obs_cons (by rfl) (fun vals w' hgr hdep K hK => ?_) (obs_nil)))))))
        · exact wp_field (.tmp 10) rfl _ _ (at_out _ (by kernel_rfl) rfl) (fieldL0 _ _) (hK _ _ (Below.refl _ _) rfl)
        · exact wp_load1 (.tmp 26) rfl ⟨g, 0, none⟩ ((at_dst 0 (by kernel_rfl)).trans (hdep 0 (by simp) (by kernel_rfl))) Tryd.underlying3 rfl _ (((LW.out.below hgr LW.out.lt).cell 0).trans rfl) (hK _ _ (Below.refl _ _) rfl)
        · exact wp_field (.tmp 10) rfl _ _ (at_out _ (by kernel_rfl) rfl) (fieldL1 _ _) (hK _ _ (Below.refl _ _) rfl)
        · exact wp_load1 (.tmp 28) rfl ⟨g, 1, none⟩ ((at_dst 2 (by kernel_rfl)).trans (hdep 2 (by simp) (by kernel_rfl))) Tryd.underlying3 rfl _ (((LW.out.below hgr LW.out.lt).cell 1).trans rfl) (hK _ _ (Below.refl _ _) rfl)
        · exact wp_move (.tmp 2) rfl _ (at_out _ (by kernel_rfl) rfl) (hK _ _ (Below.refl _ _) rfl)
        · exact wp_move (.tmp 3) rfl _ (at_out _ (by kernel_rfl) rfl) (hK _ _ (Below.refl _ _) rfl)
        · exact wp_call 32 [.tmp 31] _ rfl ent_clone [.slice A n c] (congrArg (fun z => [z]) ((at_dst 5 (by kernel_rfl)).trans (hdep 5 (by simp) (by kernel_rfl)))) (fun v w'' => (∃ A' c', v = .slice A' n c' ∧ Owns w'' w'.heap.size v n l) ∧ Below w'.heap.size w' w'') ((clone_all _ _ _ _ w' B (HW.out _ hgr) (Nat.le_trans hBw hgr.size) hn).mono fun e w'' ⟨A', c', h1, h2, h3⟩ => ⟨_, h1, ⟨A', c', rfl, h2⟩, h3⟩) (fun v w'' ⟨⟨A', c', h1, h2⟩, h3⟩ => hK v w'' h3 ⟨A', c', h1, h2.mono (Nat.le_trans hsw hgr.size)⟩)
      · intro vals w' hgr hG
        obtain ⟨A', c', ec, oc⟩ : ∃ A' c', vals 6 = .slice A' n c' ∧ Owns w' w.heap.size (vals 6) n l := hG 6 (by simp)
        have e1 : vals 1 = .int .i64 (x.t) := hG 1 (by simp)
        have e3 : vals 3 = .int .i64 (x.c) := hG 3 (by simp)
        have e4 : vals 4 = .int .i64 (rest) := hG 4 (by simp)
        rw [ec] at oc
        refine st_build ([(0, 27, 1), (1, 29, 3), (2, 30, 4), (3, 32, 6)].map fun q => (q.1, Operand.tmp q.2.1)) rfl ([(0, 27, 1), (1, 29, 3), (2, 30, 4), (3, 32, 6)].map fun q => (q.1, vals q.2.2)) (map_fill [(0, 27, 1), (1, 29, 3), (2, 30, 4), (3, 32, 6)] (by kernel_rfl)) (.agg #[.int .i64 (x.t), .int .i64 (x.c), .int .i64 (rest), .slice A' n c']) ?_ ?_
        · simp only [List.map, e1, e3, e4, ec]
          exact buildI _ _ _ _ _ _ _
        · have R9 := R5.out.drew.below hgr R5.out.lt
          refine wpAnyH_next 8 _ rfl rfl (by kernel_rfl) (st_store_row 24 (.tmp 8) (.tmp 33) rfl w.heap.size _ (put_tmps_ne (by rfl) (at_out _ (by kernel_rfl) rfl)) (put_tmps_eq (fill_size _ _ _) (by kernel_rfl)) 24 _ R9 (by kernel_rfl) rfl (oneI ⟨_, _, _⟩ _ _ _) ⟨trivial, wpAnyH_next 9 _ rfl rfl (by kernel_rfl) (st_assign (.const (.int .i64 0)) (.int .i64 0) rfl rfl ⟨trivial, wpAnyH_done (by kernel_rfl) ?_ _⟩)⟩)
          have BB : Below w.heap.size w (w'.setRow w.heap.size #[.int .i64 (x.t), .int .i64 (x.c), .int .i64 (rest), .slice A' n c']) := setRow_bel ((below_drewN B5.out 1).trans (hgr.mono hsw)) (Nat.le_refl _) _
          have RR := setRow_heap w' w.heap.size _ #[.int .i64 (x.t), .int .i64 (x.c), .int .i64 (rest), .slice A' n c'] _ _ R9
          have OO : Owns (w'.setRow w.heap.size #[.int .i64 (x.t), .int .i64 (x.c), .int .i64 (rest), .slice A' n c']) w.heap.size (.slice A' n c') n l := oc.kept (row := some w.heap.size) (grown_row _ _ _) (.inr (own_other oc R9 (by decide)))
          generalize hF : Act.put _ _ _ = F
          have h2 : F.eval (.tmp 8) = .pointer (some ⟨w.heap.size, 0, none⟩) := by
            rw [← hF]
            exact put_tmps_ne (d := 9) (by rfl) (put_none (put_tmps_ne (d := 33) (by rfl) (at_out _ (by kernel_rfl) rfl)))
          have h3 : F.eval (.tmp 9) = .int .i64 0 := by
            rw [← hF]
            exact put_tmps_eq (d := 9) (put_size (put_size (fill_size _ _ _))) (by kernel_rfl)
          have h0 : F.defers = [] := by
            rw [← hF]
            exact put_defs (put_defs (put_defs (fill_defs _ _ _)))
          clear hF hG oc R9
          generalize w'.setRow w.heap.size _ = w9 at *
          go_wp2_with fail
          exact bodyPost_ret (results_pair rfl _ _ w.heap.size 24 _ (0, 0) _ _ h2 h3 RR Tryd.underlying24 rfl (by kernel_rfl)) h0 ⟨.inl ⟨PE.out, A', c', by rw [← XT.out, ← XC.out], OO⟩, BB⟩
  · have PE : Hid (mkErr k rest = 1) := Lib.hid (mk_one fun q => hk ⟨q.1, q.2.1⟩)
    rw [lk_none (by omega)] at LK
    have LK2 : Hid (Calls Tryd.prog 33 #[.int .i64 k, .bool wide] (w.alloc (.cells #[.int .i64 0, .int .i64 0, .int .i64 0, .slice none 0 0] 24)) fun e w' => e = .returned (.tuple #[.agg #[.int .i64 0, .int .i64 0, .bool false], .bool false]) ∧ Below (w.alloc (.cells #[.int .i64 0, .int .i64 0, .int .i64 0, .slice none 0 0] 24)).heap.size (w.alloc (.cells #[.int .i64 0, .int .i64 0, .int .i64 0, .slice none 0 0] 24)) w') := Lib.hid LK.out
    clear hk WE LK
    go_enter Tryd.func17, Tryd.ntmps17
    go_wp2_with fail
    refine LK2.out.mono ?_
    rintro e w4 ⟨rfl, hb⟩
    have B4 := Lib.hid (B0.out.trans (hb.mono B0.out.size))
    have R4 := Lib.hid (R0.out.below hb R0.out.lt)
    have B5 := Lib.hid (B4.out.alloc B4.out.size (.cells #[.int .i64 0, .int .i64 0, .bool false] 54))
    have R5 := Lib.hid (R4.out.alloc (.cells #[.int .i64 0, .int .i64 0, .bool false] 54))
    clear hb B0 R0 H0 LK2
    go_wp2_with (refine wpList_store_row rfl 24 (.tmp 8) (.tmp 25) rfl w.heap.size #[.int .i64 0, .int .i64 0, .int .i64 0, .slice none 0 0] rfl rfl 24 _ R5.out (by kernel_rfl) rfl (oneI Ic.zero _ _ _) ?_)
    exact bodyPost_ret (results_pair rfl _ _ w.heap.size 24 _ (0, 0) _ _ rfl rfl (setRow_heap _ _ _ _ _ _ R5.out) Tryd.underlying24 rfl (by kernel_rfl)) rfl ⟨.inr ⟨by rw [PE.out]; decide, rfl⟩, setRow_bel B5.out (Nat.le_refl _) _⟩
end Go.Proofs.YthmleabmklnmcaaDoor.Make
