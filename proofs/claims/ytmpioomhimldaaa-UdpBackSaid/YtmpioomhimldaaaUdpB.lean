/- The contract of the document's Bytes. -/
import Derived.Test.YtmpioomhimldaaaUdpP
set_option linter.unusedVariables false
namespace Go.Proofs.Ytmpioomhimldaaa.UdpB
open Go.RowKit Go.Sort Go.Proofs.Ytmpioomhimldaaa.Sums Go.Proofs.Ytmpioomhimldaaa.Words Go.Proofs.Ytmpioomhimldaaa.Mem Go.Proofs.Ytmpioomhimldaaa.Dat Go.Proofs.Ytmpioomhimldaaa.Blk Go.Proofs.Ytmpioomhimldaaa.Bits Go.Proofs.Ytmpioomhimldaaa.InetSum Go.Proofs.Ytmpioomhimldaaa.Steps Go.Proofs.Ytmpioomhimldaaa.Free Go.Proofs.Ytmpioomhimldaaa.Cut Go.Proofs.Ytmpioomhimldaaa.Udp
open Go.Proofs.Ytmpioomhimldaaa.RefSum Go.Proofs.Ytmpioomhimldaaa.RefPseudo Go.Proofs.Ytmpioomhimldaaa.UdpR
open Go.Proofs.Ytmpioomhimldaaa.Regs (Lies all_below all_lit b_add st_slice3 ent_both st_len_bytes)
theorem fieldU0 (g : Nat) (w : World) : (Instr.fieldAt 24 (.pointer (some ⟨g, 0, none⟩)) 0).run Try.prog w = .ok (.pointer (some ⟨g, 0, none⟩)) w := by kernel_rfl
theorem fieldU1 (g : Nat) (w : World) : (Instr.fieldAt 24 (.pointer (some ⟨g, 0, none⟩)) 1).run Try.prog w = .ok (.pointer (some ⟨g, 1, none⟩)) w := by kernel_rfl
theorem fieldU2 (g : Nat) (w : World) : (Instr.fieldAt 24 (.pointer (some ⟨g, 0, none⟩)) 2).run Try.prog w = .ok (.pointer (some ⟨g, 2, none⟩)) w := by kernel_rfl
theorem ent_two : Enters Try.prog 21 := enters_of Try.func21 (by kernel_rfl) rfl

set_option maxHeartbeats 8000000 in
set_option maxRecDepth 100000 in
theorem bytes_ref (a b : Int) (A : Option Addr) (n c : Nat) (l : List Int) (s d : ByteArray) (w : World) (B : Nat) (h : Holds w B A n c l) (hB : B ≤ w.heap.size) (he : err a b s d n = 0) :
    Calls Try.prog 13 #[.agg #[.int .i64 a, .int .i64 b, .slice A n c], .string s, .string d] w fun e w' => ∃ v, e = .returned v ∧ Owns w' w.heap.size v (8 + n) (Dat.bytes a b s d l) ∧ Below w.heap.size w w' := by
  have hl := h.1
  obtain ⟨⟨a0, a1⟩, ⟨b0, b1⟩, hp, hn⟩ := err_zero he
  have HP := Lib.hid hp
  obtain ⟨NN, hN⟩ : ∃ NN, NN = 8 + (n : Int) := ⟨_, rfl⟩
  have N1 : Hid (8 + (n : Int) = NN) := Lib.hid hN.symm
  have nb : 0 ≤ NN ∧ NN ≤ 65535 := by omega
  obtain ⟨front, hf⟩ : ∃ front, front = [a / 256, a % 256, b / 256, b % 256, NN / 256, NN % 256] := ⟨_, rfl⟩
  have FR := Lib.hid hf
  have RW : Hid (raw a b (8 + (n : Int)) 0 l = front ++ ([0, 0] ++ (l ++ []))) := Lib.hid (by rw [hf, hN]; simp [raw])
  obtain ⟨t, ht⟩ : ∃ t, t = whole s d (raw a b (8 + (n : Int)) 0 l) := ⟨_, rfl⟩
  have tb : 0 ≤ t ∧ t ≤ 65535 := by rw [ht]; exact whole_in _ _ _
  have TT : Hid (whole s d (raw a b (8 + (n : Int)) 0 l) = t) := Lib.hid ht.symm
  have FB : Hid (Dat.bytes a b s d l = front ++ ([sure t / 256, sure t % 256] ++ l)) := Lib.hid (by
    unfold Dat.bytes chk
    rw [hl, ← ht, hf, hN]; simp [raw])
  have HL := Lib.hid h
  have B1 := Lib.hid ((Below.refl w.heap.size w).alloc (Nat.le_refl _) (.cells #[.int .i64 a, .int .i64 b, .slice A n c] 24))
  have P1 := Lib.hid (Blk.new w 24 #[.int .i64 a, .int .i64 b, .slice A n c])
  clear h hp hN hf ht hl he
  go_enter Try.func13, Try.ntmps13
  go_wp2_with fail
  generalize w.alloc (.cells #[.int .i64 a, .int .i64 b, .slice A n c] 24) = w1 at *
  have PW := Lib.hid P1.out.drew
  refine wp_region_free [0, 1, 2, 3, 4, 5, 6, 7, 8, 9, 10, 11] 12 [13] (fun w1 w2 => Below w1.heap.size w1 w2) (fun k' w' v => match k' with
    | 0 => v = .pointer (some ⟨w.heap.size, 0, none⟩)
    | 1 => v = .int .i64 a
    | 2 => Lies w' v 2 [a / 256, a % 256]
    | 3 => v = .pointer (some ⟨w.heap.size, 1, none⟩)
    | 4 => v = .int .i64 b
    | 5 => Lies w' v 2 [b / 256, b % 256]
    | 6 => v = .pointer (some ⟨w.heap.size, 2, none⟩)
    | 7 => v = .slice A n c
    | 8 => v = .int .i64 ((n : Int))
    | 9 => v = .int .i64 NN
    | 10 => Lies w' v 2 [NN / 256, NN % 256]
    | _ => ∃ g A0 c0 A1 c1 A2 c2, v = .slice (some ⟨g, 0, none⟩) 3 3 ∧ Both.All w' w'.heap.size g [⟨A0, 2, c0, [a / 256, a % 256]⟩, ⟨A1, 2, c1, [b / 256, b % 256]⟩, ⟨A2, 2, c2, [NN / 256, NN % 256]⟩]) (by kernel_rfl) (by kernel_rfl) (Below.refl _ _) (fun _ _ _ h k => h.trans (k.mono h.size)) (fun k' w1 w2 v h => match k' with
    | 0 => fun x => x
    | 1 => fun x => x
    | 2 => fun x => Lies.below x h
    | 3 => fun x => x
    | 4 => fun x => x
    | 5 => fun x => Lies.below x h
    | 6 => fun x => x
    | 7 => fun x => x
    | 8 => fun x => x
    | 9 => fun x => x
    | 10 => fun x => Lies.below x h
    | _ + 11 => fun ⟨g, A0, c0, A1, c1, A2, c2, e, x⟩ => ⟨g, A0, c0, A1, c1, A2, c2, e, all_below x h⟩) (fun _ _ _ _ _ h => h) ?_ _ (by rfl) ?_
  · refine obs_cons (by rfl) (fun vals w' hgr hdep K hK => ?_) (obs_cons (by rfl) (fun vals w' hgr hdep K hK => ?_) (obs_cons (by rfl) (fun vals w' hgr hdep K hK => ?_) (obs_cons (by rfl) (fun vals w' hgr hdep K hK => ?_) (obs_cons (by rfl) (fun vals w' hgr hdep K hK => ?_) (obs_cons (by rfl) (fun vals w' hgr hdep K hK => ?_) (obs_cons (by rfl) (fun vals w' hgr hdep K hK => ?_) (obs_cons (by rfl) (fun vals w' hgr hdep K hK => ?_) (obs_cons (by rfl) (fun vals w' hgr hdep K hK => ?_) (obs_cons (by rfl) (fun vals w' hgr hdep K hK => ?_) (obs_cons (by rfl) (fun vals w' hgr hdep K hK => ?_) (obs_cons (by rfl) (fun vals w' hgr hdep K hK => ?_) (obs_nil))))))))))))
    · exact wp_field (.tmp 3) rfl _ _ (at_out _ (by kernel_rfl) rfl) (fieldU0 _ _) (hK _ _ (Below.refl _ _) rfl)
    · exact wp_load1 (.tmp 9) rfl ⟨w.heap.size, 0, none⟩ ((at_dst 0 (by kernel_rfl)).trans (hdep 0 (by simp) (by kernel_rfl))) Try.underlying3 rfl _ (((PW.out.below hgr PW.out.lt).cell 0).trans rfl) (hK _ _ (Below.refl _ _) rfl)
    · exact wp_call 21 [.tmp 10] _ rfl ent_two [.int .i64 a] (congrArg (fun z => [z]) ((at_dst 1 (by kernel_rfl)).trans (hdep 1 (by simp) (by kernel_rfl)))) (fun v w'' => Lies w'' v 2 [a / 256, a % 256] ∧ Below w'.heap.size w' w'') ((two_any a w' (by omega) (by omega)).mono fun e w'' ⟨A, c, h1, h2, h3⟩ => ⟨_, h1, ⟨A, c, rfl, h2⟩, h3⟩) (fun v w'' ⟨h1, h2⟩ => hK v _ h2 h1)
    · exact wp_field (.tmp 3) rfl _ _ (at_out _ (by kernel_rfl) rfl) (fieldU1 _ _) (hK _ _ (Below.refl _ _) rfl)
    · exact wp_load1 (.tmp 12) rfl ⟨w.heap.size, 1, none⟩ ((at_dst 3 (by kernel_rfl)).trans (hdep 3 (by simp) (by kernel_rfl))) Try.underlying3 rfl _ (((PW.out.below hgr PW.out.lt).cell 1).trans rfl) (hK _ _ (Below.refl _ _) rfl)
    · exact wp_call 21 [.tmp 13] _ rfl ent_two [.int .i64 b] (congrArg (fun z => [z]) ((at_dst 4 (by kernel_rfl)).trans (hdep 4 (by simp) (by kernel_rfl)))) (fun v w'' => Lies w'' v 2 [b / 256, b % 256] ∧ Below w'.heap.size w' w'') ((two_any b w' (by omega) (by omega)).mono fun e w'' ⟨A, c, h1, h2, h3⟩ => ⟨_, h1, ⟨A, c, rfl, h2⟩, h3⟩) (fun v w'' ⟨h1, h2⟩ => hK v _ h2 h1)
    · exact wp_field (.tmp 3) rfl _ _ (at_out _ (by kernel_rfl) rfl) (fieldU2 _ _) (hK _ _ (Below.refl _ _) rfl)
    · exact wp_load1 (.tmp 15) rfl ⟨w.heap.size, 2, none⟩ ((at_dst 6 (by kernel_rfl)).trans (hdep 6 (by simp) (by kernel_rfl))) Try.underlying22 rfl _ (((PW.out.below hgr PW.out.lt).cell 2).trans rfl) (hK _ _ (Below.refl _ _) rfl)
    · exact st_len_bytes (.tmp 16) rfl A n c ((at_dst 7 (by kernel_rfl)).trans (hdep 7 (by simp) (by kernel_rfl))) (hK _ _ (Below.refl _ _) rfl)
    · exact wp_bin (.const (.int .i64 8)) (.tmp 17) rfl _ _ (.int .i64 NN) rfl ((at_dst 8 (by kernel_rfl)).trans (hdep 8 (by simp) (by kernel_rfl))) (by have := b_add 8 (n : Int) (.const (.int .i64 8)) (.tmp 17) w' (by omega) (by omega); rwa [N1.out] at this) (hK _ _ (Below.refl _ _) rfl)
    · exact wp_call 21 [.tmp 18] _ rfl ent_two [.int .i64 NN] (congrArg (fun z => [z]) ((at_dst 9 (by kernel_rfl)).trans (hdep 9 (by simp) (by kernel_rfl)))) (fun v w'' => Lies w'' v 2 [NN / 256, NN % 256] ∧ Below w'.heap.size w' w'') ((two_any NN w' (by omega) (by omega)).mono fun e w'' ⟨A, c, h1, h2, h3⟩ => ⟨_, h1, ⟨A, c, rfl, h2⟩, h3⟩) (fun v w'' ⟨h1, h2⟩ => hK v _ h2 h1)
    · obtain ⟨A0, c0, e0, l0⟩ := hdep 2 (by simp) (by kernel_rfl)
      obtain ⟨A1, c1, e1, l1⟩ := hdep 5 (by simp) (by kernel_rfl)
      obtain ⟨A2, c2, e2, l2⟩ := hdep 10 (by simp) (by kernel_rfl)
      exact st_slice3 (.tmp 11) (.tmp 14) (.tmp 19) rfl _ _ _ _ _ _ _ _ _ ((at_dst 2 (by kernel_rfl)).trans e0) ((at_dst 5 (by kernel_rfl)).trans e1) ((at_dst 10 (by kernel_rfl)).trans e2) (hK _ _ ((Below.refl _ _).alloc (Nat.le_refl _) _) ⟨_, A0, c0, A1, c1, A2, c2, rfl, all_lit _ _ _ _ rfl (Both.mem3 l0 l1 l2)⟩)
  · intro vals w' hgr hG
    obtain ⟨g, A0, c0, A1, c1, A2, c2, eg, al⟩ : ∃ g A0 c0 A1 c1 A2 c2, vals 11 = .slice (some ⟨g, 0, none⟩) 3 3 ∧ Both.All w' w'.heap.size g [⟨A0, 2, c0, [a / 256, a % 256]⟩, ⟨A1, 2, c1, [b / 256, b % 256]⟩, ⟨A2, 2, c2, [NN / 256, NN % 256]⟩] := hG 11 (by simp)
    refine wp_call 8 [.tmp 20] _ rfl ent_both [.slice (some ⟨g, 0, none⟩) 3 3] (congrArg (fun z => [z]) ((at_dst 11 (by kernel_rfl)).trans eg)) (fun v w'' => Owns w'' w'.heap.size v 6 front ∧ Below w'.heap.size w' w'') ((Both.both_any g 3 3 _ w' al rfl (by decide) (by show 2 + (2 + (2 + 0)) ≤ 1048576; omega)).mono fun e w'' ⟨v, h1, h2, h3⟩ => ⟨v, h1, by rw [FR.out]; exact h2, h3⟩) (fun v2 w2 ⟨o2, hb⟩ => ?_)
    refine wpAnyH_next 13 _ rfl rfl (by kernel_rfl) (st_assign (.tmp 21) _ rfl (put_tmps_eq (fill_size _ _ _) (by kernel_rfl)) ⟨trivial, wpAnyH_done (by kernel_rfl) ?_ _⟩)
    have gr2 : Below w1.heap.size w1 w2 := ((below_drewN (Below.refl w1.heap.size w1) 1).trans hgr).trans (hb.mono hgr.size)
    have B2 := Lib.hid (B1.out.trans (gr2.mono B1.out.size))
    have P2 := Lib.hid (P1.out.below gr2 P1.out.lt)
    obtain ⟨A5, c5, rfl, h5⟩ := o2.slice
    have H5 := Lib.hid h5
    clear hG hgr o2 hb gr2 eg al h5
    simp only [fill, dstAt, List.getElem?_cons_zero, List.getElem?_cons_succ, Option.bind_some, Act.put, List.setIfInBounds_toArray, List.set_cons_zero, List.set_cons_succ]
    generalize vals 0 = x0, vals 1 = x1, vals 2 = x2, vals 3 = x3, vals 4 = x4, vals 5 = x5, vals 6 = x6, vals 7 = x7, vals 8 = x8, vals 9 = x9, vals 10 = x10, vals 11 = x11
    have d2 := P2.out.cell 2
    have HZ := Lib.hid (Holds.lit w2 [0, 0] #[.int .u8 0, .int .u8 0] rfl (by simp [maxLen]) (fun y hy => by simp at hy; omega))
    have g4 := (Below.refl _ w2).alloc (Nat.le_refl _) (.cells #[.int .u8 0, .int .u8 0] 5)
    have B4 := Lib.hid (B2.out.alloc B2.out.size (.cells #[.int .u8 0, .int .u8 0] 5))
    have P4 := Lib.hid (P2.out.alloc (.cells #[.int .u8 0, .int .u8 0] 5))
    have H54 := Lib.hid ((H5.out.below g4).more g4.size)
    have HZ4 : Hid (Holds (w2.alloc (.cells #[.int .u8 0, .int .u8 0] 5)) (w2.alloc (.cells #[.int .u8 0, .int .u8 0] 5)).heap.size (some ⟨w2.heap.size, 0, none⟩) 2 2 [0, 0]) := Lib.hid (by simpa using HZ.out)
    have d24 := P4.out.cell 2
    have HL4 := Lib.hid ((HL.out.below (B4.out.mono hB)).more (Nat.le_trans hB B4.out.size))
    clear g4 HZ
    go_wp2_with fail
    refine (Both.both_lit (Nat.le_refl _) [⟨A5, 6, c5, front⟩, ⟨some ⟨w2.heap.size, 0, none⟩, 2, 2, [0, 0]⟩, ⟨A, n, c, l⟩] _ _ rfl (Both.mem3 H54.out HZ4.out HL4.out) (w2.heap.size + 1) 3 (by simp) rfl (by decide) (by show 6 + (2 + (n + 0)) ≤ 1048576; omega)).mono ?_
    rintro e w7 ⟨A7, c7, rfl, h7, _, hb⟩
    have B7 := Lib.hid (B4.out.trans (hb.mono B4.out.size))
    have P7 := Lib.hid (P4.out.below hb P4.out.lt)
    have H57 := Lib.hid ((H54.out.below hb).more hb.size)
    have e0 : Both.total [⟨A5, 6, c5, front⟩, ⟨some ⟨w2.heap.size, 0, none⟩, 2, 2, [0, 0]⟩, ⟨A, n, c, l⟩] = 6 + (2 + (n + 0)) := rfl
    rw [e0] at h7 ⊢
    have h7' : Holds w7 w7.heap.size A7 (6 + (2 + (n + 0))) c7 (raw a b (8 + (n : Int)) 0 l) := by rw [RW.out]; exact h7
    have H7 := Lib.hid h7'
    clear hb h7 h7' e0 H54 HZ4 HL4 B4 P4 H5 P2 B2 d2 d24
    go_wp2_with fail
    refine (sum_any5 s d A7 _ c7 _ w7 w7.heap.size H7.out (Nat.le_refl _) (by omega) HP.out).mono ?_
    rintro e w8 ⟨rfl, hb⟩
    have B8 := Lib.hid (B7.out.trans (hb.mono B7.out.size))
    have P8 := Lib.hid (P7.out.below hb P7.out.lt)
    have H58 := Lib.hid ((H57.out.below hb).more hb.size)
    clear hb B7 P7 H57 H7
    rw [TT.out]
    by_cases q : 65535 - t = 0
    · have FIN : Hid (Dat.bytes a b s d l = front ++ ([65535 / 256, 65535 % 256] ++ l)) := Lib.hid (by rw [FB.out]; unfold sure; rw [if_pos q])
      have q1 : ((65535 - t : Int) == 0) = true := by rw [q]; rfl
      clear q FB
      go_wp2_with fail
      have PX := Lib.hid P8.out.drew
      have F5 : Hid (∀ w', Below w8.drew.heap.size w8.drew w' → Holds w' w'.heap.size A5 6 c5 front) := Lib.hid fun w' hw => (H58.out.below ((below_drewN (Below.refl w8.heap.size w8) 1).trans hw)).more hw.size
      have F0 : Hid (∀ w', Below w8.drew.heap.size w8.drew w' → Holds w' w'.heap.size A n c l) := Lib.hid fun w' hw => (HL.out.below ((B8.out.trans (((below_drewN (Below.refl w8.heap.size w8) 1).trans hw).mono B8.out.size)).mono hB)).more (Nat.le_trans hB (Nat.le_trans B8.out.size hw.size))
      refine wp_region_free [0, 1, 2, 3, 4, 5] 6 [7] (fun w1 w2 => Below w1.heap.size w1 w2) (fun k' w' v => match k' with
        | 0 => v = .slice A5 6 c5
        | 1 => v = .int .i64 65535
        | 2 => Lies w' v 2 [65535 / 256, 65535 % 256]
        | 3 => v = .pointer (some ⟨w.heap.size, 2, none⟩)
        | 4 => v = .slice A n c
        | _ => ∃ g A1 c1, v = .slice (some ⟨g, 0, none⟩) 3 3 ∧ Both.All w' w'.heap.size g [⟨A5, 6, c5, front⟩, ⟨A1, 2, c1, [65535 / 256, 65535 % 256]⟩, ⟨A, n, c, l⟩]) (by kernel_rfl) (by kernel_rfl) (Below.refl _ _) (fun _ _ _ h k => h.trans (k.mono h.size)) (fun k' w1 w2 v h => match k' with
        | 0 => fun x => x
        | 1 => fun x => x
        | 2 => fun x => Lies.below x h
        | 3 => fun x => x
        | 4 => fun x => x
        | _ + 5 => fun ⟨g, A1, c1, e, x⟩ => ⟨g, A1, c1, e, all_below x h⟩) (fun _ _ _ _ _ h => h) ?_ _ (by rfl) ?_
      · refine obs_cons (by rfl) (fun vals w' hgr hdep K hK => ?_) (obs_cons (by rfl) (fun vals w' hgr hdep K hK => ?_) (obs_cons (by rfl) (fun vals w' hgr hdep K hK => ?_) (obs_cons (by rfl) (fun vals w' hgr hdep K hK => ?_) (obs_cons (by rfl) (fun vals w' hgr hdep K hK => ?_) (obs_cons (by rfl) (fun vals w' hgr hdep K hK => ?_) (obs_nil))))))
        · exact wp_move (.tmp 7) rfl _ (at_out _ (by kernel_rfl) rfl) (hK _ _ (Below.refl _ _) rfl)
        · exact wp_move (.tmp 8) rfl _ (at_out _ (by kernel_rfl) rfl) (hK _ _ (Below.refl _ _) rfl)
        · exact wp_call 21 [.tmp 35] _ rfl ent_two [.int .i64 65535] (congrArg (fun z => [z]) ((at_dst 1 (by kernel_rfl)).trans (hdep 1 (by simp) (by kernel_rfl)))) (fun v w'' => Lies w'' v 2 [65535 / 256, 65535 % 256] ∧ Below w'.heap.size w' w'') ((two_any 65535 w' (by omega) (by omega)).mono fun e w'' ⟨A, c, h1, h2, h3⟩ => ⟨_, h1, ⟨A, c, rfl, h2⟩, h3⟩) (fun v w'' ⟨h1, h2⟩ => hK v _ h2 h1)
        · exact wp_field (.tmp 3) rfl _ _ (at_out _ (by kernel_rfl) rfl) (fieldU2 _ _) (hK _ _ (Below.refl _ _) rfl)
        · exact wp_load1 (.tmp 37) rfl ⟨w.heap.size, 2, none⟩ ((at_dst 3 (by kernel_rfl)).trans (hdep 3 (by simp) (by kernel_rfl))) Try.underlying22 rfl _ (((PX.out.below hgr PX.out.lt).cell 2).trans rfl) (hK _ _ (Below.refl _ _) rfl)
        · obtain ⟨A1, c1, e1, l1⟩ := hdep 2 (by simp) (by kernel_rfl)
          exact st_slice3 (.tmp 34) (.tmp 36) (.tmp 38) rfl _ _ _ _ _ _ _ _ _ ((at_dst 0 (by kernel_rfl)).trans (hdep 0 (by simp) (by kernel_rfl))) ((at_dst 2 (by kernel_rfl)).trans e1) ((at_dst 4 (by kernel_rfl)).trans (hdep 4 (by simp) (by kernel_rfl))) (hK _ _ ((Below.refl _ _).alloc (Nat.le_refl _) _) ⟨_, A1, c1, rfl, all_lit _ _ _ _ rfl (Both.mem3 (F5.out w' hgr) l1 (F0.out w' hgr))⟩)
      · intro vals w' hgr hG
        obtain ⟨g, A1, c1, eg, al⟩ : ∃ g A1 c1, vals 5 = .slice (some ⟨g, 0, none⟩) 3 3 ∧ Both.All w' w'.heap.size g [⟨A5, 6, c5, front⟩, ⟨A1, 2, c1, [65535 / 256, 65535 % 256]⟩, ⟨A, n, c, l⟩] := hG 5 (by simp)
        refine wp_call 8 [.tmp 39] _ rfl ent_both [.slice (some ⟨g, 0, none⟩) 3 3] (congrArg (fun z => [z]) ((at_dst 5 (by kernel_rfl)).trans eg)) (fun v w'' => Owns w'' w'.heap.size v (8 + n) (Dat.bytes a b s d l) ∧ Below w'.heap.size w' w'') ((Both.both_any g 3 3 _ w' al rfl (by decide) (by show 6 + (2 + (n + 0)) ≤ 1048576; omega)).mono fun e w'' ⟨v, h1, h2, h3⟩ => ⟨v, h1, by rw [(by show 6 + (2 + (n + 0)) = 8 + n; omega : Both.total [⟨A5, 6, c5, front⟩, ⟨A1, 2, c1, [65535 / 256, 65535 % 256]⟩, ⟨A, n, c, l⟩] = 8 + n)] at h2; rw [FIN.out]; simpa [Both.flat] using h2, h3⟩) (fun v9 w9 ⟨o9, hb⟩ => ?_)
        refine wpAnyH_next 7 _ rfl rfl (by kernel_rfl) (st_assign (.tmp 40) _ rfl (put_tmps_eq (fill_size _ _ _) (by kernel_rfl)) ⟨trivial, wpAnyH_done (by kernel_rfl) ?_ _⟩)
        have B9 := Lib.hid (B8.out.trans ((((below_drewN (Below.refl w8.heap.size w8) 1).trans hgr).trans (hb.mono hgr.size)).mono B8.out.size))
        have o9' := o9.mono (Nat.le_trans B8.out.size hgr.size)
        clear hG hgr o9 hb eg al
        simp only [fill, dstAt, List.getElem?_cons_zero, List.getElem?_cons_succ, Option.bind_some, Act.put, List.setIfInBounds_toArray, List.set_cons_zero, List.set_cons_succ]
        generalize vals 0 = z0, vals 1 = z1, vals 2 = z2, vals 3 = z3, vals 4 = z4, vals 5 = z5
        go_wp2_with fail
        go_ret
        exact ⟨_, rfl, o9', B9.out⟩
    · have FIN : Hid (Dat.bytes a b s d l = front ++ ([(65535 - t) / 256, (65535 - t) % 256] ++ l)) := Lib.hid (by rw [FB.out]; unfold sure; rw [if_neg q])
      have q1 : ((65535 - t : Int) == 0) = false := by rw [beq_eq_false_iff_ne]; exact q
      obtain ⟨k, hk⟩ : ∃ k, k = 65535 - t := ⟨_, rfl⟩
      have k0 : 0 ≤ k ∧ k ≤ 65535 := by omega
      have kw : IntKind.i64.wrap k = k := IntWalk.i64_in _ (by omega)
      rw [← hk] at FIN q1
      clear q FB
      go_wp2_with fail
      rw [← hk] at *
      go_wp2_with fail
      have PX := Lib.hid P8.out.drew
      have F5 : Hid (∀ w', Below w8.drew.heap.size w8.drew w' → Holds w' w'.heap.size A5 6 c5 front) := Lib.hid fun w' hw => (H58.out.below ((below_drewN (Below.refl w8.heap.size w8) 1).trans hw)).more hw.size
      have F0 : Hid (∀ w', Below w8.drew.heap.size w8.drew w' → Holds w' w'.heap.size A n c l) := Lib.hid fun w' hw => (HL.out.below ((B8.out.trans (((below_drewN (Below.refl w8.heap.size w8) 1).trans hw).mono B8.out.size)).mono hB)).more (Nat.le_trans hB (Nat.le_trans B8.out.size hw.size))
      refine wp_region_free [0, 1, 2, 3, 4, 5] 6 [7] (fun w1 w2 => Below w1.heap.size w1 w2) (fun k' w' v => match k' with
        | 0 => v = .slice A5 6 c5
        | 1 => v = .int .i64 k
        | 2 => Lies w' v 2 [k / 256, k % 256]
        | 3 => v = .pointer (some ⟨w.heap.size, 2, none⟩)
        | 4 => v = .slice A n c
        | _ => ∃ g A1 c1, v = .slice (some ⟨g, 0, none⟩) 3 3 ∧ Both.All w' w'.heap.size g [⟨A5, 6, c5, front⟩, ⟨A1, 2, c1, [k / 256, k % 256]⟩, ⟨A, n, c, l⟩]) (by kernel_rfl) (by kernel_rfl) (Below.refl _ _) (fun _ _ _ h k => h.trans (k.mono h.size)) (fun k' w1 w2 v h => match k' with
        | 0 => fun x => x
        | 1 => fun x => x
        | 2 => fun x => Lies.below x h
        | 3 => fun x => x
        | 4 => fun x => x
        | _ + 5 => fun ⟨g, A1, c1, e, x⟩ => ⟨g, A1, c1, e, all_below x h⟩) (fun _ _ _ _ _ h => h) ?_ _ (by rfl) ?_
      · refine obs_cons (by rfl) (fun vals w' hgr hdep K hK => ?_) (obs_cons (by rfl) (fun vals w' hgr hdep K hK => ?_) (obs_cons (by rfl) (fun vals w' hgr hdep K hK => ?_) (obs_cons (by rfl) (fun vals w' hgr hdep K hK => ?_) (obs_cons (by rfl) (fun vals w' hgr hdep K hK => ?_) (obs_cons (by rfl) (fun vals w' hgr hdep K hK => ?_) (obs_nil))))))
        · exact wp_move (.tmp 7) rfl _ (at_out _ (by kernel_rfl) rfl) (hK _ _ (Below.refl _ _) rfl)
        · exact wp_move (.tmp 8) rfl _ (at_out _ (by kernel_rfl) rfl) (hK _ _ (Below.refl _ _) rfl)
        · exact wp_call 21 [.tmp 35] _ rfl ent_two [.int .i64 k] (congrArg (fun z => [z]) ((at_dst 1 (by kernel_rfl)).trans (hdep 1 (by simp) (by kernel_rfl)))) (fun v w'' => Lies w'' v 2 [k / 256, k % 256] ∧ Below w'.heap.size w' w'') ((two_any k w' (by omega) (by omega)).mono fun e w'' ⟨A, c, h1, h2, h3⟩ => ⟨_, h1, ⟨A, c, rfl, h2⟩, h3⟩) (fun v w'' ⟨h1, h2⟩ => hK v _ h2 h1)
        · exact wp_field (.tmp 3) rfl _ _ (at_out _ (by kernel_rfl) rfl) (fieldU2 _ _) (hK _ _ (Below.refl _ _) rfl)
        · exact wp_load1 (.tmp 37) rfl ⟨w.heap.size, 2, none⟩ ((at_dst 3 (by kernel_rfl)).trans (hdep 3 (by simp) (by kernel_rfl))) Try.underlying22 rfl _ (((PX.out.below hgr PX.out.lt).cell 2).trans rfl) (hK _ _ (Below.refl _ _) rfl)
        · obtain ⟨A1, c1, e1, l1⟩ := hdep 2 (by simp) (by kernel_rfl)
          exact st_slice3 (.tmp 34) (.tmp 36) (.tmp 38) rfl _ _ _ _ _ _ _ _ _ ((at_dst 0 (by kernel_rfl)).trans (hdep 0 (by simp) (by kernel_rfl))) ((at_dst 2 (by kernel_rfl)).trans e1) ((at_dst 4 (by kernel_rfl)).trans (hdep 4 (by simp) (by kernel_rfl))) (hK _ _ ((Below.refl _ _).alloc (Nat.le_refl _) _) ⟨_, A1, c1, rfl, all_lit _ _ _ _ rfl (Both.mem3 (F5.out w' hgr) l1 (F0.out w' hgr))⟩)
      · intro vals w' hgr hG
        obtain ⟨g, A1, c1, eg, al⟩ : ∃ g A1 c1, vals 5 = .slice (some ⟨g, 0, none⟩) 3 3 ∧ Both.All w' w'.heap.size g [⟨A5, 6, c5, front⟩, ⟨A1, 2, c1, [k / 256, k % 256]⟩, ⟨A, n, c, l⟩] := hG 5 (by simp)
        refine wp_call 8 [.tmp 39] _ rfl ent_both [.slice (some ⟨g, 0, none⟩) 3 3] (congrArg (fun z => [z]) ((at_dst 5 (by kernel_rfl)).trans eg)) (fun v w'' => Owns w'' w'.heap.size v (8 + n) (Dat.bytes a b s d l) ∧ Below w'.heap.size w' w'') ((Both.both_any g 3 3 _ w' al rfl (by decide) (by show 6 + (2 + (n + 0)) ≤ 1048576; omega)).mono fun e w'' ⟨v, h1, h2, h3⟩ => ⟨v, h1, by rw [(by show 6 + (2 + (n + 0)) = 8 + n; omega : Both.total [⟨A5, 6, c5, front⟩, ⟨A1, 2, c1, [k / 256, k % 256]⟩, ⟨A, n, c, l⟩] = 8 + n)] at h2; rw [FIN.out]; simpa [Both.flat] using h2, h3⟩) (fun v9 w9 ⟨o9, hb⟩ => ?_)
        refine wpAnyH_next 7 _ rfl rfl (by kernel_rfl) (st_assign (.tmp 40) _ rfl (put_tmps_eq (fill_size _ _ _) (by kernel_rfl)) ⟨trivial, wpAnyH_done (by kernel_rfl) ?_ _⟩)
        have B9 := Lib.hid (B8.out.trans ((((below_drewN (Below.refl w8.heap.size w8) 1).trans hgr).trans (hb.mono hgr.size)).mono B8.out.size))
        have o9' := o9.mono (Nat.le_trans B8.out.size hgr.size)
        clear hG hgr o9 hb eg al
        simp only [fill, dstAt, List.getElem?_cons_zero, List.getElem?_cons_succ, Option.bind_some, Act.put, List.setIfInBounds_toArray, List.set_cons_zero, List.set_cons_succ]
        generalize vals 0 = z0, vals 1 = z1, vals 2 = z2, vals 3 = z3, vals 4 = z4, vals 5 = z5
        go_wp2_with fail
        go_ret
        exact ⟨_, rfl, o9', B9.out⟩
end Go.Proofs.Ytmpioomhimldaaa.UdpB
