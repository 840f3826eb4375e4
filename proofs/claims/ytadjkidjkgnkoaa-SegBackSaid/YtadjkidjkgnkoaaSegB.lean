/- The contract of the document's Bytes. -/
import Derived.Test.YtadjkidjkgnkoaaRef5
import Derived.Test.YtadjkidjkgnkoaaRegs6
import Derived.Test.YtadjkidjkgnkoaaSegD
import Derived.Test.YtadjkidjkgnkoaaCom
import Derived.Test.YtadjkidjkgnkoaaFree
set_option linter.unusedVariables false
namespace Go.Proofs.Ytadjkidjkgnkoaa.SegB
open Go.RowKit Go.Sort Go.Proofs.Ytadjkidjkgnkoaa.Sums Go.Proofs.Ytadjkidjkgnkoaa.Words Go.Proofs.Ytadjkidjkgnkoaa.Mem Go.Proofs.Ytadjkidjkgnkoaa.Ahead Go.Proofs.Ytadjkidjkgnkoaa.SegD Go.Proofs.Ytadjkidjkgnkoaa.Blk Go.Proofs.Ytadjkidjkgnkoaa.Bits Go.Proofs.Ytadjkidjkgnkoaa.InetSum Go.Proofs.Ytadjkidjkgnkoaa.Steps Go.Proofs.Ytadjkidjkgnkoaa.Free Go.Proofs.Ytadjkidjkgnkoaa.Cut
open Go.Proofs.Ytadjkidjkgnkoaa.RefSum Go.Proofs.Ytadjkidjkgnkoaa.RefPseudo Go.Proofs.Ytadjkidjkgnkoaa.Com
open Go.Proofs.Ytadjkidjkgnkoaa.Regs (Lies all_below all_lit b_add b_mul st_slice3 ent_both st_len_bytes st_slice6 mem6 st_slice8_2 st_nums conv_u8)
theorem fieldS0 (g : Nat) (w : World) : (Instr.fieldAt 24 (.pointer (some ⟨g, 0, none⟩)) 0).run Try.prog w = .ok (.pointer (some ⟨g, 0, none⟩)) w := by kernel_rfl
theorem fieldS1 (g : Nat) (w : World) : (Instr.fieldAt 24 (.pointer (some ⟨g, 0, none⟩)) 1).run Try.prog w = .ok (.pointer (some ⟨g, 1, none⟩)) w := by kernel_rfl
theorem fieldS2 (g : Nat) (w : World) : (Instr.fieldAt 24 (.pointer (some ⟨g, 0, none⟩)) 2).run Try.prog w = .ok (.pointer (some ⟨g, 2, none⟩)) w := by kernel_rfl
theorem fieldS3 (g : Nat) (w : World) : (Instr.fieldAt 24 (.pointer (some ⟨g, 0, none⟩)) 3).run Try.prog w = .ok (.pointer (some ⟨g, 3, none⟩)) w := by kernel_rfl
theorem fieldS4 (g : Nat) (w : World) : (Instr.fieldAt 24 (.pointer (some ⟨g, 0, none⟩)) 4).run Try.prog w = .ok (.pointer (some ⟨g, 4, none⟩)) w := by kernel_rfl
theorem fieldS5 (g : Nat) (w : World) : (Instr.fieldAt 24 (.pointer (some ⟨g, 0, none⟩)) 5).run Try.prog w = .ok (.pointer (some ⟨g, 5, none⟩)) w := by kernel_rfl
theorem fieldS6 (g : Nat) (w : World) : (Instr.fieldAt 24 (.pointer (some ⟨g, 0, none⟩)) 6).run Try.prog w = .ok (.pointer (some ⟨g, 6, none⟩)) w := by kernel_rfl
theorem fieldS7 (g : Nat) (w : World) : (Instr.fieldAt 24 (.pointer (some ⟨g, 0, none⟩)) 7).run Try.prog w = .ok (.pointer (some ⟨g, 7, none⟩)) w := by kernel_rfl
theorem fieldS8 (g : Nat) (w : World) : (Instr.fieldAt 24 (.pointer (some ⟨g, 0, none⟩)) 8).run Try.prog w = .ok (.pointer (some ⟨g, 8, none⟩)) w := by kernel_rfl
theorem ent_two : Enters Try.prog 29 := enters_of Try.func29 (by kernel_rfl) rfl
theorem ent_four : Enters Try.prog 30 := enters_of Try.func30 (by kernel_rfl) rfl

set_option maxHeartbeats 4000000 in
set_option maxRecDepth 100000 in
theorem bytes_ref (p : Sg) (A : Option Addr) (n c : Nat) (l : List Int) (s d : ByteArray) (w : World) (B : Nat) (h : Holds w B A n c l) (hB : B ≤ w.heap.size) (he : p.err s d n = 0) :
    Calls Try.prog 17 #[.agg #[.int .i64 p.src, .int .i64 p.dst, .int .i64 p.seq, .int .i64 p.ack, .int .i64 p.flags, .int .i64 p.window, .int .i64 p.urgent, .string p.opt, .slice A n c], .string s, .string d] w fun e w' => ∃ v, e = .returned v ∧ Owns w' w.heap.size v (20 + p.opt.size + n) (p.bytes s d l) ∧ Below w.heap.size w w' := by
  obtain ⟨hp, hc⟩ := Sg.err_zero he
  obtain ⟨V, hn⟩ := Sg.chk_zero hc
  obtain ⟨s0, s1, d0, d1, v0, v1, u0, u1, q0, q1, a0, a1, f0, f1, z4, z⟩ := V
  have HP := Lib.hid hp
  obtain ⟨W, hW⟩ : ∃ W, W = 5 + (p.opt.size : Int) / 4 := ⟨_, rfl⟩
  have wq : (p.opt.size : Int).tdiv 4 = W - 5 := by rw [Int.tdiv_eq_ediv_of_nonneg (by omega)]; omega
  have wb : 5 ≤ W ∧ W ≤ 15 := by omega
  have w5 : IntKind.i64.wrap (W - 5) = W - 5 := IntWalk.i64_in _ (by omega)
  have w6 : (5 : Int) + (W - 5) = W := by omega
  have w7 : IntKind.i64.wrap W = W := IntWalk.i64_in _ (by omega)
  obtain ⟨front, hf⟩ : ∃ front, front = p.front := ⟨_, rfl⟩
  have FR : Hid (front = [p.src / 256, p.src % 256] ++ ([p.dst / 256, p.dst % 256] ++ ([p.seq / 16777216, p.seq / 65536 % 256, p.seq / 256 % 256, p.seq % 256] ++ ([p.ack / 16777216, p.ack / 65536 % 256, p.ack / 256 % 256, p.ack % 256] ++ ([16 * W, p.flags] ++ ([p.window / 256, p.window % 256] ++ [])))))) := Lib.hid (by rw [hf, hW]; rfl)
  obtain ⟨back, hk⟩ : ∃ back, back = p.back l := ⟨_, rfl⟩
  have BK : Hid (back = [p.urgent / 256, p.urgent % 256] ++ (nums p.opt ++ (l ++ []))) := Lib.hid (by rw [hk, List.append_nil]; rfl)
  have RW : Hid (p.raw 0 l = front ++ ([0, 0] ++ (back ++ []))) := Lib.hid (by rw [hf, hk, List.append_nil]; rfl)
  obtain ⟨t, ht⟩ : ∃ t, t = whole s d 6 (p.raw 0 l) := ⟨_, rfl⟩
  have tb : 0 ≤ t ∧ t ≤ 65535 := by rw [ht]; exact whole_in _ _ _ _
  have TT : Hid (whole s d 6 (p.raw 0 l) = t) := Lib.hid ht.symm
  obtain ⟨KK, hKK⟩ : ∃ KK, KK = p.sum s d l := ⟨_, rfl⟩
  have kb : 0 ≤ KK ∧ KK ≤ 65535 := by rw [hKK]; exact p.sum_in s d l
  have kt : KK = 65535 - t := by rw [hKK, ht]; rfl
  have EK : Hid (IntKind.i64.wrap (65535 - t) = KK) := Lib.hid (by rw [kt]; exact IntWalk.i64_in _ (by omega))
  have FB : Hid (p.bytes s d l = front ++ ([KK / 256, KK % 256] ++ (back ++ []))) := Lib.hid (by rw [hf, hk, hKK, List.append_nil]; rfl)
  have HL := Lib.hid h
  have B1 := Lib.hid ((Below.refl w.heap.size w).alloc (Nat.le_refl _) (.cells #[.int .i64 p.src, .int .i64 p.dst, .int .i64 p.seq, .int .i64 p.ack, .int .i64 p.flags, .int .i64 p.window, .int .i64 p.urgent, .string p.opt, .slice A n c] 24))
  have P1 := Lib.hid (Blk.new w 24 #[.int .i64 p.src, .int .i64 p.dst, .int .i64 p.seq, .int .i64 p.ack, .int .i64 p.flags, .int .i64 p.window, .int .i64 p.urgent, .string p.opt, .slice A n c])
  have p7 := P1.out.cell 7
  clear h hp hf hk ht he hc hW kt hKK z4
  go_enter Try.func17, Try.ntmps17
  go_wp2_with fail
  clear wq w5 w6 w7 p7
  generalize w.alloc (.cells #[.int .i64 p.src, .int .i64 p.dst, .int .i64 p.seq, .int .i64 p.ack, .int .i64 p.flags, .int .i64 p.window, .int .i64 p.urgent, .string p.opt, .slice A n c] 24) = w1 at *
  have PW := Lib.hid P1.out.drew
  refine wp_region_free [0, 1, 2, 3, 4, 5, 6, 7, 8, 9, 10, 11, 12, 13, 14, 15, 16, 17, 18, 19, 20, 21, 22] 23 [24] (fun w1 w2 => Below w1.heap.size w1 w2) (fun k' w' v => match k' with
    | 0 => v = .pointer (some ⟨w.heap.size, 0, none⟩)
    | 1 => v = .int .i64 p.src
    | 2 => Lies w' v 2 [p.src / 256, p.src % 256]
    | 3 => v = .pointer (some ⟨w.heap.size, 1, none⟩)
    | 4 => v = .int .i64 p.dst
    | 5 => Lies w' v 2 [p.dst / 256, p.dst % 256]
    | 6 => v = .pointer (some ⟨w.heap.size, 2, none⟩)
    | 7 => v = .int .i64 p.seq
    | 8 => Lies w' v 4 [p.seq / 16777216, p.seq / 65536 % 256, p.seq / 256 % 256, p.seq % 256]
    | 9 => v = .pointer (some ⟨w.heap.size, 3, none⟩)
    | 10 => v = .int .i64 p.ack
    | 11 => Lies w' v 4 [p.ack / 16777216, p.ack / 65536 % 256, p.ack / 256 % 256, p.ack % 256]
    | 12 => v = .int .i64 W
    | 13 => v = .int .i64 (16 * W)
    | 14 => v = .int .u8 (16 * W)
    | 15 => v = .pointer (some ⟨w.heap.size, 4, none⟩)
    | 16 => v = .int .i64 p.flags
    | 17 => v = .int .u8 p.flags
    | 18 => Lies w' v 2 [16 * W, p.flags]
    | 19 => v = .pointer (some ⟨w.heap.size, 5, none⟩)
    | 20 => v = .int .i64 p.window
    | 21 => Lies w' v 2 [p.window / 256, p.window % 256]
    | _ => ∃ g A0 c0 A1 c1 A2 c2 A3 c3 A4 c4 A5 c5, v = .slice (some ⟨g, 0, none⟩) 6 6 ∧ Both.All w' w'.heap.size g [⟨A0, 2, c0, [p.src / 256, p.src % 256]⟩, ⟨A1, 2, c1, [p.dst / 256, p.dst % 256]⟩, ⟨A2, 4, c2, [p.seq / 16777216, p.seq / 65536 % 256, p.seq / 256 % 256, p.seq % 256]⟩, ⟨A3, 4, c3, [p.ack / 16777216, p.ack / 65536 % 256, p.ack / 256 % 256, p.ack % 256]⟩, ⟨A4, 2, c4, [16 * W, p.flags]⟩, ⟨A5, 2, c5, [p.window / 256, p.window % 256]⟩]) (by kernel_rfl) (by kernel_rfl) (Below.refl _ _) (fun _ _ _ h k => h.trans (k.mono h.size)) (fun k' w1 w2 v h => match k' with
    | 0 => fun x => x
    | 1 => fun x => x
    | 2 => fun x => Lies.below x h
    | 3 => fun x => x
    | 4 => fun x => x
    | 5 => fun x => Lies.below x h
    | 6 => fun x => x
    | 7 => fun x => x
    | 8 => fun x => Lies.below x h
    | 9 => fun x => x
    | 10 => fun x => x
    | 11 => fun x => Lies.below x h
    | 12 => fun x => x
    | 13 => fun x => x
    | 14 => fun x => x
    | 15 => fun x => x
    | 16 => fun x => x
    | 17 => fun x => x
    | 18 => fun x => Lies.below x h
    | 19 => fun x => x
    | 20 => fun x => x
    | 21 => fun x => Lies.below x h
    | _ + 22 => fun ⟨g, A0, c0, A1, c1, A2, c2, A3, c3, A4, c4, A5, c5, e, x⟩ => ⟨g, A0, c0, A1, c1, A2, c2, A3, c3, A4, c4, A5, c5, e, all_below x h⟩) (fun _ _ _ _ _ h => h) ?_ _ (by rfl) ?_
  · refine obs_cons (by rfl) (fun vals w' hgr hdep K hK => ?_) (obs_cons (by rfl) (fun vals w' hgr hdep K hK => ?_) (obs_cons (by rfl) (fun vals w' hgr hdep K hK => ?_) (obs_cons (by rfl) (fun vals w' hgr hdep K hK => ?_) (obs_cons (by rfl) (fun vals w' hgr hdep K hK => ?_) (obs_cons (by rfl) (fun vals w' hgr hdep K hK => ?_) (obs_cons (by rfl) (fun vals w' hgr hdep K hK => ?_) (obs_cons (by rfl) (fun vals w' hgr hdep K hK => ?_) (obs_cons (by rfl) (fun vals w' hgr hdep K hK => ?_) (obs_cons (by rfl) (fun vals w' hgr hdep K hK => ?_) (obs_cons (by rfl) (fun vals w' hgr hdep K hK => ?_) (obs_cons (by rfl) (fun vals w' hgr hdep K hK => ?_) (obs_cons (by rfl) (fun vals w' hgr hdep K hK => ?_) (obs_cons (by rfl) (fun vals w' hgr hdep K hK => ?_) (obs_cons (by rfl) (fun vals w' hgr hdep K hK => ?_) (obs_cons (by rfl) (fun vals w' hgr hdep K hK => ?_) (obs_cons (by rfl) (fun vals w' hgr hdep K hK => ?_) (obs_cons (by rfl) (fun vals w' hgr hdep K hK => ?_) (obs_cons (by rfl) (fun vals w' hgr hdep K hK => ?_) (obs_cons (by rfl) (fun vals w' hgr hdep K hK => ?_) (obs_cons (by rfl) (fun vals w' hgr hdep K hK => ?_) (obs_cons (by rfl) (fun vals w' hgr hdep K hK => ?_) (obs_cons (by rfl) (fun vals w' hgr hdep K hK => ?_) (obs_nil)))))))))))))))))))))))
    · exact wp_field (.tmp 3) rfl _ _ (at_out _ (by kernel_rfl) rfl) (fieldS0 _ _) (hK _ _ (Below.refl _ _) rfl)
    · exact wp_load1 (.tmp 16) rfl ⟨w.heap.size, 0, none⟩ ((at_dst 0 (by kernel_rfl)).trans (hdep 0 (by simp) (by kernel_rfl))) Try.underlying3 rfl _ (((PW.out.below hgr PW.out.lt).cell 0).trans rfl) (hK _ _ (Below.refl _ _) rfl)
    · exact wp_call 29 [.tmp 17] _ rfl ent_two [.int .i64 p.src] (congrArg (fun z => [z]) ((at_dst 1 (by kernel_rfl)).trans (hdep 1 (by simp) (by kernel_rfl)))) (fun v w'' => Lies w'' v 2 [p.src / 256, p.src % 256] ∧ Below w'.heap.size w' w'') ((two_any p.src w' (by omega) (by omega)).mono fun e w'' ⟨A, c, h1, h2, h3⟩ => ⟨_, h1, ⟨A, c, rfl, h2⟩, h3⟩) (fun v w'' ⟨h1, h2⟩ => hK v _ h2 h1)
    · exact wp_field (.tmp 3) rfl _ _ (at_out _ (by kernel_rfl) rfl) (fieldS1 _ _) (hK _ _ (Below.refl _ _) rfl)
    · exact wp_load1 (.tmp 19) rfl ⟨w.heap.size, 1, none⟩ ((at_dst 3 (by kernel_rfl)).trans (hdep 3 (by simp) (by kernel_rfl))) Try.underlying3 rfl _ (((PW.out.below hgr PW.out.lt).cell 1).trans rfl) (hK _ _ (Below.refl _ _) rfl)
    · exact wp_call 29 [.tmp 20] _ rfl ent_two [.int .i64 p.dst] (congrArg (fun z => [z]) ((at_dst 4 (by kernel_rfl)).trans (hdep 4 (by simp) (by kernel_rfl)))) (fun v w'' => Lies w'' v 2 [p.dst / 256, p.dst % 256] ∧ Below w'.heap.size w' w'') ((two_any p.dst w' (by omega) (by omega)).mono fun e w'' ⟨A, c, h1, h2, h3⟩ => ⟨_, h1, ⟨A, c, rfl, h2⟩, h3⟩) (fun v w'' ⟨h1, h2⟩ => hK v _ h2 h1)
    · exact wp_field (.tmp 3) rfl _ _ (at_out _ (by kernel_rfl) rfl) (fieldS2 _ _) (hK _ _ (Below.refl _ _) rfl)
    · exact wp_load1 (.tmp 22) rfl ⟨w.heap.size, 2, none⟩ ((at_dst 6 (by kernel_rfl)).trans (hdep 6 (by simp) (by kernel_rfl))) Try.underlying3 rfl _ (((PW.out.below hgr PW.out.lt).cell 2).trans rfl) (hK _ _ (Below.refl _ _) rfl)
    · exact wp_call 30 [.tmp 23] _ rfl ent_four [.int .i64 p.seq] (congrArg (fun z => [z]) ((at_dst 7 (by kernel_rfl)).trans (hdep 7 (by simp) (by kernel_rfl)))) (fun v w'' => Lies w'' v 4 [p.seq / 16777216, p.seq / 65536 % 256, p.seq / 256 % 256, p.seq % 256] ∧ Below w'.heap.size w' w'') ((four_any p.seq w' (by omega) (by omega)).mono fun e w'' ⟨A, c, h1, h2, h3⟩ => ⟨_, h1, ⟨A, c, rfl, h2⟩, h3⟩) (fun v w'' ⟨h1, h2⟩ => hK v _ h2 h1)
    · exact wp_field (.tmp 3) rfl _ _ (at_out _ (by kernel_rfl) rfl) (fieldS3 _ _) (hK _ _ (Below.refl _ _) rfl)
    · exact wp_load1 (.tmp 25) rfl ⟨w.heap.size, 3, none⟩ ((at_dst 9 (by kernel_rfl)).trans (hdep 9 (by simp) (by kernel_rfl))) Try.underlying3 rfl _ (((PW.out.below hgr PW.out.lt).cell 3).trans rfl) (hK _ _ (Below.refl _ _) rfl)
    · exact wp_call 30 [.tmp 26] _ rfl ent_four [.int .i64 p.ack] (congrArg (fun z => [z]) ((at_dst 10 (by kernel_rfl)).trans (hdep 10 (by simp) (by kernel_rfl)))) (fun v w'' => Lies w'' v 4 [p.ack / 16777216, p.ack / 65536 % 256, p.ack / 256 % 256, p.ack % 256] ∧ Below w'.heap.size w' w'') ((four_any p.ack w' (by omega) (by omega)).mono fun e w'' ⟨A, c, h1, h2, h3⟩ => ⟨_, h1, ⟨A, c, rfl, h2⟩, h3⟩) (fun v w'' ⟨h1, h2⟩ => hK v _ h2 h1)
    · exact wp_move (.tmp 7) rfl _ (at_out _ (by kernel_rfl) rfl) (hK _ _ (Below.refl _ _) rfl)
    · exact wp_bin (.const (.int .i64 16)) (.tmp 28) rfl _ _ _ rfl ((at_dst 12 (by kernel_rfl)).trans (hdep 12 (by simp) (by kernel_rfl))) (b_mul _ _ _ _ _ (by omega) (by omega)) (hK _ _ (Below.refl _ _) rfl)
    · exact wp_conv (.tmp 29) rfl _ _ ((at_dst 13 (by kernel_rfl)).trans (hdep 13 (by simp) (by kernel_rfl))) (conv_u8 _ _ (by omega) (by omega)) (hK _ _ (Below.refl _ _) rfl)
    · exact wp_field (.tmp 3) rfl _ _ (at_out _ (by kernel_rfl) rfl) (fieldS4 _ _) (hK _ _ (Below.refl _ _) rfl)
    · exact wp_load1 (.tmp 31) rfl ⟨w.heap.size, 4, none⟩ ((at_dst 15 (by kernel_rfl)).trans (hdep 15 (by simp) (by kernel_rfl))) Try.underlying3 rfl _ (((PW.out.below hgr PW.out.lt).cell 4).trans rfl) (hK _ _ (Below.refl _ _) rfl)
    · exact wp_conv (.tmp 32) rfl _ _ ((at_dst 16 (by kernel_rfl)).trans (hdep 16 (by simp) (by kernel_rfl))) (conv_u8 _ _ (by omega) (by omega)) (hK _ _ (Below.refl _ _) rfl)
    · exact st_slice8_2 (.tmp 30) (.tmp 33) rfl _ _ ((at_dst 14 (by kernel_rfl)).trans (hdep 14 (by simp) (by kernel_rfl))) ((at_dst 17 (by kernel_rfl)).trans (hdep 17 (by simp) (by kernel_rfl))) (by omega) (by omega) (by omega) (by omega) (fun hL => hK _ _ ((Below.refl _ _).alloc (Nat.le_refl _) _) hL)
    · exact wp_field (.tmp 3) rfl _ _ (at_out _ (by kernel_rfl) rfl) (fieldS5 _ _) (hK _ _ (Below.refl _ _) rfl)
    · exact wp_load1 (.tmp 35) rfl ⟨w.heap.size, 5, none⟩ ((at_dst 19 (by kernel_rfl)).trans (hdep 19 (by simp) (by kernel_rfl))) Try.underlying3 rfl _ (((PW.out.below hgr PW.out.lt).cell 5).trans rfl) (hK _ _ (Below.refl _ _) rfl)
    · exact wp_call 29 [.tmp 36] _ rfl ent_two [.int .i64 p.window] (congrArg (fun z => [z]) ((at_dst 20 (by kernel_rfl)).trans (hdep 20 (by simp) (by kernel_rfl)))) (fun v w'' => Lies w'' v 2 [p.window / 256, p.window % 256] ∧ Below w'.heap.size w' w'') ((two_any p.window w' (by omega) (by omega)).mono fun e w'' ⟨A, c, h1, h2, h3⟩ => ⟨_, h1, ⟨A, c, rfl, h2⟩, h3⟩) (fun v w'' ⟨h1, h2⟩ => hK v _ h2 h1)
    · obtain ⟨A0, c0, e0, l0⟩ := hdep 2 (by simp) (by kernel_rfl)
      obtain ⟨A1, c1, e1, l1⟩ := hdep 5 (by simp) (by kernel_rfl)
      obtain ⟨A2, c2, e2, l2⟩ := hdep 8 (by simp) (by kernel_rfl)
      obtain ⟨A3, c3, e3, l3⟩ := hdep 11 (by simp) (by kernel_rfl)
      obtain ⟨A4, c4, e4, l4⟩ := hdep 18 (by simp) (by kernel_rfl)
      obtain ⟨A5, c5, e5, l5⟩ := hdep 21 (by simp) (by kernel_rfl)
      exact st_slice6 (.tmp 18) (.tmp 21) (.tmp 24) (.tmp 27) (.tmp 34) (.tmp 37) rfl _ _ _ _ _ _ _ _ _ _ _ _ _ _ _ _ _ _ ((at_dst 2 (by kernel_rfl)).trans e0) ((at_dst 5 (by kernel_rfl)).trans e1) ((at_dst 8 (by kernel_rfl)).trans e2) ((at_dst 11 (by kernel_rfl)).trans e3) ((at_dst 18 (by kernel_rfl)).trans e4) ((at_dst 21 (by kernel_rfl)).trans e5) (hK _ _ ((Below.refl _ _).alloc (Nat.le_refl _) _) ⟨_, A0, c0, A1, c1, A2, c2, A3, c3, A4, c4, A5, c5, rfl, all_lit _ _ _ _ rfl (mem6 l0 l1 l2 l3 l4 l5)⟩)
  · intro vals w' hgr hG
    obtain ⟨g, A0, c0, A1, c1, A2, c2, A3, c3, A4, c4, A5, c5, eg, al⟩ : ∃ g A0 c0 A1 c1 A2 c2 A3 c3 A4 c4 A5 c5, vals 22 = .slice (some ⟨g, 0, none⟩) 6 6 ∧ Both.All w' w'.heap.size g [⟨A0, 2, c0, [p.src / 256, p.src % 256]⟩, ⟨A1, 2, c1, [p.dst / 256, p.dst % 256]⟩, ⟨A2, 4, c2, [p.seq / 16777216, p.seq / 65536 % 256, p.seq / 256 % 256, p.seq % 256]⟩, ⟨A3, 4, c3, [p.ack / 16777216, p.ack / 65536 % 256, p.ack / 256 % 256, p.ack % 256]⟩, ⟨A4, 2, c4, [16 * W, p.flags]⟩, ⟨A5, 2, c5, [p.window / 256, p.window % 256]⟩] := hG 22 (by simp)
    refine wp_call 9 [.tmp 38] _ rfl ent_both [.slice (some ⟨g, 0, none⟩) 6 6] (congrArg (fun z => [z]) ((at_dst 22 (by kernel_rfl)).trans eg)) (fun v w'' => Owns w'' w'.heap.size v 16 front ∧ Below w'.heap.size w' w'') ((Both.both_any g 6 6 _ w' al rfl (by decide) (by show 2 + (2 + (4 + (4 + (2 + (2 + 0))))) ≤ 1048576; omega)).mono fun e w'' ⟨v, h1, h2, h3⟩ => ⟨v, h1, by rw [FR.out]; exact h2, h3⟩) (fun v2 w2 ⟨o2, hb⟩ => ?_)
    refine wpAnyH_next 24 _ rfl rfl (by kernel_rfl) (st_assign (.tmp 39) _ rfl (put_tmps_eq (fill_size _ _ _) (by kernel_rfl)) ⟨trivial, wpAnyH_done (by kernel_rfl) ?_ _⟩)
    have gr2 : Below w1.heap.size w1 w2 := ((below_drewN (Below.refl w1.heap.size w1) 1).trans hgr).trans (hb.mono hgr.size)
    have B2 := Lib.hid (B1.out.trans (gr2.mono B1.out.size))
    have P2 := Lib.hid (P1.out.below gr2 P1.out.lt)
    obtain ⟨A5, c5, rfl, h5⟩ := o2.slice
    have H5 := Lib.hid h5
    clear hG hgr o2 hb gr2 eg al h5 PW P1 B1
    simp only [fill, dstAt, List.getElem?_cons_zero, List.getElem?_cons_succ, Option.bind_some, Act.put, List.setIfInBounds_toArray, List.set_cons_zero, List.set_cons_succ]
    generalize vals 0 = x0, vals 1 = x1, vals 2 = x2, vals 3 = x3, vals 4 = x4, vals 5 = x5, vals 6 = x6, vals 7 = x7, vals 8 = x8, vals 9 = x9, vals 10 = x10, vals 11 = x11, vals 12 = x12, vals 13 = x13, vals 14 = x14, vals 15 = x15, vals 16 = x16, vals 17 = x17, vals 18 = x18, vals 19 = x19, vals 20 = x20, vals 21 = x21, vals 22 = x22
    go_wp2_with fail
    have PX := Lib.hid P2.out.drew
    have F0 : Hid (∀ w', Below w2.drew.heap.size w2.drew w' → Holds w' w'.heap.size A n c l) := Lib.hid fun w' hw => (HL.out.below ((B2.out.trans (((below_drewN (Below.refl w2.heap.size w2) 1).trans hw).mono B2.out.size)).mono hB)).more (Nat.le_trans hB (Nat.le_trans B2.out.size hw.size))
    refine wp_region_free [0, 1, 2, 3, 4, 5, 6, 7, 8] 9 [10] (fun w1 w2 => Below w1.heap.size w1 w2) (fun k' w' v => match k' with
      | 0 => v = .pointer (some ⟨w.heap.size, 6, none⟩)
      | 1 => v = .int .i64 p.urgent
      | 2 => Lies w' v 2 [p.urgent / 256, p.urgent % 256]
      | 3 => v = .pointer (some ⟨w.heap.size, 7, none⟩)
      | 4 => v = .string p.opt
      | 5 => Lies w' v p.opt.size (nums p.opt)
      | 6 => v = .pointer (some ⟨w.heap.size, 8, none⟩)
      | 7 => v = .slice A n c
      | _ => ∃ g A0 c0 A1 c1, v = .slice (some ⟨g, 0, none⟩) 3 3 ∧ Both.All w' w'.heap.size g [⟨A0, 2, c0, [p.urgent / 256, p.urgent % 256]⟩, ⟨A1, p.opt.size, c1, nums p.opt⟩, ⟨A, n, c, l⟩]) (by kernel_rfl) (by kernel_rfl) (Below.refl _ _) (fun _ _ _ h k => h.trans (k.mono h.size)) (fun k' w1 w2 v h => match k' with
      | 0 => fun x => x
      | 1 => fun x => x
      | 2 => fun x => Lies.below x h
      | 3 => fun x => x
      | 4 => fun x => x
      | 5 => fun x => Lies.below x h
      | 6 => fun x => x
      | 7 => fun x => x
      | _ + 8 => fun ⟨g, A0, c0, A1, c1, e, x⟩ => ⟨g, A0, c0, A1, c1, e, all_below x h⟩) (fun _ _ _ _ _ h => h) ?_ _ (by rfl) ?_
    · refine obs_cons (by rfl) (fun vals w' hgr hdep K hK => ?_) (obs_cons (by rfl) (fun vals w' hgr hdep K hK => ?_) (obs_cons (by rfl) (fun vals w' hgr hdep K hK => ?_) (obs_cons (by rfl) (fun vals w' hgr hdep K hK => ?_) (obs_cons (by rfl) (fun vals w' hgr hdep K hK => ?_) (obs_cons (by rfl) (fun vals w' hgr hdep K hK => ?_) (obs_cons (by rfl) (fun vals w' hgr hdep K hK => ?_) (obs_cons (by rfl) (fun vals w' hgr hdep K hK => ?_) (obs_cons (by rfl) (fun vals w' hgr hdep K hK => ?_) (obs_nil)))))))))
      · exact wp_field (.tmp 3) rfl _ _ (at_out _ (by kernel_rfl) rfl) (fieldS6 _ _) (hK _ _ (Below.refl _ _) rfl)
      · exact wp_load1 (.tmp 40) rfl ⟨w.heap.size, 6, none⟩ ((at_dst 0 (by kernel_rfl)).trans (hdep 0 (by simp) (by kernel_rfl))) Try.underlying3 rfl _ (((PX.out.below hgr PX.out.lt).cell 6).trans rfl) (hK _ _ (Below.refl _ _) rfl)
      · exact wp_call 29 [.tmp 41] _ rfl ent_two [.int .i64 p.urgent] (congrArg (fun z => [z]) ((at_dst 1 (by kernel_rfl)).trans (hdep 1 (by simp) (by kernel_rfl)))) (fun v w'' => Lies w'' v 2 [p.urgent / 256, p.urgent % 256] ∧ Below w'.heap.size w' w'') ((two_any p.urgent w' (by omega) (by omega)).mono fun e w'' ⟨A, c, h1, h2, h3⟩ => ⟨_, h1, ⟨A, c, rfl, h2⟩, h3⟩) (fun v w'' ⟨h1, h2⟩ => hK v _ h2 h1)
      · exact wp_field (.tmp 3) rfl _ _ (at_out _ (by kernel_rfl) rfl) (fieldS7 _ _) (hK _ _ (Below.refl _ _) rfl)
      · exact wp_load1 (.tmp 43) rfl ⟨w.heap.size, 7, none⟩ ((at_dst 3 (by kernel_rfl)).trans (hdep 3 (by simp) (by kernel_rfl))) Try.underlying9 rfl _ (((PX.out.below hgr PX.out.lt).cell 7).trans rfl) (hK _ _ (Below.refl _ _) rfl)
      · exact st_nums (.tmp 44) rfl p.opt ((at_dst 4 (by kernel_rfl)).trans (hdep 4 (by simp) (by kernel_rfl))) (by simp only [maxLen]; omega) (fun v w'' h1 h2 => hK v w'' h2 h1)
      · exact wp_field (.tmp 3) rfl _ _ (at_out _ (by kernel_rfl) rfl) (fieldS8 _ _) (hK _ _ (Below.refl _ _) rfl)
      · exact wp_load1 (.tmp 46) rfl ⟨w.heap.size, 8, none⟩ ((at_dst 6 (by kernel_rfl)).trans (hdep 6 (by simp) (by kernel_rfl))) Try.underlying22 rfl _ (((PX.out.below hgr PX.out.lt).cell 8).trans rfl) (hK _ _ (Below.refl _ _) rfl)
      · obtain ⟨A0, c0, e0, l0⟩ := hdep 2 (by simp) (by kernel_rfl)
        obtain ⟨A1, c1, e1, l1⟩ := hdep 5 (by simp) (by kernel_rfl)
        exact st_slice3 (.tmp 42) (.tmp 45) (.tmp 47) rfl _ _ _ _ _ _ _ _ _ ((at_dst 2 (by kernel_rfl)).trans e0) ((at_dst 5 (by kernel_rfl)).trans e1) ((at_dst 7 (by kernel_rfl)).trans (hdep 7 (by simp) (by kernel_rfl))) (hK _ _ ((Below.refl _ _).alloc (Nat.le_refl _) _) ⟨_, A0, c0, A1, c1, rfl, all_lit _ _ _ _ rfl (Both.mem3 l0 l1 (F0.out w' hgr))⟩)
    · intro vals w' hgr hG
      obtain ⟨g, A0, c0, A1, c1, eg, al⟩ : ∃ g A0 c0 A1 c1, vals 8 = .slice (some ⟨g, 0, none⟩) 3 3 ∧ Both.All w' w'.heap.size g [⟨A0, 2, c0, [p.urgent / 256, p.urgent % 256]⟩, ⟨A1, p.opt.size, c1, nums p.opt⟩, ⟨A, n, c, l⟩] := hG 8 (by simp)
      refine wp_call 9 [.tmp 48] _ rfl ent_both [.slice (some ⟨g, 0, none⟩) 3 3] (congrArg (fun z => [z]) ((at_dst 8 (by kernel_rfl)).trans eg)) (fun v w'' => Owns w'' w'.heap.size v (2 + (p.opt.size + (n + 0))) back ∧ Below w'.heap.size w' w'') ((Both.both_any g 3 3 _ w' al rfl (by decide) (by show 2 + (p.opt.size + (n + 0)) ≤ 1048576; omega)).mono fun e w'' ⟨v, h1, h2, h3⟩ => ⟨v, h1, by rw [BK.out]; exact h2, h3⟩) (fun v4 w4 ⟨o4, hb⟩ => ?_)
      refine wpAnyH_next 10 _ rfl rfl (by kernel_rfl) (st_assign (.tmp 49) _ rfl (put_tmps_eq (fill_size _ _ _) (by kernel_rfl)) ⟨trivial, wpAnyH_done (by kernel_rfl) ?_ _⟩)
      have gr4 : Below w2.heap.size w2 w4 := ((below_drewN (Below.refl w2.heap.size w2) 1).trans hgr).trans (hb.mono hgr.size)
      have B4 := Lib.hid (B2.out.trans (gr4.mono B2.out.size))
      have H54 := Lib.hid ((H5.out.below gr4).more gr4.size)
      obtain ⟨A6, c6, rfl, h6⟩ := o4.slice
      have H6 := Lib.hid h6
      clear hG hgr o4 hb gr4 eg al h6 H5 P2 B2 PX F0
      simp only [fill, dstAt, List.getElem?_cons_zero, List.getElem?_cons_succ, Option.bind_some, Act.put, List.setIfInBounds_toArray, List.set_cons_zero, List.set_cons_succ]
      generalize vals 0 = y0, vals 1 = y1, vals 2 = y2, vals 3 = y3, vals 4 = y4, vals 5 = y5, vals 6 = y6, vals 7 = y7, vals 8 = y8
      have HZ := Lib.hid (Holds.lit w4 [0, 0] #[.int .u8 0, .int .u8 0] rfl (by simp [maxLen]) (fun y hy => by simp at hy; omega))
      have g5 := (Below.refl _ w4).alloc (Nat.le_refl _) (.cells #[.int .u8 0, .int .u8 0] 5)
      have B5 := Lib.hid (B4.out.alloc B4.out.size (.cells #[.int .u8 0, .int .u8 0] 5))
      have H55 := Lib.hid ((H54.out.below g5).more g5.size)
      have H65 := Lib.hid ((H6.out.below g5).more g5.size)
      have HZ5 : Hid (Holds (w4.alloc (.cells #[.int .u8 0, .int .u8 0] 5)) (w4.alloc (.cells #[.int .u8 0, .int .u8 0] 5)).heap.size (some ⟨w4.heap.size, 0, none⟩) 2 2 [0, 0]) := Lib.hid (by simpa using HZ.out)
      clear g5 HZ B4 H54 H6
      go_wp2_with fail
      refine (Both.both_lit (Nat.le_refl _) [⟨A5, 16, c5, front⟩, ⟨some ⟨w4.heap.size, 0, none⟩, 2, 2, [0, 0]⟩, ⟨A6, 2 + (p.opt.size + (n + 0)), c6, back⟩] _ _ rfl (Both.mem3 H55.out HZ5.out H65.out) (w4.heap.size + 1) 3 (by simp) rfl (by decide) (by show 16 + (2 + (2 + (p.opt.size + (n + 0)) + 0)) ≤ 1048576; omega)).mono ?_
      rintro e w7 ⟨A7, c7, rfl, h7, _, hb⟩
      have B7 := Lib.hid (B5.out.trans (hb.mono B5.out.size))
      have H57 := Lib.hid ((H55.out.below hb).more hb.size)
      have H67 := Lib.hid ((H65.out.below hb).more hb.size)
      have e0 : Both.total [⟨A5, 16, c5, front⟩, ⟨some ⟨w4.heap.size, 0, none⟩, 2, 2, [0, 0]⟩, ⟨A6, 2 + (p.opt.size + (n + 0)), c6, back⟩] = 16 + (2 + (2 + (p.opt.size + (n + 0)) + 0)) := rfl
      rw [e0] at h7 ⊢
      have h7' : Holds w7 w7.heap.size A7 (16 + (2 + (2 + (p.opt.size + (n + 0)) + 0))) c7 (p.raw 0 l) := by rw [RW.out]; exact h7
      have H7 := Lib.hid h7'
      clear hb h7 h7' e0 H55 H65 HZ5 B5
      go_wp2_with fail
      refine (Ref5.sum_any5 s d 6 A7 _ c7 _ w7 w7.heap.size H7.out (Nat.le_refl _) (by omega) HP.out (by decide) (by decide)).mono ?_
      rintro e w8 ⟨rfl, hb⟩
      have B8 := Lib.hid (B7.out.trans (hb.mono B7.out.size))
      have H58 := Lib.hid ((H57.out.below hb).more hb.size)
      have H68 := Lib.hid ((H67.out.below hb).more hb.size)
      clear hb B7 H57 H67 H7
      rw [TT.out]
      have e9 : IntKind.i64.wrap (65535 - t) = KK := EK.out
      go_wp2_with fail
      refine (two_any KK _ (by omega) (by omega)).mono ?_
      rintro e w9 ⟨A9, c9, rfl, h9, hb⟩
      have B9 := Lib.hid (B8.out.trans (hb.mono B8.out.size))
      have H59 := Lib.hid ((H58.out.below hb).more hb.size)
      have H69 := Lib.hid ((H68.out.below hb).more hb.size)
      have H9 := Lib.hid h9
      clear hb h9 B8 H58 H68 e9
      go_wp2_with fail
      refine (Both.both_lit (Nat.le_refl _) [⟨A5, 16, c5, front⟩, ⟨A9, 2, c9, [KK / 256, KK % 256]⟩, ⟨A6, 2 + (p.opt.size + (n + 0)), c6, back⟩] _ _ rfl (Both.mem3 H59.out H9.out H69.out) w9.heap.size 3 rfl rfl (by decide) (by show 16 + (2 + (2 + (p.opt.size + (n + 0)) + 0)) ≤ 1048576; omega)).mono ?_
      rintro e wa ⟨Aa, ca, rfl, ha, oa, hb⟩
      have Ba := Lib.hid (B9.out.trans (hb.mono B9.out.size))
      have ea : Both.total [⟨A5, 16, c5, front⟩, ⟨A9, 2, c9, [KK / 256, KK % 256]⟩, ⟨A6, 2 + (p.opt.size + (n + 0)), c6, back⟩] = 20 + p.opt.size + n := by show 16 + (2 + (2 + (p.opt.size + (n + 0)) + 0)) = _; omega
      rw [ea] at oa ⊢
      have oa' : Owns wa w.heap.size (.slice Aa (20 + p.opt.size + n) ca) (20 + p.opt.size + n) (p.bytes s d l) := by rw [FB.out]; exact oa.mono B9.out.size
      have OA := Lib.hid oa'
      clear hb ha oa oa' ea
      go_wp2_with fail
      go_ret
      exact ⟨_, rfl, OA.out, Ba.out⟩
end Go.Proofs.Ytadjkidjkgnkoaa.SegB
