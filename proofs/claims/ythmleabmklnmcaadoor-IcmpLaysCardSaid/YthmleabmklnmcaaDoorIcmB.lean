/- The contract of the document's Bytes. -/
import Derived.Test.YthmleabmklnmcaaDoorIcmR
set_option linter.unusedVariables false
namespace Go.Proofs.YthmleabmklnmcaaDoor.IcmB
open Go.RowKit Go.Sort Go.Proofs.YthmleabmklnmcaaDoor.Sums Go.Proofs.YthmleabmklnmcaaDoor.Words Go.Proofs.YthmleabmklnmcaaDoor.Mem Go.Proofs.YthmleabmklnmcaaDoor.Ahead Go.Proofs.YthmleabmklnmcaaDoor.IcmD Go.Proofs.YthmleabmklnmcaaDoor.Blk Go.Proofs.YthmleabmklnmcaaDoor.Bits Go.Proofs.YthmleabmklnmcaaDoor.InetSum Go.Proofs.YthmleabmklnmcaaDoor.Steps Go.Proofs.YthmleabmklnmcaaDoor.Free Go.Proofs.YthmleabmklnmcaaDoor.Cut
open Go.Proofs.YthmleabmklnmcaaDoor.RefSum Go.Proofs.YthmleabmklnmcaaDoor.RefPseudo Go.Proofs.YthmleabmklnmcaaDoor.Com Go.Proofs.YthmleabmklnmcaaDoor.IcmR
open Go.Proofs.YthmleabmklnmcaaDoor.Regs (Lies all_below all_lit st_slice2 ent_both)
theorem fieldI0 (g : Nat) (w : World) : (Instr.fieldAt 24 (.pointer (some ⟨g, 0, none⟩)) 0).run Tryd.prog w = .ok (.pointer (some ⟨g, 0, none⟩)) w := by kernel_rfl
theorem fieldI1 (g : Nat) (w : World) : (Instr.fieldAt 24 (.pointer (some ⟨g, 0, none⟩)) 1).run Tryd.prog w = .ok (.pointer (some ⟨g, 1, none⟩)) w := by kernel_rfl
theorem fieldI2 (g : Nat) (w : World) : (Instr.fieldAt 24 (.pointer (some ⟨g, 0, none⟩)) 2).run Tryd.prog w = .ok (.pointer (some ⟨g, 2, none⟩)) w := by kernel_rfl
theorem fieldI3 (g : Nat) (w : World) : (Instr.fieldAt 24 (.pointer (some ⟨g, 0, none⟩)) 3).run Tryd.prog w = .ok (.pointer (some ⟨g, 3, none⟩)) w := by kernel_rfl
theorem ent_four : Enters Tryd.prog 27 := enters_of Tryd.func27 (by kernel_rfl) rfl

set_option maxHeartbeats 4000000 in
set_option maxRecDepth 100000 in
theorem bytes_ref (p : Ic) (A : Option Addr) (n c : Nat) (l : List Int) (s d : ByteArray) (w : World) (B : Nat) (h : Holds w B A n c l) (hB : B ≤ w.heap.size) (he : p.err s d n = 0) :
    Calls Tryd.prog 14 #[.agg #[.int .i64 p.typ, .int .i64 p.code, .int .i64 p.rest, .slice A n c], .string s, .string d] w fun e w' => ∃ v, e = .returned v ∧ Owns w' w.heap.size v (8 + n) (p.bytes s d l) ∧ Below w.heap.size w w' := by
  obtain ⟨V, hp, hn⟩ := Ic.err_zero he
  obtain ⟨t0, t1, c0, c1, r0, r1⟩ := V
  have HP := Lib.hid hp
  obtain ⟨back, hk⟩ : ∃ back, back = [p.rest / 16777216, p.rest / 65536 % 256, p.rest / 256 % 256, p.rest % 256] ++ l := ⟨_, rfl⟩
  have BK : Hid (back = [p.rest / 16777216, p.rest / 65536 % 256, p.rest / 256 % 256, p.rest % 256] ++ (l ++ [])) := Lib.hid (by rw [hk, List.append_nil])
  have RW : Hid (p.raw 0 l = [p.typ, p.code] ++ ([0, 0] ++ (back ++ []))) := Lib.hid (by rw [hk, List.append_nil]; rfl)
  obtain ⟨t, ht⟩ : ∃ t, t = summ s d (p.raw 0 l) := ⟨_, rfl⟩
  have tb : 0 ≤ t ∧ t ≤ 65535 := by rw [ht]; exact summ_in _ _ _
  have TT : Hid (summ s d (p.raw 0 l) = t) := Lib.hid ht.symm
  obtain ⟨KK, hKK⟩ : ∃ KK, KK = p.sum s d l := ⟨_, rfl⟩
  have kb : 0 ≤ KK ∧ KK ≤ 65535 := by rw [hKK]; exact p.sum_in s d l
  have kt : KK = 65535 - t := by rw [hKK, ht]; rfl
  have EK : Hid (IntKind.i64.wrap (65535 - t) = KK) := Lib.hid (by rw [kt]; exact IntWalk.i64_in _ (by omega))
  have FB : Hid (p.bytes s d l = [p.typ, p.code] ++ ([KK / 256, KK % 256] ++ (back ++ []))) := Lib.hid (by rw [hk, hKK, List.append_nil]; rfl)
  have HL := Lib.hid h
  have u0 : IntKind.u8.wrap p.typ = p.typ := by rw [IntKind.wrap_u8]; omega
  have u1 : IntKind.u8.wrap p.code = p.code := by rw [IntKind.wrap_u8]; omega
  have B1 := Lib.hid (((Below.refl w.heap.size w).alloc (Nat.le_refl _) (.cells #[.int .i64 p.typ, .int .i64 p.code, .int .i64 p.rest, .slice A n c] 24)).alloc (by simp) (.cells #[.int .u8 p.typ, .int .u8 p.code] 5))
  have P0 := Blk.new w 24 #[.int .i64 p.typ, .int .i64 p.code, .int .i64 p.rest, .slice A n c]
  have p0 := P0.cell 0
  have p1 := P0.cell 1
  have P1 := Lib.hid (P0.alloc (.cells #[.int .u8 p.typ, .int .u8 p.code] 5))
  have hf := Holds.lit (w.alloc (.cells #[.int .i64 p.typ, .int .i64 p.code, .int .i64 p.rest, .slice A n c] 24)) [p.typ, p.code] #[.int .u8 p.typ, .int .u8 p.code] rfl (by simp [maxLen]) (fun y hy => by simp at hy; omega)
  have sz1 : (w.alloc (.cells #[.int .i64 p.typ, .int .i64 p.code, .int .i64 p.rest, .slice A n c] 24)).heap.size = w.heap.size + 1 := by simp
  have sz2 : ((w.alloc (.cells #[.int .i64 p.typ, .int .i64 p.code, .int .i64 p.rest, .slice A n c] 24)).alloc (.cells #[.int .u8 p.typ, .int .u8 p.code] 5)).heap.size = w.heap.size + 2 := by simp
  rw [sz1] at hf
  have H5 : Hid (Holds ((w.alloc (.cells #[.int .i64 p.typ, .int .i64 p.code, .int .i64 p.rest, .slice A n c] 24)).alloc (.cells #[.int .u8 p.typ, .int .u8 p.code] 5)) ((w.alloc (.cells #[.int .i64 p.typ, .int .i64 p.code, .int .i64 p.rest, .slice A n c] 24)).alloc (.cells #[.int .u8 p.typ, .int .u8 p.code] 5)).heap.size (some ⟨w.heap.size + 1, 0, none⟩) 2 2 [p.typ, p.code]) := Lib.hid (by rw [sz2]; exact hf)
  clear h hp hk ht he kt hKK P0 hf sz1 sz2
  go_enter Tryd.func14, Tryd.ntmps14
  go_wp2_with fail
  clear u0 u1 p0 p1
  generalize (w.alloc (.cells #[.int .i64 p.typ, .int .i64 p.code, .int .i64 p.rest, .slice A n c] 24)).alloc (.cells #[.int .u8 p.typ, .int .u8 p.code] 5) = w1 at *
  have PW := Lib.hid P1.out.drew
  have F0 : Hid (∀ w', Below w1.drew.heap.size w1.drew w' → Holds w' w'.heap.size A n c l) := Lib.hid fun w' hw => (HL.out.below ((B1.out.trans (((below_drewN (Below.refl w1.heap.size w1) 1).trans hw).mono B1.out.size)).mono hB)).more (Nat.le_trans hB (Nat.le_trans B1.out.size hw.size))
  refine wp_region_free [0, 1, 2, 3, 4, 5] 6 [7] (fun w1 w2 => Below w1.heap.size w1 w2) (fun k' w' v => match k' with
    | 0 => v = .pointer (some ⟨w.heap.size, 2, none⟩)
    | 1 => v = .int .i64 p.rest
    | 2 => Lies w' v 4 [p.rest / 16777216, p.rest / 65536 % 256, p.rest / 256 % 256, p.rest % 256]
    | 3 => v = .pointer (some ⟨w.heap.size, 3, none⟩)
    | 4 => v = .slice A n c
    | _ => ∃ g A0 c0, v = .slice (some ⟨g, 0, none⟩) 2 2 ∧ Both.All w' w'.heap.size g [⟨A0, 4, c0, [p.rest / 16777216, p.rest / 65536 % 256, p.rest / 256 % 256, p.rest % 256]⟩, ⟨A, n, c, l⟩]) (by kernel_rfl) (by kernel_rfl) (Below.refl _ _) (fun _ _ _ h k => h.trans (k.mono h.size)) (fun k' w1 w2 v h => match k' with
    | 0 => fun x => x
    | 1 => fun x => x
    | 2 => fun x => Lies.below x h
    | 3 => fun x => x
    | 4 => fun x => x
    | _ + 5 => fun ⟨g, A0, c0, e, x⟩ => ⟨g, A0, c0, e, all_below x h⟩) (fun _ _ _ _ _ h => h) ?_ _ (by rfl) ?_
  · refine obs_cons (by rfl) (fun vals w' hgr hdep K hK => ?_) (obs_cons (by rfl) (fun vals w' hgr hdep K hK => ?_) (obs_cons (by rfl) (fun vals w' hgr hdep K hK => ?_) (obs_cons (by rfl) (fun vals w' hgr hdep K hK => ?_) (obs_cons (by rfl) (fun vals w' hgr hdep K hK => ?_) (obs_cons (by rfl) (fun vals w' hgr hdep K hK => ?_) (obs_nil))))))
    · exact wp_field (.tmp 3) rfl _ _ (at_out _ (by kernel_rfl) rfl) (fieldI2 _ _) (hK _ _ (Below.refl _ _) rfl)
    · exact wp_load1 (.tmp 17) rfl ⟨w.heap.size, 2, none⟩ ((at_dst 0 (by kernel_rfl)).trans (hdep 0 (by simp) (by kernel_rfl))) Tryd.underlying3 rfl _ (((PW.out.below hgr PW.out.lt).cell 2).trans rfl) (hK _ _ (Below.refl _ _) rfl)
    · exact wp_call 27 [.tmp 18] _ rfl ent_four [.int .i64 p.rest] (congrArg (fun z => [z]) ((at_dst 1 (by kernel_rfl)).trans (hdep 1 (by simp) (by kernel_rfl)))) (fun v w'' => Lies w'' v 4 [p.rest / 16777216, p.rest / 65536 % 256, p.rest / 256 % 256, p.rest % 256] ∧ Below w'.heap.size w' w'') ((four_any p.rest w' (by omega) (by omega)).mono fun e w'' ⟨A, c, h1, h2, h3⟩ => ⟨_, h1, ⟨A, c, rfl, h2⟩, h3⟩) (fun v w'' ⟨h1, h2⟩ => hK v _ h2 h1)
    · exact wp_field (.tmp 3) rfl _ _ (at_out _ (by kernel_rfl) rfl) (fieldI3 _ _) (hK _ _ (Below.refl _ _) rfl)
    · exact wp_load1 (.tmp 20) rfl ⟨w.heap.size, 3, none⟩ ((at_dst 3 (by kernel_rfl)).trans (hdep 3 (by simp) (by kernel_rfl))) Tryd.underlying22 rfl _ (((PW.out.below hgr PW.out.lt).cell 3).trans rfl) (hK _ _ (Below.refl _ _) rfl)
    · obtain ⟨A0, c0, e0, l0⟩ := hdep 2 (by simp) (by kernel_rfl)
      exact st_slice2 (.tmp 19) (.tmp 21) rfl _ _ _ _ _ _ ((at_dst 2 (by kernel_rfl)).trans e0) ((at_dst 4 (by kernel_rfl)).trans (hdep 4 (by simp) (by kernel_rfl))) (hK _ _ ((Below.refl _ _).alloc (Nat.le_refl _) _) ⟨_, A0, c0, rfl, all_lit _ _ _ _ rfl (Both.mem2 l0 (F0.out w' hgr))⟩)
  · intro vals w' hgr hG
    obtain ⟨g, A0, c0, eg, al⟩ : ∃ g A0 c0, vals 5 = .slice (some ⟨g, 0, none⟩) 2 2 ∧ Both.All w' w'.heap.size g [⟨A0, 4, c0, [p.rest / 16777216, p.rest / 65536 % 256, p.rest / 256 % 256, p.rest % 256]⟩, ⟨A, n, c, l⟩] := hG 5 (by simp)
    refine wp_call 9 [.tmp 22] _ rfl ent_both [.slice (some ⟨g, 0, none⟩) 2 2] (congrArg (fun z => [z]) ((at_dst 5 (by kernel_rfl)).trans eg)) (fun v w'' => Owns w'' w'.heap.size v (4 + (n + 0)) back ∧ Below w'.heap.size w' w'') ((Both.both_any g 2 2 _ w' al rfl (by decide) (by show 4 + (n + 0) ≤ 1048576; omega)).mono fun e w'' ⟨v, h1, h2, h3⟩ => ⟨v, h1, by rw [BK.out]; exact h2, h3⟩) (fun v4 w4 ⟨o4, hb⟩ => ?_)
    refine wpAnyH_next 7 _ rfl rfl (by kernel_rfl) (st_assign (.tmp 23) _ rfl (put_tmps_eq (fill_size _ _ _) (by kernel_rfl)) ⟨trivial, wpAnyH_done (by kernel_rfl) ?_ _⟩)
    have gr4 : Below w1.heap.size w1 w4 := ((below_drewN (Below.refl w1.heap.size w1) 1).trans hgr).trans (hb.mono hgr.size)
    have B4 := Lib.hid (B1.out.trans (gr4.mono B1.out.size))
    have H54 := Lib.hid ((H5.out.below gr4).more gr4.size)
    obtain ⟨A6, c6, rfl, h6⟩ := o4.slice
    have H6 := Lib.hid h6
    clear hG hgr o4 hb gr4 eg al h6 H5 P1 B1 PW F0
    simp only [fill, dstAt, List.getElem?_cons_zero, List.getElem?_cons_succ, Option.bind_some, Act.put, List.setIfInBounds_toArray, List.set_cons_zero, List.set_cons_succ]
    generalize vals 0 = y0, vals 1 = y1, vals 2 = y2, vals 3 = y3, vals 4 = y4, vals 5 = y5
    have HZ := Lib.hid (Holds.lit w4 [0, 0] #[.int .u8 0, .int .u8 0] rfl (by simp [maxLen]) (fun y hy => by simp at hy; omega))
    have g5 := (Below.refl _ w4).alloc (Nat.le_refl _) (.cells #[.int .u8 0, .int .u8 0] 5)
    have B5 := Lib.hid (B4.out.alloc B4.out.size (.cells #[.int .u8 0, .int .u8 0] 5))
    have H55 := Lib.hid ((H54.out.below g5).more g5.size)
    have H65 := Lib.hid ((H6.out.below g5).more g5.size)
    have HZ5 : Hid (Holds (w4.alloc (.cells #[.int .u8 0, .int .u8 0] 5)) (w4.alloc (.cells #[.int .u8 0, .int .u8 0] 5)).heap.size (some ⟨w4.heap.size, 0, none⟩) 2 2 [0, 0]) := Lib.hid (by simpa using HZ.out)
    clear g5 HZ B4 H54 H6
    go_wp2_with fail
    refine (Both.both_lit (Nat.le_refl _) [⟨some ⟨w.heap.size + 1, 0, none⟩, 2, 2, [p.typ, p.code]⟩, ⟨some ⟨w4.heap.size, 0, none⟩, 2, 2, [0, 0]⟩, ⟨A6, 4 + (n + 0), c6, back⟩] _ _ rfl (Both.mem3 H55.out HZ5.out H65.out) (w4.heap.size + 1) 3 (by simp) rfl (by decide) (by show 2 + (2 + (4 + (n + 0) + 0)) ≤ 1048576; omega)).mono ?_
    rintro e w7 ⟨A7, c7, rfl, h7, _, hb⟩
    have B7 := Lib.hid (B5.out.trans (hb.mono B5.out.size))
    have H57 := Lib.hid ((H55.out.below hb).more hb.size)
    have H67 := Lib.hid ((H65.out.below hb).more hb.size)
    have e0 : Both.total [⟨some ⟨w.heap.size + 1, 0, none⟩, 2, 2, [p.typ, p.code]⟩, ⟨some ⟨w4.heap.size, 0, none⟩, 2, 2, [0, 0]⟩, ⟨A6, 4 + (n + 0), c6, back⟩] = 2 + (2 + (4 + (n + 0) + 0)) := rfl
    rw [e0] at h7 ⊢
    have h7' : Holds w7 w7.heap.size A7 (2 + (2 + (4 + (n + 0) + 0))) c7 (p.raw 0 l) := by rw [RW.out]; exact h7
    have H7 := Lib.hid h7'
    clear hb h7 h7' e0 H55 H65 HZ5 B5
    go_wp2_with fail
    refine (sum_doc s d A7 _ c7 _ w7 w7.heap.size H7.out (Nat.le_refl _) (by omega) HP.out).mono ?_
    rintro e w8 ⟨rfl, hb⟩
    have B8 := Lib.hid (B7.out.trans (hb.mono B7.out.size))
    have H58 := Lib.hid ((H57.out.below hb).more hb.size)
    have H68 := Lib.hid ((H67.out.below hb).more hb.size)
    clear hb B7 H57 H67 H7
    rw [TT.out]
    have e9 : IntKind.i64.wrap (65535 - t) = KK := EK.out
    go_wp2_with fail
    refine (two_any KK _ (by omega) (by omega)).mono ?_
    rintro e w9 ⟨A9, c9, rfl, h9, hb⟩
    have B9 := Lib.hid (B8.out.trans (hb.mono B8.out.size))
    have H59 := Lib.hid ((H58.out.below hb).more hb.size)
    have H69 := Lib.hid ((H68.out.below hb).more hb.size)
    have H9 := Lib.hid h9
    clear hb h9 B8 H58 H68 e9
    go_wp2_with fail
    refine (Both.both_lit (Nat.le_refl _) [⟨some ⟨w.heap.size + 1, 0, none⟩, 2, 2, [p.typ, p.code]⟩, ⟨A9, 2, c9, [KK / 256, KK % 256]⟩, ⟨A6, 4 + (n + 0), c6, back⟩] _ _ rfl (Both.mem3 H59.out H9.out H69.out) w9.heap.size 3 rfl rfl (by decide) (by show 2 + (2 + (4 + (n + 0) + 0)) ≤ 1048576; omega)).mono ?_
    rintro e wa ⟨Aa, ca, rfl, ha, oa, hb⟩
    have Ba := Lib.hid (B9.out.trans (hb.mono B9.out.size))
    have ea : Both.total [⟨some ⟨w.heap.size + 1, 0, none⟩, 2, 2, [p.typ, p.code]⟩, ⟨A9, 2, c9, [KK / 256, KK % 256]⟩, ⟨A6, 4 + (n + 0), c6, back⟩] = 8 + n := by show 2 + (2 + (4 + (n + 0) + 0)) = _; omega
    rw [ea] at oa ⊢
    have oa' : Owns wa w.heap.size (.slice Aa (8 + n) ca) (8 + n) (p.bytes s d l) := by rw [FB.out]; exact oa.mono B9.out.size
    have OA := Lib.hid oa'
    clear hb ha oa oa' ea
    go_wp2_with fail
    go_ret
    exact ⟨_, rfl, OA.out, Ba.out⟩
end Go.Proofs.YthmleabmklnmcaaDoor.IcmB
