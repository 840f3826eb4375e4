/- SpdPlaces' walk. -/
import Derived.Test.YtmomkjgnopcobaaLawPl0
set_option linter.unusedVariables false
namespace Go.Proofs.Ytmomkjgnopcobaa.LawPlaces16
open Go.RowKit Go.Proofs.Ytmomkjgnopcobaa.Mem Go.Proofs.Ytmomkjgnopcobaa.Blk Go.Proofs.Ytmomkjgnopcobaa.Ahead Go.Proofs.Ytmomkjgnopcobaa.PickD Go.Proofs.Ytmomkjgnopcobaa.PickR1 Go.Proofs.Ytmomkjgnopcobaa.PickR2 Go.Proofs.Ytmomkjgnopcobaa.Pick1 Go.Proofs.Ytmomkjgnopcobaa.Pick2 Go.Proofs.Ytmomkjgnopcobaa.Pick3 Go.Proofs.Ytmomkjgnopcobaa.Pick4 Go.Proofs.Ytmomkjgnopcobaa.Free Go.Proofs.Ytmomkjgnopcobaa.Steps Go.Proofs.Ytmomkjgnopcobaa.Regs Go.Proofs.Ytmomkjgnopcobaa.ArgT Go.Proofs.Ytmomkjgnopcobaa.MapK Go.Proofs.Ytmomkjgnopcobaa.Quest Go.Proofs.Ytmomkjgnopcobaa.RowN Go.Proofs.Ytmomkjgnopcobaa.SpdD Go.Proofs.Ytmomkjgnopcobaa.Spd1 Go.Proofs.Ytmomkjgnopcobaa.Spd3 Go.Proofs.Ytmomkjgnopcobaa.Spd4 Go.Proofs.Ytmomkjgnopcobaa.Spd5 Go.Proofs.Ytmomkjgnopcobaa.Spd6 Go.Proofs.Ytmomkjgnopcobaa.Spd7 Go.Proofs.Ytmomkjgnopcobaa.Spd8 Go.Proofs.Ytmomkjgnopcobaa.SpdA Go.Proofs.Ytmomkjgnopcobaa.Com Go.Proofs.Ytmomkjgnopcobaa.LawL16 Go.Proofs.Ytmomkjgnopcobaa.Few16 Go.Proofs.Ytmomkjgnopcobaa.LawPl0

set_option maxRecDepth 100000 in
set_option maxHeartbeats 8000000 in
theorem places_any (A0 : Option Addr) (n0 c0 : Nat) (ops : List Op16R) (r : RuleR) (at_ : Int) (w : World) (h : Op16Rows w A0 n0 ops) (hr : Ok r) :
    Calls Try.prog 6 #[.slice A0 n0 c0, .agg (RA r), .int .i64 at_] w fun e w' => e = .returned (.bool true) ∧ Below w.heap.size w w' := by
  have B0 := Lib.hid ((Below.refl w.heap.size w).alloc (Nat.le_refl _) (.cells (RA r) 35))
  have K0 := Lib.hid (Blk.new w 35 (RA r))
  have H0 := Lib.hid (ops_below h B0.out)
  have F1 := Lib.hid (few_any A0 n0 c0 ops _ H0.out trivial)
  have HR := Lib.hid hr
  have hbs : ∀ W, (Instr.buildSlice 22 1 #[(0, .agg #[.int .i64 0, .int .i64 0, .int .i64 r.x0, .string r.x1, .string r.x2, .string r.x3, .string r.x4, .int .i64 r.x5, .int .i64 r.x6, .int .i64 r.x7, .int .i64 r.x8, .int .i64 r.x9, .bool r.x10, .bool r.x11, .int .i64 r.x12, .bool r.x13, .string r.x14, .string r.x15, .string ⟨#[]⟩, .string ⟨#[]⟩, .int .i64 0, .int .i64 0, .int .i64 0, .bool false])]).run Try.prog W = .ok (.slice (some ⟨W.heap.size, 0, none⟩) 1 1) (W.alloc (.cells #[.int .i64 0, .int .i64 0, .int .i64 r.x0, .string r.x1, .string r.x2, .string r.x3, .string r.x4, .int .i64 r.x5, .int .i64 r.x6, .int .i64 r.x7, .int .i64 r.x8, .int .i64 r.x9, .bool r.x10, .bool r.x11, .int .i64 r.x12, .bool r.x13, .string r.x14, .string r.x15, .string ⟨#[]⟩, .string ⟨#[]⟩, .int .i64 0, .int .i64 0, .int .i64 0, .bool false] 37)) := fun W => run_one_op W r
  clear h hr
  go_enter Try.func6, Try.ntmps6
  go_wp2_with fail
  refine F1.out.mono ?_
  rintro e w1 ⟨fb, rfl, hfb, hb⟩
  have B1 := Lib.hid (B0.out.trans (hb.mono B0.out.size))
  have K1 := Lib.hid (K0.out.below hb K0.out.lt)
  have H1 := Lib.hid (ops_below H0.out hb)
  have FW := Lib.hid hfb
  clear hb hfb F1 B0 K0 H0
  cases fb
  · go_wp2_with fail
    go_ret
    exact ⟨rfl, B1.out⟩
  have BZ := Lib.hid ((Below.refl w1.heap.size w1).alloc (Nat.le_refl _) (.cells #[.int .i64 0, .int .i64 0, .int .i64 r.x0, .string r.x1, .string r.x2, .string r.x3, .string r.x4, .int .i64 r.x5, .int .i64 r.x6, .int .i64 r.x7, .int .i64 r.x8, .int .i64 r.x9, .bool r.x10, .bool r.x11, .int .i64 r.x12, .bool r.x13, .string r.x14, .string r.x15, .string ⟨#[]⟩, .string ⟨#[]⟩, .int .i64 0, .int .i64 0, .int .i64 0, .bool false] 37))
  have F2 := Lib.hid (few_any _ 1 1 _ _ (one_op w1 r HR.out) trivial)
  go_wp2_with (refine Store.at_load 35 (.tmp 4) ?_ ?_; exact rfl; refine Loads.wpList_load_w rfl 35 (.tmp 4) rfl w.heap.size rfl 35 (RA r) (0, 0) _ (K1.out) Try.underlying35 rfl (by kernel_rfl) ?_)
  refine F2.out.mono ?_
  rintro e w2 ⟨fb, rfl, -, hb⟩
  have hb' := BZ.out.trans (hb.mono BZ.out.size)
  have B2 := Lib.hid (B1.out.trans (hb'.mono B1.out.size))
  have K2 := Lib.hid (K1.out.below hb' K1.out.lt)
  have H2 := Lib.hid (ops_below H1.out hb')
  have N120 := Lib.hid (FW.out (by simp)).1
  clear hb hb' F2 BZ B1 K1 H1 FW hbs
  cases fb
  · go_wp2_with fail
    go_ret
    exact ⟨rfl, B2.out⟩
  have NC := Lib.hid (new_code (fun k => k < w2.heap.size) w2 (fun k h => h))
  go_wp2_with fail
  refine NC.out.mono ?_
  rintro e w3 ⟨⟨gs, rfl, h3⟩, b3⟩
  obtain ⟨F, hFd⟩ : ∃ F : Nat → Prop, F = fun k => k < w2.heap.size := ⟨_, rfl⟩
  rw [← hFd] at h3
  have FIN : Hid (∀ k, k < w2.heap.size → F k) := Lib.hid (by rw [hFd]; exact fun k h => h)
  have FLT : Hid (∀ k, F k → k < w2.heap.size) := Lib.hid (by rw [hFd]; exact fun k h => h)
  have H3 := Lib.hid h3
  have K3 := Lib.hid (Keep.of (F := F) b3)
  clear hFd h3 b3 NC
  go_wp2_with fail
  go_loopw [8] (fun iv wr => ∃ (i : Nat) (rs : List RuleR), iv = .int .i64 (i : Int) ∧ i ≤ n0 ∧ Hid (SpdAt F wr gs rs) ∧ Hid (Keep F w2 wr)) (fun iv _ => n0 - (intOf iv).toNat)
  case atStart => exact ⟨0, [], rfl, by omega, H3, K3⟩
  case round =>
    clear H3 K3
    obtain ⟨i, rs, rfl, hi, HS, HK⟩ := hrel
    by_cases hlt : i < n0
    · obtain ⟨b, o, op, rfl, hbl, hop, hok, hcl⟩ := ops_at H2.out hlt
      have LT := Lib.hid hlt
      have OKR := Lib.hid (ruO_ok hok)
      have CL := Lib.hid (at_keep hcl hbl (FIN.out _ hbl) HK.out)
      have BL := Lib.hid (Nat.lt_of_lt_of_le hbl HK.out.size)
      have HF : Hid (∀ k, F k → k < wr.heap.size) := Lib.hid fun k hk => Nat.lt_of_lt_of_le (FLT.out k hk) HK.out.size
      have nb := N120.out
      clear hop hok hcl hbl
      go_wp2_with fail
      have XO : Hid (∀ V, Below wr.drew.heap.size wr.drew V → Part.At V b (o + i * 24) op.cells) := Lib.hid fun V hV => Part.At.below (show Part.At wr.drew b (o + i * 24) op.cells from CL.out) hV BL.out
      refine wp_region_free [0, 1, 2, 3, 4, 5, 6, 7, 8, 9, 10] 11 [] (fun w1 w2 => Below w1.heap.size w1 w2) (fun k' w' v => match k' with
        | 0 => v = .pointer (some ⟨gs, 0, none⟩)
        | 1 => v = .slice (some ⟨b, o, none⟩) n0 c0
        | 2 => v = .int .i64 (((i : Nat) : Int))
        | 3 => v = .pointer (some ⟨b, o + i * 24, none⟩)
        | 4 => v = .pointer (some ⟨b, o + i * 24 + 1, none⟩)
        | 5 => v = .int .i64 op.x1
        | 6 => v = .slice (some ⟨b, o, none⟩) n0 c0
        | 7 => v = .int .i64 (((i : Nat) : Int))
        | 8 => v = .pointer (some ⟨b, o + i * 24, none⟩)
        | 9 => v = .pointer (some ⟨b, o + i * 24 + 2, none⟩)
        | _ => v = .agg (RA (ruO op))) (by kernel_rfl) (by kernel_rfl) (Below.refl _ _) (fun _ _ _ h k => h.trans (k.mono h.size)) (fun k' w1 w2 v h => match k' with
        | 0 => fun x => x
        | 1 => fun x => x
        | 2 => fun x => x
        | 3 => fun x => x
        | 4 => fun x => x
        | 5 => fun x => x
        | 6 => fun x => x
        | 7 => fun x => x
        | 8 => fun x => x
        | 9 => fun x => x
        | _ + 10 => fun x => x) (fun _ _ _ _ _ h => h) ?_ _ (by rfl) ?_
      · refine obs_cons (by rfl) (fun vals w' hgr hdep K hK => ?_) (obs_cons (by rfl) (fun vals w' hgr hdep K hK => ?_) (obs_cons (by rfl) (fun vals w' hgr hdep K hK => ?_) (obs_cons (by rfl) (fun vals w' hgr hdep K hK => ?_) (obs_cons (by rfl) (fun vals w' hgr hdep K hK => ?_) (obs_cons (by rfl) (fun vals w' hgr hdep K hK => ?_) (obs_cons (by rfl) (fun vals w' hgr hdep K hK => ?_) (obs_cons (by rfl) (fun vals w' hgr hdep K hK => ?_) (obs_cons (by rfl) (fun vals w' hgr hdep K hK => ?_) (obs_cons (by rfl) (fun vals w' hgr hdep K hK => ?_) (obs_cons (by rfl) (fun vals w' hgr hdep K hK => ?_) (obs_nil)))))))))))
        · exact wp_move (.tmp 7) rfl _ (at_out _ (by kernel_rfl) rfl) (hK _ _ (Below.refl _ _) rfl)
        · exact wp_move (.tmp 0) rfl _ (at_out _ (by kernel_rfl) rfl) (hK _ _ (Below.refl _ _) rfl)
        · exact wp_move (.tmp 8) rfl _ (at_out _ (by kernel_rfl) rfl) (hK _ _ (Below.refl _ _) rfl)
        · exact Part.st_elem_at (.tmp 35) (.tmp 36) rfl Try.underlying22 (by kernel_rfl) b o n0 c0 i ((at_dst 1 (by kernel_rfl)).trans (hdep 1 (by simp) (by kernel_rfl))) ((at_dst 2 (by kernel_rfl)).trans (hdep 2 (by simp) (by kernel_rfl))) LT.out (hK _ _ (Below.refl _ _) rfl)
        · exact wp_field (.tmp 37) rfl _ (.pointer (some ⟨b, o + i * 24 + 1, none⟩)) ((at_dst 3 (by kernel_rfl)).trans (hdep 3 (by simp) (by kernel_rfl))) (by kernel_rfl) (hK _ _ (Below.refl _ _) rfl)
        · exact wp_load1 (.tmp 38) rfl ⟨b, o + i * 24 + 1, none⟩ ((at_dst 4 (by kernel_rfl)).trans (hdep 4 (by simp) (by kernel_rfl))) Try.underlying3 rfl _ (XO.out w' hgr 1 _ rfl) (hK _ _ (Below.refl _ _) rfl)
        · exact wp_move (.tmp 0) rfl _ (at_out _ (by kernel_rfl) rfl) (hK _ _ (Below.refl _ _) rfl)
        · exact wp_move (.tmp 8) rfl _ (at_out _ (by kernel_rfl) rfl) (hK _ _ (Below.refl _ _) rfl)
        · exact Part.st_elem_at (.tmp 40) (.tmp 41) rfl Try.underlying22 (by kernel_rfl) b o n0 c0 i ((at_dst 6 (by kernel_rfl)).trans (hdep 6 (by simp) (by kernel_rfl))) ((at_dst 7 (by kernel_rfl)).trans (hdep 7 (by simp) (by kernel_rfl))) LT.out (hK _ _ (Below.refl _ _) rfl)
        · exact wp_field (.tmp 42) rfl _ (.pointer (some ⟨b, o + i * 24 + 2, none⟩)) ((at_dst 8 (by kernel_rfl)).trans (hdep 8 (by simp) (by kernel_rfl))) (by kernel_rfl) (hK _ _ (Below.refl _ _) rfl)
        · exact Part.st_load_part 35 (.tmp 43) rfl b (o + i * 24 + 2) [.int .i64 op.x2, .string op.x3, .string op.x4, .string op.x5, .string op.x6, .int .i64 op.x7, .int .i64 op.x8, .int .i64 op.x9, .int .i64 op.x10, .int .i64 op.x11, .bool op.x12, .bool op.x13, .int .i64 op.x14, .bool op.x15, .string op.x16, .string op.x17] ((at_dst 9 (by kernel_rfl)).trans (hdep 9 (by simp) (by kernel_rfl))) (Part.run_part _ _ _ _ _ _ Try.underlying35 rfl (by kernel_rfl) ((XO.out w' hgr).sub 2 16)) (hK _ _ (Below.refl _ _) rfl)
      · intro vals w' hgr hG
        refine wp_call 10 [.tmp 34, .tmp 39, .tmp 44] _ rfl ent_add [.pointer (some ⟨gs, 0, none⟩), .int .i64 op.x1, .agg (RA (ruO op))] (Spd7.list3 ((at_dst 0 (by kernel_rfl)).trans (hG 0 (by simp))) ((at_dst 5 (by kernel_rfl)).trans (hG 5 (by simp))) ((at_dst 10 (by kernel_rfl)).trans (hG 10 (by simp)))) (fun v w3 => (∃ k, v = .int .i64 k) ∧ SpdAt F w3 gs (addL rs op.x1 (ruO op)) ∧ Keep F w' w3) ((add_code F gs rs op.x1 (ruO op) w' (HS.out.below (Draw.below_1 hgr)) (fun k hk => Nat.lt_of_lt_of_le (HF.out k hk) (Draw.below_1 hgr).size) OKR.out).mono fun e w3 ⟨h1, h2, h3⟩ => ⟨_, h1, ⟨_, rfl⟩, h2, h3⟩) ?_
        rintro v w3 ⟨⟨k, rfl⟩, h3, k3⟩
        refine wpAnyH_done (by kernel_rfl) ?_ _
        have HS3 := Lib.hid h3
        have HK3 := Lib.hid (HK.out.trans ((Keep.of (F := F) (Draw.below_1 hgr)).trans k3))
        clear hG hgr h3 k3 XO HS HK
        simp only [fill, dstAt, List.getElem?_cons_zero, List.getElem?_cons_succ, Option.bind_some, Act.put, List.setIfInBounds_toArray, List.set_cons_zero, List.set_cons_succ]
        generalize vals 0 = u0, vals 1 = u1, vals 2 = u2, vals 3 = u3, vals 4 = u4, vals 5 = u5, vals 6 = u6, vals 7 = u7, vals 8 = u8, vals 9 = u9, vals 10 = u10 at *
        go_wp2_with fail
        go_roundw
        case rel => exact ⟨i + 1, _, by go_num, by omega, HS3, HK3⟩
        case measure => simp [intOf]; omega
    · skip
      have HF : Hid (∀ k, F k → k < wr.heap.size) := Lib.hid fun k hk => Nat.lt_of_lt_of_le (FLT.out k hk) HK.out.size
      have LC := Lib.hid (list_code F gs rs wr HS.out)
      go_wp2_with fail
      refine LC.out.mono ?_
      rintro e w5 ⟨⟨A1, rfl, l1, o1⟩, b5⟩
      have S5 := Lib.hid (wide HS.out b5)
      have L5 := Lib.hid l1
      have O5 := Lib.hid o1
      have OW1 : Hid (∀ k, own A1 k → Fu F wr.heap.size w5.heap.size k) := Lib.hid (list_in l1 o1)
      have F5 : Hid (∀ k, Fu F wr.heap.size w5.heap.size k → k < w5.heap.size) := Lib.hid (fu_lt HF.out b5.size)
      have K5 := Lib.hid (HK.out.trans (Keep.of b5))
      have R5 := Lib.hid (show Blk w5 w.heap.size 35 (RA r) from (K5.out.block _ (FIN.out _ K2.out.lt) K2.out.lt).trans K2.out)
      have AC := Lib.hid (add_code (Fu F wr.heap.size w5.heap.size) gs rs at_ r w5 S5.out F5.out HR.out)
      clear l1 o1 b5 LC HS HK HF
      obtain ⟨m, hm⟩ : ∃ m, m = rs.length := ⟨_, rfl⟩
      have ML := Lib.hid hm
      rw [← hm]
      clear hm
      go_wp2_with (refine Store.at_load 35 (.tmp 4) ?_ ?_; exact rfl; refine Loads.wpList_load_w rfl 35 (.tmp 4) rfl w.heap.size rfl 35 (RA r) (0, 0) _ (R5.out) Try.underlying35 rfl (by kernel_rfl) ?_)
      refine AC.out.mono ?_
      rintro e w6 ⟨rfl, h6, k6⟩
      have K6 := Lib.hid (K5.out.trans (k6.mono fun k hk _ => .inl hk))
      have L6 := Lib.hid (list_keep L5.out O5.out (Nat.le_refl _) k6)
      have R6 := Lib.hid (show Blk w6 w.heap.size 35 (RA r) from (K6.out.block _ (FIN.out _ K2.out.lt) K2.out.lt).trans K2.out)
      have F6 : Hid (∀ k, Fu F wr.heap.size w5.heap.size k → k < w6.heap.size) := Lib.hid fun k hk => Nat.lt_of_lt_of_le (F5.out k hk) k6.size
      have KK := Lib.hid k6
      clear k6 AC S5 K5 R5 F5
      by_cases ez : addE rs at_ r = 0
      · obtain ⟨j, rfl, hj, h64, hl⟩ := addE_in ez
        rw [hl] at h6
        rw [ez]
        have S6 := Lib.hid h6
        have JM : Hid (j ≤ m ∧ m < 64) := Lib.hid (by rw [ML.out]; exact ⟨hj, h64⟩)
        have LEN : Hid ((rs.take j ++ r :: rs.drop j).length = m + 1) := Lib.hid (by rw [ML.out]; simp; omega)
        have RA1 := Lib.hid (rem_add (r := r) hj)
        have AT1 := Lib.hid (at_add (r := r) hj)
        clear h6 ez hl hj h64
        have LC := Lib.hid (list_code _ gs _ w6 S6.out)
        rw [LEN.out] at LC
        go_wp2_with fail
        refine LC.out.mono ?_
        rintro e w7 ⟨⟨A2, rfl, l2, o2⟩, b7⟩
        have S7 := Lib.hid (wide S6.out b7)
        have F7 : Hid (∀ k, Fu (Fu F wr.heap.size w5.heap.size) w6.heap.size w7.heap.size k → k < w7.heap.size) := Lib.hid (fu_lt F6.out b7.size)
        have K7 := Lib.hid (K6.out.trans (Keep.of b7))
        have L7 := Lib.hid (L6.out.below b7)
        have R7 := Lib.hid (R6.out.below b7 R6.out.lt)
        have M7 := Lib.hid l2
        clear LC b7 o2 L6 K6 R6 S6 F6
        obtain ⟨g2, X2, rfl, -, -⟩ := l2
        have XM : Hid (∀ V, Below w7.drew.heap.size w7.drew V → Part.At V g2 (0 + j * 16) r.cells) := Lib.hid fun V hV => list_at ((M7.out.below (w' := w7.drew) (Draw.below_1 (Below.refl _ _))).below hV) AT1.out
        have XR : Hid (∀ V, Below w7.drew.heap.size w7.drew V → Blk V w.heap.size 35 (RA r)) := Lib.hid fun V hV => Blk.below (show Blk w7.drew w.heap.size _ _ from R7.out) hV R7.out.lt
        have jm := JM.out
        have LT := Lib.hid (show j < m + 1 by omega)
        go_wp2_with fail
        refine wp_region_freeP [0, 1, 2, 3, 4, 5, 6, 7, 8, 9, 10, 11, 12, 13, 14, 15, 16, 17, 18, 19, 20, 21, 22] 23 [] [(6, false), (10, false), (16, false)] (fun w1 w2 => Below w1.heap.size w1 w2) (fun k' w' v => match k' with
          | 0 => v = .slice (some ⟨g2, 0, none⟩) (m + 1) (m + 1)
          | 1 => v = .int .i64 (((m + 1 : Nat) : Int))
          | 2 => v = .slice A1 m m
          | 3 => v = .int .i64 (((m : Nat) : Int))
          | 4 => v = .int .i64 (((m : Nat) : Int) + 1)
          | 5 => v = .bool false
          | 6 => v = .bool false
          | 7 => v = .int .i64 (((j : Nat) : Int))
          | 8 => v = .bool false
          | 9 => v = .bool false
          | 10 => v = .bool false
          | 11 => v = .int .i64 (((j : Nat) : Int))
          | 12 => v = .slice (some ⟨g2, 0, none⟩) (m + 1) (m + 1)
          | 13 => v = .int .i64 (((m + 1 : Nat) : Int))
          | 14 => v = .bool false
          | 15 => v = .bool false
          | 16 => v = .bool false
          | 17 => v = .slice (some ⟨g2, 0, none⟩) (m + 1) (m + 1)
          | 18 => v = .int .i64 (((j : Nat) : Int))
          | 19 => v = .pointer (some ⟨g2, 0 + j * 16, none⟩)
          | 20 => v = .agg (RA r)
          | 21 => v = .agg #[.int .i64 r.x0, .string r.x1, .string r.x2, .string r.x3, .string r.x4, .int .i64 r.x5, .int .i64 r.x6, .int .i64 r.x7, .int .i64 r.x8, .int .i64 r.x9, .bool r.x10, .bool r.x11, .int .i64 r.x12, .bool r.x13, .string r.x14, .string r.x15]
          | _ => v = .bool false) (by kernel_rfl) (by kernel_rfl) (fun q hq w v hv => ?_) (Below.refl _ _) (fun _ _ _ h k => h.trans (k.mono h.size)) (fun k' w1 w2 v h => match k' with
          | 0 => fun x => x
          | 1 => fun x => x
          | 2 => fun x => x
          | 3 => fun x => x
          | 4 => fun x => x
          | 5 => fun x => x
          | 6 => fun x => x
          | 7 => fun x => x
          | 8 => fun x => x
          | 9 => fun x => x
          | 10 => fun x => x
          | 11 => fun x => x
          | 12 => fun x => x
          | 13 => fun x => x
          | 14 => fun x => x
          | 15 => fun x => x
          | 16 => fun x => x
          | 17 => fun x => x
          | 18 => fun x => x
          | 19 => fun x => x
          | 20 => fun x => x
          | 21 => fun x => x
          | _ + 22 => fun x => x) (fun _ _ _ _ _ h => h) ?_ _ (by rfl) ?_
        · simp only [List.mem_cons, List.not_mem_nil, or_false] at hq
          rcases hq with rfl | rfl | rfl <;> exact hv
        · refine obs_cons (by rfl) (fun vals w' hgr hdep K hK => ?_) (obs_cons (by rfl) (fun vals w' hgr hdep K hK => ?_) (obs_cons (by rfl) (fun vals w' hgr hdep K hK => ?_) (obs_cons (by rfl) (fun vals w' hgr hdep K hK => ?_) (obs_cons (by rfl) (fun vals w' hgr hdep K hK => ?_) (obs_cons (by rfl) (fun vals w' hgr hdep K hK => ?_) (obs_cons (by rfl) (fun vals w' hgr hdep K hK => ?_) (obs_cons (by rfl) (fun vals w' hgr hdep K hK => ?_) (obs_cons (by rfl) (fun vals w' hgr hdep K hK => ?_) (obs_cons (by rfl) (fun vals w' hgr hdep K hK => ?_) (obs_cons (by rfl) (fun vals w' hgr hdep K hK => ?_) (obs_cons (by rfl) (fun vals w' hgr hdep K hK => ?_) (obs_cons (by rfl) (fun vals w' hgr hdep K hK => ?_) (obs_cons (by rfl) (fun vals w' hgr hdep K hK => ?_) (obs_cons (by rfl) (fun vals w' hgr hdep K hK => ?_) (obs_cons (by rfl) (fun vals w' hgr hdep K hK => ?_) (obs_cons (by rfl) (fun vals w' hgr hdep K hK => ?_) (obs_cons (by rfl) (fun vals w' hgr hdep K hK => ?_) (obs_cons (by rfl) (fun vals w' hgr hdep K hK => ?_) (obs_cons (by rfl) (fun vals w' hgr hdep K hK => ?_) (obs_cons (by rfl) (fun vals w' hgr hdep K hK => ?_) (obs_cons (by rfl) (fun vals w' hgr hdep K hK => ?_) (obs_cons (by rfl) (fun vals w' hgr hdep K hK => ?_) (obs_nil)))))))))))))))))))))))
          · exact wp_move (.tmp 11) rfl _ (at_out _ (by kernel_rfl) rfl) (hK _ _ (Below.refl _ _) rfl)
          · exact st_lenT Try.underlying41 (.tmp 65) rfl _ (m + 1) (m + 1) ((at_dst 0 (by kernel_rfl)).trans (hdep 0 (by simp) (by kernel_rfl))) (hK _ _ (Below.refl _ _) rfl)
          · exact wp_move (.tmp 9) rfl _ (at_out _ (by kernel_rfl) rfl) (hK _ _ (Below.refl _ _) rfl)
          · exact st_lenT Try.underlying41 (.tmp 67) rfl _ m m ((at_dst 2 (by kernel_rfl)).trans (hdep 2 (by simp) (by kernel_rfl))) (hK _ _ (Below.refl _ _) rfl)
          · exact wp_bin (.tmp 68) (.const (.int .i64 1)) rfl _ _ _ ((at_dst 3 (by kernel_rfl)).trans (hdep 3 (by simp) (by kernel_rfl))) rfl (Regs.b_add _ _ _ _ _ (by omega) (by omega)) (hK _ _ (Below.refl _ _) rfl)
          · exact wp_bin (.tmp 66) (.tmp 69) rfl _ _ _ ((at_dst 1 (by kernel_rfl)).trans (hdep 1 (by simp) (by kernel_rfl))) ((at_dst 4 (by kernel_rfl)).trans (hdep 4 (by simp) (by kernel_rfl))) (b_neqi _ _ _ (by rw [bne_eq_false_iff_eq]; omega) _ _ _) (hK _ _ (Below.refl _ _) rfl)
          · exact wp_move (.tmp 70) rfl _ ((at_dst 5 (by kernel_rfl)).trans (hdep 5 (by simp) (by kernel_rfl))) (hK _ _ (Below.refl _ _) rfl)
          · exact wp_move (.tmp 2) rfl _ (at_out _ (by kernel_rfl) rfl) (hK _ _ (Below.refl _ _) rfl)
          · exact wp_bin (.tmp 72) (.const (.int .i64 0)) rfl _ _ _ ((at_dst 7 (by kernel_rfl)).trans (hdep 7 (by simp) (by kernel_rfl))) rfl (b_lssi _ _ _ (decide_eq_false (by omega)) _ _ _) (hK _ _ (Below.refl _ _) rfl)
          · exact st_pickF (.tmp 71) (.const (.bool true)) (.tmp 73) rfl _ ((at_dst 6 (by kernel_rfl)).trans (hdep 6 (by simp) (by kernel_rfl))) ((at_dst 8 (by kernel_rfl)).trans (hdep 8 (by simp) (by kernel_rfl))) (hK _ _ (Below.refl _ _) rfl)
          · exact wp_move (.tmp 74) rfl _ ((at_dst 9 (by kernel_rfl)).trans (hdep 9 (by simp) (by kernel_rfl))) (hK _ _ (Below.refl _ _) rfl)
          · exact wp_move (.tmp 2) rfl _ (at_out _ (by kernel_rfl) rfl) (hK _ _ (Below.refl _ _) rfl)
          · exact wp_move (.tmp 11) rfl _ (at_out _ (by kernel_rfl) rfl) (hK _ _ (Below.refl _ _) rfl)
          · exact st_lenT Try.underlying41 (.tmp 77) rfl _ (m + 1) (m + 1) ((at_dst 12 (by kernel_rfl)).trans (hdep 12 (by simp) (by kernel_rfl))) (hK _ _ (Below.refl _ _) rfl)
          · exact wp_bin (.tmp 76) (.tmp 78) rfl _ _ _ ((at_dst 11 (by kernel_rfl)).trans (hdep 11 (by simp) (by kernel_rfl))) ((at_dst 13 (by kernel_rfl)).trans (hdep 13 (by simp) (by kernel_rfl))) (b_geqi _ _ _ (decide_eq_false (by omega)) _ _ _) (hK _ _ (Below.refl _ _) rfl)
          · exact st_pickF (.tmp 75) (.const (.bool true)) (.tmp 79) rfl _ ((at_dst 10 (by kernel_rfl)).trans (hdep 10 (by simp) (by kernel_rfl))) ((at_dst 14 (by kernel_rfl)).trans (hdep 14 (by simp) (by kernel_rfl))) (hK _ _ (Below.refl _ _) rfl)
          · exact wp_move (.tmp 80) rfl _ ((at_dst 15 (by kernel_rfl)).trans (hdep 15 (by simp) (by kernel_rfl))) (hK _ _ (Below.refl _ _) rfl)
          · exact wp_move (.tmp 11) rfl _ (at_out _ (by kernel_rfl) rfl) (hK _ _ (Below.refl _ _) rfl)
          · exact wp_move (.tmp 2) rfl _ (at_out _ (by kernel_rfl) rfl) (hK _ _ (Below.refl _ _) rfl)
          · exact Part.st_elem_at (.tmp 82) (.tmp 83) rfl Try.underlying41 (by kernel_rfl) g2 0 (m + 1) (m + 1) j ((at_dst 17 (by kernel_rfl)).trans (hdep 17 (by simp) (by kernel_rfl))) ((at_dst 18 (by kernel_rfl)).trans (hdep 18 (by simp) (by kernel_rfl))) LT.out (hK _ _ (Below.refl _ _) rfl)
          · exact Part.st_load_part 35 (.tmp 84) rfl g2 (0 + j * 16) [.int .i64 r.x0, .string r.x1, .string r.x2, .string r.x3, .string r.x4, .int .i64 r.x5, .int .i64 r.x6, .int .i64 r.x7, .int .i64 r.x8, .int .i64 r.x9, .bool r.x10, .bool r.x11, .int .i64 r.x12, .bool r.x13, .string r.x14, .string r.x15] ((at_dst 19 (by kernel_rfl)).trans (hdep 19 (by simp) (by kernel_rfl))) (Part.run_part _ _ _ _ _ _ Try.underlying35 rfl (by kernel_rfl) (XM.out w' hgr)) (hK _ _ (Below.refl _ _) rfl)
          · exact Part.st_load_part 35 (.tmp 4) rfl w.heap.size 0 [.int .i64 r.x0, .string r.x1, .string r.x2, .string r.x3, .string r.x4, .int .i64 r.x5, .int .i64 r.x6, .int .i64 r.x7, .int .i64 r.x8, .int .i64 r.x9, .bool r.x10, .bool r.x11, .int .i64 r.x12, .bool r.x13, .string r.x14, .string r.x15] (at_out _ (by kernel_rfl) rfl) (Part.run_part _ _ _ _ _ _ Try.underlying35 rfl (by kernel_rfl) (blk_part (XR.out w' hgr) 0 16)) (hK _ _ (Below.refl _ _) rfl)
          · exact wp_bin (.tmp 85) (.tmp 86) rfl _ _ _ ((at_dst 20 (by kernel_rfl)).trans (hdep 20 (by simp) (by kernel_rfl))) ((at_dst 21 (by kernel_rfl)).trans (hdep 21 (by simp) (by kernel_rfl))) (neq_same r _ _ _) (hK _ _ (Below.refl _ _) rfl)
        · intro vals w' hgr hG
          refine st_pickF (.tmp 81) (.const (.bool true)) (.tmp 87) rfl _ ((at_dst 16 (by kernel_rfl)).trans (hG 16 (by simp))) ((at_dst 22 (by kernel_rfl)).trans (hG 22 (by simp))) (wpAnyH_done (by kernel_rfl) ?_ _)
          have S8 := Lib.hid (S7.out.below (Draw.below_1 hgr))
          have F8 : Hid (∀ k, Fu (Fu F wr.heap.size w5.heap.size) w6.heap.size w7.heap.size k → k < w'.heap.size) := Lib.hid fun k hk => Nat.lt_of_lt_of_le (F7.out k hk) (Draw.below_1 hgr).size
          have K8 := Lib.hid (K7.out.trans (Keep.of (Draw.below_1 hgr)))
          have L8 := Lib.hid (L7.out.below (Draw.below_1 hgr))
          clear hG hgr XM XR S7 F7 K7 L7 R7 M7 jm LT
          simp only [fill, dstAt, List.getElem?_cons_zero, List.getElem?_cons_succ, Option.bind_some, Act.put, List.setIfInBounds_toArray, List.set_cons_zero, List.set_cons_succ]
          generalize vals 0 = z0, vals 1 = z1, vals 2 = z2, vals 3 = z3, vals 4 = z4, vals 5 = z5, vals 6 = z6, vals 7 = z7, vals 8 = z8, vals 9 = z9, vals 10 = z10, vals 11 = z11, vals 12 = z12, vals 13 = z13, vals 14 = z14, vals 15 = z15, vals 16 = z16, vals 17 = z17, vals 18 = z18, vals 19 = z19, vals 20 = z20, vals 21 = z21, vals 22 = z22 at *
          generalize w' = w8 at *
          have RC8 := Lib.hid (remove_code _ gs _ ((j : Nat) : Int) w8 S8.out F8.out)
          rw [RA1.out.1, RA1.out.2] at RC8
          go_wp2_with fail
          refine RC8.out.mono ?_
          rintro e w9 ⟨rfl, h9, k9⟩
          have K9 := Lib.hid (K8.out.trans (k9.mono fun k hk _ => .inl (.inl hk)))
          have L9 := Lib.hid (list_keepG L8.out (fun k hk => .inl (OW1.out k hk)) k9)
          have LC := Lib.hid (list_code _ gs rs w9 h9)
          rw [← ML.out] at LC
          clear h9 k9 RC8 S8 F8 K8 L8 RA1 AT1
          go_wp2_with fail
          refine LC.out.mono ?_
          rintro e wa ⟨⟨A3, rfl, l3, -⟩, ba⟩
          have KA := Lib.hid (K9.out.trans (Keep.of ba))
          have LA := Lib.hid (L9.out.below ba)
          have MA := Lib.hid l3
          clear LC ba K9 L9 l3
          go_wp2_with fail
          go_loopw [14] (fun iv wq => ∃ i : Nat, iv = .int .i64 (i : Int) ∧ i ≤ m ∧ Hid (Below wa.heap.size wa wq)) (fun iv _ => m - (intOf iv).toNat)
          case atStart => exact ⟨0, rfl, by omega, Lib.hid (Below.refl _ _)⟩
          case round =>
            obtain ⟨i, rfl, hi, HB⟩ := hrel
            by_cases hlt : i < m
            · have LT := Lib.hid hlt
              obtain ⟨x, hx⟩ : ∃ x, rs[i]? = some x := ⟨_, List.getElem?_eq_getElem (by rw [← ML.out]; exact hlt)⟩
              obtain ⟨g1, X1, rfl, -, -⟩ := LA.out
              obtain ⟨g3, X3, rfl, -, -⟩ := MA.out
              have XL : Hid (∀ V, Below wr.drew.heap.size wr.drew V → Part.At V g1 (0 + i * 16) x.cells) := Lib.hid fun V hV => list_at ((LA.out.below HB.out).below (Draw.below_1 hV)) hx
              have XM : Hid (∀ V, Below wr.drew.heap.size wr.drew V → Part.At V g3 (0 + i * 16) x.cells) := Lib.hid fun V hV => list_at ((MA.out.below HB.out).below (Draw.below_1 hV)) hx
              clear hx
              go_wp2_with fail
              refine wp_region_freeP [0, 1, 2, 3, 4, 5, 6, 7, 8, 9, 10, 11, 12, 13, 14] 15 [] [(5, false)] (fun w1 w2 => Below w1.heap.size w1 w2) (fun k' w' v => match k' with
                | 0 => v = .slice (some ⟨g3, 0, none⟩) m m
                | 1 => v = .int .i64 (((m : Nat) : Int))
                | 2 => v = .slice (some ⟨g1, 0, none⟩) m m
                | 3 => v = .int .i64 (((m : Nat) : Int))
                | 4 => v = .bool false
                | 5 => v = .bool false
                | 6 => v = .slice (some ⟨g3, 0, none⟩) m m
                | 7 => v = .int .i64 (((i : Nat) : Int))
                | 8 => v = .pointer (some ⟨g3, 0 + i * 16, none⟩)
                | 9 => v = .agg (RA x)
                | 10 => v = .slice (some ⟨g1, 0, none⟩) m m
                | 11 => v = .int .i64 (((i : Nat) : Int))
                | 12 => v = .pointer (some ⟨g1, 0 + i * 16, none⟩)
                | 13 => v = .agg (RA x)
                | _ => v = .bool false) (by kernel_rfl) (by kernel_rfl) (fun q hq w v hv => ?_) (Below.refl _ _) (fun _ _ _ h k => h.trans (k.mono h.size)) (fun k' w1 w2 v h => match k' with
                | 0 => fun x => x
                | 1 => fun x => x
                | 2 => fun x => x
                | 3 => fun x => x
                | 4 => fun x => x
                | 5 => fun x => x
                | 6 => fun x => x
                | 7 => fun x => x
                | 8 => fun x => x
                | 9 => fun x => x
                | 10 => fun x => x
                | 11 => fun x => x
                | 12 => fun x => x
                | 13 => fun x => x
                | _ + 14 => fun x => x) (fun _ _ _ _ _ h => h) ?_ _ (by rfl) ?_
              · simp only [List.mem_cons, List.not_mem_nil, or_false] at hq
                rcases hq with rfl <;> exact hv
              · refine obs_cons (by rfl) (fun vals w' hgr hdep K hK => ?_) (obs_cons (by rfl) (fun vals w' hgr hdep K hK => ?_) (obs_cons (by rfl) (fun vals w' hgr hdep K hK => ?_) (obs_cons (by rfl) (fun vals w' hgr hdep K hK => ?_) (obs_cons (by rfl) (fun vals w' hgr hdep K hK => ?_) (obs_cons (by rfl) (fun vals w' hgr hdep K hK => ?_) (obs_cons (by rfl) (fun vals w' hgr hdep K hK => ?_) (obs_cons (by rfl) (fun vals w' hgr hdep K hK => ?_) (obs_cons (by rfl) (fun vals w' hgr hdep K hK => ?_) (obs_cons (by rfl) (fun vals w' hgr hdep K hK => ?_) (obs_cons (by rfl) (fun vals w' hgr hdep K hK => ?_) (obs_cons (by rfl) (fun vals w' hgr hdep K hK => ?_) (obs_cons (by rfl) (fun vals w' hgr hdep K hK => ?_) (obs_cons (by rfl) (fun vals w' hgr hdep K hK => ?_) (obs_cons (by rfl) (fun vals w' hgr hdep K hK => ?_) (obs_nil)))))))))))))))
                · exact wp_move (.tmp 13) rfl _ (at_out _ (by kernel_rfl) rfl) (hK _ _ (Below.refl _ _) rfl)
                · exact st_lenT Try.underlying41 (.tmp 100) rfl _ m m ((at_dst 0 (by kernel_rfl)).trans (hdep 0 (by simp) (by kernel_rfl))) (hK _ _ (Below.refl _ _) rfl)
                · exact wp_move (.tmp 9) rfl _ (at_out _ (by kernel_rfl) rfl) (hK _ _ (Below.refl _ _) rfl)
                · exact st_lenT Try.underlying41 (.tmp 102) rfl _ m m ((at_dst 2 (by kernel_rfl)).trans (hdep 2 (by simp) (by kernel_rfl))) (hK _ _ (Below.refl _ _) rfl)
                · exact wp_bin (.tmp 101) (.tmp 103) rfl _ _ _ ((at_dst 1 (by kernel_rfl)).trans (hdep 1 (by simp) (by kernel_rfl))) ((at_dst 3 (by kernel_rfl)).trans (hdep 3 (by simp) (by kernel_rfl))) (b_neqi _ _ _ (by rw [bne_eq_false_iff_eq]) _ _ _) (hK _ _ (Below.refl _ _) rfl)
                · exact wp_move (.tmp 104) rfl _ ((at_dst 4 (by kernel_rfl)).trans (hdep 4 (by simp) (by kernel_rfl))) (hK _ _ (Below.refl _ _) rfl)
                · exact wp_move (.tmp 13) rfl _ (at_out _ (by kernel_rfl) rfl) (hK _ _ (Below.refl _ _) rfl)
                · exact wp_move (.tmp 14) rfl _ (at_out _ (by kernel_rfl) rfl) (hK _ _ (Below.refl _ _) rfl)
                · exact Part.st_elem_at (.tmp 106) (.tmp 107) rfl Try.underlying41 (by kernel_rfl) g3 0 m m i ((at_dst 6 (by kernel_rfl)).trans (hdep 6 (by simp) (by kernel_rfl))) ((at_dst 7 (by kernel_rfl)).trans (hdep 7 (by simp) (by kernel_rfl))) LT.out (hK _ _ (Below.refl _ _) rfl)
                · exact Part.st_load_part 35 (.tmp 108) rfl g3 (0 + i * 16) [.int .i64 x.x0, .string x.x1, .string x.x2, .string x.x3, .string x.x4, .int .i64 x.x5, .int .i64 x.x6, .int .i64 x.x7, .int .i64 x.x8, .int .i64 x.x9, .bool x.x10, .bool x.x11, .int .i64 x.x12, .bool x.x13, .string x.x14, .string x.x15] ((at_dst 8 (by kernel_rfl)).trans (hdep 8 (by simp) (by kernel_rfl))) (Part.run_part _ _ _ _ _ _ Try.underlying35 rfl (by kernel_rfl) (XM.out w' hgr)) (hK _ _ (Below.refl _ _) rfl)
                · exact wp_move (.tmp 9) rfl _ (at_out _ (by kernel_rfl) rfl) (hK _ _ (Below.refl _ _) rfl)
                · exact wp_move (.tmp 14) rfl _ (at_out _ (by kernel_rfl) rfl) (hK _ _ (Below.refl _ _) rfl)
                · exact Part.st_elem_at (.tmp 110) (.tmp 111) rfl Try.underlying41 (by kernel_rfl) g1 0 m m i ((at_dst 10 (by kernel_rfl)).trans (hdep 10 (by simp) (by kernel_rfl))) ((at_dst 11 (by kernel_rfl)).trans (hdep 11 (by simp) (by kernel_rfl))) LT.out (hK _ _ (Below.refl _ _) rfl)
                · exact Part.st_load_part 35 (.tmp 112) rfl g1 (0 + i * 16) [.int .i64 x.x0, .string x.x1, .string x.x2, .string x.x3, .string x.x4, .int .i64 x.x5, .int .i64 x.x6, .int .i64 x.x7, .int .i64 x.x8, .int .i64 x.x9, .bool x.x10, .bool x.x11, .int .i64 x.x12, .bool x.x13, .string x.x14, .string x.x15] ((at_dst 12 (by kernel_rfl)).trans (hdep 12 (by simp) (by kernel_rfl))) (Part.run_part _ _ _ _ _ _ Try.underlying35 rfl (by kernel_rfl) (XL.out w' hgr)) (hK _ _ (Below.refl _ _) rfl)
                · exact wp_bin (.tmp 109) (.tmp 113) rfl _ _ _ ((at_dst 9 (by kernel_rfl)).trans (hdep 9 (by simp) (by kernel_rfl))) ((at_dst 13 (by kernel_rfl)).trans (hdep 13 (by simp) (by kernel_rfl))) (neq_same x _ _ _) (hK _ _ (Below.refl _ _) rfl)
              · intro vals w' hgr hG
                refine st_pickF (.tmp 105) (.const (.bool true)) (.tmp 114) rfl _ ((at_dst 5 (by kernel_rfl)).trans (hG 5 (by simp))) ((at_dst 14 (by kernel_rfl)).trans (hG 14 (by simp))) (wpAnyH_done (by kernel_rfl) ?_ _)
                have HN := Lib.hid (HB.out.trans ((Draw.below_1 hgr).mono HB.out.size))
                clear hG hgr XL XM HB
                simp only [fill, dstAt, List.getElem?_cons_zero, List.getElem?_cons_succ, Option.bind_some, Act.put, List.setIfInBounds_toArray, List.set_cons_zero, List.set_cons_succ]
                generalize vals 0 = y0, vals 1 = y1, vals 2 = y2, vals 3 = y3, vals 4 = y4, vals 5 = y5, vals 6 = y6, vals 7 = y7, vals 8 = y8, vals 9 = y9, vals 10 = y10, vals 11 = y11, vals 12 = y12, vals 13 = y13, vals 14 = y14 at *
                generalize w' = wz at *
                have mb := JM.out.2
                have ml := LT.out
                go_wp2_with fail
                go_roundw
                case rel => exact ⟨i + 1, by go_num, by omega, HN⟩
                case measure => simp [intOf]; omega
            · go_wp2_with fail
              refine (awake_any _).mono ?_
              rintro e wb ⟨rfl, bb⟩
              have BE := Lib.hid ((KA.out.trans (Keep.of HB.out)).trans (Keep.of bb))
              clear bb
              go_wp2_with fail
              go_ret
              exact ⟨rfl, B2.out.trans (BE.out.below B2.out.size (fun k hk => FIN.out k (Nat.lt_of_lt_of_le hk B2.out.size)))⟩
      · have e1 := addL_len rs at_ r ez
        rw [e1] at h6
        have g1 : (addE rs at_ r != 0) = true := by rw [bne_iff_ne]; exact ez
        clear ez e1
        go_wp2_with fail
        refine (awake_any _).mono ?_
        rintro e w7 ⟨rfl, b7⟩
        have LC := Lib.hid (list_code _ gs rs w7 (h6.below b7))
        have K7 := Lib.hid (K6.out.trans (Keep.of b7))
        clear b7 h6
        rw [← ML.out] at LC
        go_wp2_with fail
        refine LC.out.mono ?_
        rintro e w8 ⟨⟨A2, rfl, -, -⟩, b8⟩
        have K8 := Lib.hid (K7.out.trans (Keep.of b8))
        clear b8 LC
        go_wp2_with fail
        go_ret
        exact ⟨rfl, B2.out.trans (K8.out.below B2.out.size (fun k hk => FIN.out k (Nat.lt_of_lt_of_le hk B2.out.size)))⟩
end Go.Proofs.Ytmomkjgnopcobaa.LawPlaces16
