/- SpdBehind's walk. -/
import Derived.Test.YtmomkjgnopcobaaLawBh0
set_option linter.unusedVariables false
namespace Go.Proofs.Ytmomkjgnopcobaa.LawBehind16
open Go.RowKit Go.Proofs.Ytmomkjgnopcobaa.Mem Go.Proofs.Ytmomkjgnopcobaa.Blk Go.Proofs.Ytmomkjgnopcobaa.Ahead Go.Proofs.Ytmomkjgnopcobaa.PickD Go.Proofs.Ytmomkjgnopcobaa.PickR1 Go.Proofs.Ytmomkjgnopcobaa.PickR2 Go.Proofs.Ytmomkjgnopcobaa.Pick1 Go.Proofs.Ytmomkjgnopcobaa.Pick2 Go.Proofs.Ytmomkjgnopcobaa.Pick3 Go.Proofs.Ytmomkjgnopcobaa.Pick4 Go.Proofs.Ytmomkjgnopcobaa.Free Go.Proofs.Ytmomkjgnopcobaa.Steps Go.Proofs.Ytmomkjgnopcobaa.Regs Go.Proofs.Ytmomkjgnopcobaa.ArgT Go.Proofs.Ytmomkjgnopcobaa.MapK Go.Proofs.Ytmomkjgnopcobaa.Quest Go.Proofs.Ytmomkjgnopcobaa.RowN Go.Proofs.Ytmomkjgnopcobaa.SpdD Go.Proofs.Ytmomkjgnopcobaa.Spd1 Go.Proofs.Ytmomkjgnopcobaa.Spd3 Go.Proofs.Ytmomkjgnopcobaa.Spd4 Go.Proofs.Ytmomkjgnopcobaa.Spd5 Go.Proofs.Ytmomkjgnopcobaa.Spd6 Go.Proofs.Ytmomkjgnopcobaa.Spd7 Go.Proofs.Ytmomkjgnopcobaa.Spd8 Go.Proofs.Ytmomkjgnopcobaa.SpdA Go.Proofs.Ytmomkjgnopcobaa.Com Go.Proofs.Ytmomkjgnopcobaa.LawL16 Go.Proofs.Ytmomkjgnopcobaa.Few16 Go.Proofs.Ytmomkjgnopcobaa.LawPl0 Go.Proofs.Ytmomkjgnopcobaa.LawBh0

set_option maxRecDepth 100000 in
set_option maxHeartbeats 16000000 in
theorem behind_any (A0 : Option Addr) (n0 c0 : Nat) (ops : List Op16R) (r : RuleR) (A2 : Option Addr) (n2 c2 : Nat) (fs : List FlowR) (w : World) (h : Op16Rows w A0 n0 ops) (hr : Ok r) (hf : FlowRows w A2 n2 fs) :
    Calls Try.prog 4 #[.slice A0 n0 c0, .agg (RA r), .slice A2 n2 c2] w fun e w' => e = .returned (.bool true) ∧ Below w.heap.size w w' := by
  have B0 := Lib.hid ((Below.refl w.heap.size w).alloc (Nat.le_refl _) (.cells (RA r) 35))
  have K0 := Lib.hid (Blk.new w 35 (RA r))
  have H0 := Lib.hid (ops_below h B0.out)
  have P0 := Lib.hid (flows_below hf B0.out)
  have F1 := Lib.hid (few_any A0 n0 c0 ops _ H0.out trivial)
  have HR := Lib.hid hr
  have hbs : ∀ W, (Instr.buildSlice 22 1 #[(0, .agg #[.int .i64 0, .int .i64 0, .int .i64 r.x0, .string r.x1, .string r.x2, .string r.x3, .string r.x4, .int .i64 r.x5, .int .i64 r.x6, .int .i64 r.x7, .int .i64 r.x8, .int .i64 r.x9, .bool r.x10, .bool r.x11, .int .i64 r.x12, .bool r.x13, .string r.x14, .string r.x15, .string ⟨#[]⟩, .string ⟨#[]⟩, .int .i64 0, .int .i64 0, .int .i64 0, .bool false])]).run Try.prog W = .ok (.slice (some ⟨W.heap.size, 0, none⟩) 1 1) (W.alloc (.cells #[.int .i64 0, .int .i64 0, .int .i64 r.x0, .string r.x1, .string r.x2, .string r.x3, .string r.x4, .int .i64 r.x5, .int .i64 r.x6, .int .i64 r.x7, .int .i64 r.x8, .int .i64 r.x9, .bool r.x10, .bool r.x11, .int .i64 r.x12, .bool r.x13, .string r.x14, .string r.x15, .string ⟨#[]⟩, .string ⟨#[]⟩, .int .i64 0, .int .i64 0, .int .i64 0, .bool false] 37)) := fun W => run_one_op W r
  clear h hr hf
  go_enter Try.func4, Try.ntmps4
  go_wp2_with fail
  refine F1.out.mono ?_
  rintro e w1 ⟨fb, rfl, hfb, hb⟩
  have B1 := Lib.hid (B0.out.trans (hb.mono B0.out.size))
  have K1 := Lib.hid (K0.out.below hb K0.out.lt)
  have H1 := Lib.hid (ops_below H0.out hb)
  have P1 := Lib.hid (flows_below P0.out hb)
  have FW := Lib.hid hfb
  clear hb hfb F1 B0 K0 H0 P0
  cases fb
  · go_wp2_with fail
    go_ret
    exact ⟨rfl, B1.out⟩
  have BZ := Lib.hid ((Below.refl w1.heap.size w1).alloc (Nat.le_refl _) (.cells #[.int .i64 0, .int .i64 0, .int .i64 r.x0, .string r.x1, .string r.x2, .string r.x3, .string r.x4, .int .i64 r.x5, .int .i64 r.x6, .int .i64 r.x7, .int .i64 r.x8, .int .i64 r.x9, .bool r.x10, .bool r.x11, .int .i64 r.x12, .bool r.x13, .string r.x14, .string r.x15, .string ⟨#[]⟩, .string ⟨#[]⟩, .int .i64 0, .int .i64 0, .int .i64 0, .bool false] 37))
  have F2 := Lib.hid (few_any _ 1 1 _ _ (one_op w1 r HR.out) trivial)
  go_wp2_with (refine Store.at_load 35 (.tmp 4) ?_ ?_; exact rfl; refine Loads.wpList_load_w rfl 35 (.tmp 4) rfl w.heap.size rfl 35 (RA r) (0, 0) _ (K1.out) Try.underlying35 rfl (by kernel_rfl) ?_)
  refine F2.out.mono ?_
  rintro e w2 ⟨fb, rfl, -, hb⟩
  have hb' := BZ.out.trans (hb.mono BZ.out.size)
  have B2 := Lib.hid (B1.out.trans (hb'.mono B1.out.size))
  have K2 := Lib.hid (K1.out.below hb' K1.out.lt)
  have H2 := Lib.hid (ops_below H1.out hb')
  have P2 := Lib.hid (flows_below P1.out hb')
  have N120 := Lib.hid (FW.out (by simp)).1
  clear hb hb' F2 BZ B1 K1 H1 P1 FW hbs
  cases fb
  · go_wp2_with fail
    go_ret
    exact ⟨rfl, B2.out⟩
  by_cases q30 : 30 < n2
  · have g30 : decide ((30 : Int) < (n2 : Int)) = true := decide_eq_true (by omega)
    have g30' : decide (30 < n2) = true := decide_eq_true q30
    clear q30
    go_wp2_with fail
    go_ret
    exact ⟨rfl, B2.out⟩
  have N30 := Lib.hid (show n2 ≤ 30 by omega)
  have g30 : decide ((30 : Int) < (n2 : Int)) = false := decide_eq_false (by omega)
  have g30' : decide (30 < n2) = false := decide_eq_false q30
  have NC := Lib.hid (new_code (fun k => k < w2.heap.size) w2 (fun k h => h))
  clear q30
  go_wp2_with fail
  clear g30 g30'
  refine NC.out.mono ?_
  rintro e w3 ⟨⟨gs, rfl, h3⟩, b3⟩
  obtain ⟨F, hFd⟩ : ∃ F : Nat → Prop, F = fun k => k < w2.heap.size := ⟨_, rfl⟩
  rw [← hFd] at h3
  have FIN : Hid (∀ k, k < w2.heap.size → F k) := Lib.hid (by rw [hFd]; exact fun k h => h)
  have FLT : Hid (∀ k, F k → k < w2.heap.size) := Lib.hid (by rw [hFd]; exact fun k h => h)
  have H3 := Lib.hid h3
  have K3 := Lib.hid (Keep.of (F := F) b3)
  clear hFd h3 b3 NC
  go_wp2_with fail
  go_loopw [8] (fun iv wr => ∃ (i : Nat) (rs : List RuleR), iv = .int .i64 (i : Int) ∧ i ≤ n0 ∧ Hid (SpdAt F wr gs rs) ∧ Hid (Keep F w2 wr)) (fun iv _ => n0 - (intOf iv).toNat)
  case atStart => exact ⟨0, [], rfl, by omega, H3, K3⟩
  case round =>
    clear H3 K3
    obtain ⟨i, rs, rfl, hi, HS, HK⟩ := hrel
    have HF : Hid (∀ k, F k → k < wr.heap.size) := Lib.hid fun k hk => Nat.lt_of_lt_of_le (FLT.out k hk) HK.out.size
    by_cases hlt : i < n0
    · obtain ⟨b, o, op, rfl, hbl, hop, hok, hcl⟩ := ops_at H2.out hlt
      have LT := Lib.hid hlt
      have OKR := Lib.hid (ruO_ok hok)
      have CL := Lib.hid (at_keep hcl hbl (FIN.out _ hbl) HK.out)
      have BL := Lib.hid (Nat.lt_of_lt_of_le hbl HK.out.size)
      have nb := N120.out
      clear hop hok hcl hbl
      go_wp2_with fail
      have XO : Hid (∀ V, Below wr.drew.heap.size wr.drew V → Part.At V b (o + i * 24) op.cells) := Lib.hid fun V hV => Part.At.below (show Part.At wr.drew b (o + i * 24) op.cells from CL.out) hV BL.out
      refine wp_region_free [0, 1, 2, 3, 4, 5, 6, 7, 8, 9, 10] 11 [] (fun w1 w2 => Below w1.heap.size w1 w2) (fun k' w' v => match k' with
        | 0 => v = .pointer (some ⟨gs, 0, none⟩)
        | 1 => v = .slice (some ⟨b, o, none⟩) n0 c0
        | 2 => v = .int .i64 (((i : Nat) : Int))
        | 3 => v = .pointer (some ⟨b, o + i * 24, none⟩)
        | 4 => v = .pointer (some ⟨b, o + i * 24 + 1, none⟩)
        | 5 => v = .int .i64 op.x1
        | 6 => v = .slice (some ⟨b, o, none⟩) n0 c0
        | 7 => v = .int .i64 (((i : Nat) : Int))
        | 8 => v = .pointer (some ⟨b, o + i * 24, none⟩)
        | 9 => v = .pointer (some ⟨b, o + i * 24 + 2, none⟩)
        | _ => v = .agg (RA (ruO op))) (by kernel_rfl) (by kernel_rfl) (Below.refl _ _) (fun _ _ _ h k => h.trans (k.mono h.size)) (fun k' w1 w2 v h => match k' with
        | 0 => fun x => x
        | 1 => fun x => x
        | 2 => fun x => x
        | 3 => fun x => x
        | 4 => fun x => x
        | 5 => fun x => x
        | 6 => fun x => x
        | 7 => fun x => x
        | 8 => fun x => x
        | 9 => fun x => x
        | _ + 10 => fun x => x) (fun _ _ _ _ _ h => h) ?_ _ (by rfl) ?_
      · refine obs_cons (by rfl) (fun vals w' hgr hdep K hK => ?_) (obs_cons (by rfl) (fun vals w' hgr hdep K hK => ?_) (obs_cons (by rfl) (fun vals w' hgr hdep K hK => ?_) (obs_cons (by rfl) (fun vals w' hgr hdep K hK => ?_) (obs_cons (by rfl) (fun vals w' hgr hdep K hK => ?_) (obs_cons (by rfl) (fun vals w' hgr hdep K hK => ?_) (obs_cons (by rfl) (fun vals w' hgr hdep K hK => ?_) (obs_cons (by rfl) (fun vals w' hgr hdep K hK => ?_) (obs_cons (by rfl) (fun vals w' hgr hdep K hK => ?_) (obs_cons (by rfl) (fun vals w' hgr hdep K hK => ?_) (obs_cons (by rfl) (fun vals w' hgr hdep K hK => ?_) (obs_nil)))))))))))
        · exact wp_move (.tmp 7) rfl _ (at_out _ (by kernel_rfl) rfl) (hK _ _ (Below.refl _ _) rfl)
        · exact wp_move (.tmp 0) rfl _ (at_out _ (by kernel_rfl) rfl) (hK _ _ (Below.refl _ _) rfl)
        · exact wp_move (.tmp 8) rfl _ (at_out _ (by kernel_rfl) rfl) (hK _ _ (Below.refl _ _) rfl)
        · exact Part.st_elem_at (.tmp 46) (.tmp 47) rfl Try.underlying22 (by kernel_rfl) b o n0 c0 i ((at_dst 1 (by kernel_rfl)).trans (hdep 1 (by simp) (by kernel_rfl))) ((at_dst 2 (by kernel_rfl)).trans (hdep 2 (by simp) (by kernel_rfl))) LT.out (hK _ _ (Below.refl _ _) rfl)
        · exact wp_field (.tmp 48) rfl _ (.pointer (some ⟨b, o + i * 24 + 1, none⟩)) ((at_dst 3 (by kernel_rfl)).trans (hdep 3 (by simp) (by kernel_rfl))) (by kernel_rfl) (hK _ _ (Below.refl _ _) rfl)
        · exact wp_load1 (.tmp 49) rfl ⟨b, o + i * 24 + 1, none⟩ ((at_dst 4 (by kernel_rfl)).trans (hdep 4 (by simp) (by kernel_rfl))) Try.underlying3 rfl _ (XO.out w' hgr 1 _ rfl) (hK _ _ (Below.refl _ _) rfl)
        · exact wp_move (.tmp 0) rfl _ (at_out _ (by kernel_rfl) rfl) (hK _ _ (Below.refl _ _) rfl)
        · exact wp_move (.tmp 8) rfl _ (at_out _ (by kernel_rfl) rfl) (hK _ _ (Below.refl _ _) rfl)
        · exact Part.st_elem_at (.tmp 51) (.tmp 52) rfl Try.underlying22 (by kernel_rfl) b o n0 c0 i ((at_dst 6 (by kernel_rfl)).trans (hdep 6 (by simp) (by kernel_rfl))) ((at_dst 7 (by kernel_rfl)).trans (hdep 7 (by simp) (by kernel_rfl))) LT.out (hK _ _ (Below.refl _ _) rfl)
        · exact wp_field (.tmp 53) rfl _ (.pointer (some ⟨b, o + i * 24 + 2, none⟩)) ((at_dst 8 (by kernel_rfl)).trans (hdep 8 (by simp) (by kernel_rfl))) (by kernel_rfl) (hK _ _ (Below.refl _ _) rfl)
        · exact Part.st_load_part 35 (.tmp 54) rfl b (o + i * 24 + 2) [.int .i64 op.x2, .string op.x3, .string op.x4, .string op.x5, .string op.x6, .int .i64 op.x7, .int .i64 op.x8, .int .i64 op.x9, .int .i64 op.x10, .int .i64 op.x11, .bool op.x12, .bool op.x13, .int .i64 op.x14, .bool op.x15, .string op.x16, .string op.x17] ((at_dst 9 (by kernel_rfl)).trans (hdep 9 (by simp) (by kernel_rfl))) (Part.run_part _ _ _ _ _ _ Try.underlying35 rfl (by kernel_rfl) ((XO.out w' hgr).sub 2 16)) (hK _ _ (Below.refl _ _) rfl)
      · intro vals w' hgr hG
        refine wp_call 10 [.tmp 45, .tmp 50, .tmp 55] _ rfl ent_add [.pointer (some ⟨gs, 0, none⟩), .int .i64 op.x1, .agg (RA (ruO op))] (Spd7.list3 ((at_dst 0 (by kernel_rfl)).trans (hG 0 (by simp))) ((at_dst 5 (by kernel_rfl)).trans (hG 5 (by simp))) ((at_dst 10 (by kernel_rfl)).trans (hG 10 (by simp)))) (fun v w3 => (∃ k, v = .int .i64 k) ∧ SpdAt F w3 gs (addL rs op.x1 (ruO op)) ∧ Keep F w' w3) ((add_code F gs rs op.x1 (ruO op) w' (HS.out.below (Draw.below_1 hgr)) (fun k hk => Nat.lt_of_lt_of_le (HF.out k hk) (Draw.below_1 hgr).size) OKR.out).mono fun e w3 ⟨h1, h2, h3⟩ => ⟨_, h1, ⟨_, rfl⟩, h2, h3⟩) ?_
        rintro v w3 ⟨⟨k, rfl⟩, h3, k3⟩
        refine wpAnyH_done (by kernel_rfl) ?_ _
        have HS3 := Lib.hid h3
        have HK3 := Lib.hid (HK.out.trans ((Keep.of (F := F) (Draw.below_1 hgr)).trans k3))
        clear hG hgr h3 k3 XO HS HK
        simp only [fill, dstAt, List.getElem?_cons_zero, List.getElem?_cons_succ, Option.bind_some, Act.put, List.setIfInBounds_toArray, List.set_cons_zero, List.set_cons_succ]
        generalize vals 0 = u0, vals 1 = u1, vals 2 = u2, vals 3 = u3, vals 4 = u4, vals 5 = u5, vals 6 = u6, vals 7 = u7, vals 8 = u8, vals 9 = u9, vals 10 = u10 at *
        go_wp2_with fail
        go_roundw
        case rel => exact ⟨i + 1, _, by go_num, by omega, HS3, HK3⟩
        case measure => simp [intOf]; omega
    · have LC := Lib.hid (list_code F gs rs wr HS.out)
      go_wp2_with fail
      refine LC.out.mono ?_
      rintro e w5 ⟨⟨A1, rfl, l1, o1⟩, b5⟩
      have M64 := Lib.hid HS.out.few
      have RKO := Lib.hid HS.out.ok
      obtain ⟨G, hG⟩ : ∃ G, G = Fu F wr.heap.size w5.heap.size := ⟨_, rfl⟩
      have S5 : Hid (SpdAt G w5 gs rs) := Lib.hid (by rw [hG]; exact wide HS.out b5)
      have L5 := Lib.hid l1
      have OW1 : Hid (∀ k, own A1 k → G k) := Lib.hid (by rw [hG]; exact list_in l1 o1)
      have GLT : Hid (∀ k, G k → k < w5.heap.size) := Lib.hid (by rw [hG]; exact fu_lt HF.out b5.size)
      have GIN : Hid (∀ k, k < w2.heap.size → G k) := Lib.hid (by rw [hG]; exact fun k hk => .inl (FIN.out k hk))
      have GSm : Hid (∀ k, G k → k < w2.heap.size → F k) := Lib.hid (fun k _ hk => FIN.out k hk)
      have K5w : Hid (Keep G w2 w5) := Lib.hid ((HK.out.trans (Keep.of b5)).mono fun k hg hk => FIN.out k hk)
      obtain ⟨m, hm⟩ : ∃ m, m = rs.length := ⟨_, rfl⟩
      have ML := Lib.hid hm
      rw [← hm] at M64 ⊢
      clear l1 o1 b5 LC HS HK HF hm hG hlt hi
      go_wp2_with fail
      go_loopw [10, 11] (fun av iv wr => ∃ (i : Nat) (Aa : Option Addr) (ca : Nat) (Fi : Nat → Prop), iv = .int .i64 (i : Int) ∧ av = .slice Aa i ca ∧ i ≤ n2 ∧ Hid (SpdAt Fi wr gs rs) ∧ Hid (RowAt 3 1 wr Aa i ca (vals rs fs i)) ∧ Hid ((∀ k, own Aa k → Fi k) ∧ (∀ k, G k → Fi k) ∧ ∀ k, Fi k → k < wr.heap.size) ∧ Hid (Keep G w5 wr) ∧ Hid (∀ k, own Aa k → ¬ G k)) (fun _ iv _ => n2 - (intOf iv).toNat)
      case atStart => exact ⟨0, none, 0, G, rfl, rfl, by omega, S5, Lib.hid (RowAt.nil _ _ _), Lib.hid ⟨fun k hk => by (obtain ⟨a, ha, _⟩ := hk; cases ha), fun k hk => hk, GLT.out⟩, Lib.hid (Keep.refl _ _), Lib.hid fun k hk => by (obtain ⟨a, ha, _⟩ := hk; cases ha)⟩
      case round =>
        clear S5
        obtain ⟨i, Aa, ca, Fi, rfl, rfl, hi, HS, HA, HW, HK, HD⟩ := hrel
        by_cases hlt : i < n2
        · obtain ⟨b2, o2, f, rfl, hbl, hf, hok, hcl⟩ := flows_at P2.out hlt
          have LT := Lib.hid hlt
          have HF := Lib.hid hf
          have FOK : Hid ((quF f).here.size ≤ maxT ∧ (quF f).there.size ≤ maxT) := Lib.hid ⟨by have := hok.1; show f.x0.size ≤ _; unfold maxT; omega, by have := hok.2; show f.x1.size ≤ _; unfold maxT; omega⟩
          have fz := hok
          have nb := N30.out
          have CL := Lib.hid (at_keep (at_keep hcl hbl (GIN.out _ hbl) K5w.out) (Nat.lt_of_lt_of_le hbl K5w.out.size) (GIN.out _ hbl) HK.out)
          have BL := Lib.hid (Nat.lt_of_lt_of_le (Nat.lt_of_lt_of_le hbl K5w.out.size) HK.out.size)
          clear hf hok hcl hbl
          obtain ⟨fz0, fz1⟩ := fz
          have XF : Hid (∀ V, Below wr.drew.heap.size wr.drew V → Part.At V b2 (o2 + i * 5) f.cells) := Lib.hid fun V hV => Part.At.below (show Part.At wr.drew b2 (o2 + i * 5) f.cells from CL.out) hV BL.out
          go_wp2_with fail
          by_cases q3 : 300 < f.x0.size + f.x1.size
          · refine wp_region_free [0, 1, 2, 3, 4, 5, 6, 7, 8, 9, 10, 11, 12] 13 [] (fun w1 w2 => Below w1.heap.size w1 w2) (fun k' w' v => match k' with
              | 0 => v = .slice (some ⟨b2, o2, none⟩) n2 c2
              | 1 => v = .int .i64 (((i : Nat) : Int))
              | 2 => v = .pointer (some ⟨b2, o2 + i * 5, none⟩)
              | 3 => v = .pointer (some ⟨b2, o2 + i * 5, none⟩)
              | 4 => v = .string f.x0
              | 5 => v = .int .i64 ((f.x0.size : Int))
              | 6 => v = .slice (some ⟨b2, o2, none⟩) n2 c2
              | 7 => v = .int .i64 (((i : Nat) : Int))
              | 8 => v = .pointer (some ⟨b2, o2 + i * 5, none⟩)
              | 9 => v = .pointer (some ⟨b2, o2 + i * 5 + 1, none⟩)
              | 10 => v = .string f.x1
              | 11 => v = .int .i64 ((f.x1.size : Int))
              | _ => v = .int .i64 ((f.x0.size : Int) + (f.x1.size : Int))) (by kernel_rfl) (by kernel_rfl) (Below.refl _ _) (fun _ _ _ h k => h.trans (k.mono h.size)) (fun k' w1 w2 v h => match k' with
              | 0 => fun x => x
              | 1 => fun x => x
              | 2 => fun x => x
              | 3 => fun x => x
              | 4 => fun x => x
              | 5 => fun x => x
              | 6 => fun x => x
              | 7 => fun x => x
              | 8 => fun x => x
              | 9 => fun x => x
              | 10 => fun x => x
              | 11 => fun x => x
              | _ + 12 => fun x => x) (fun _ _ _ _ _ h => h) ?_ _ (by rfl) ?_
            · refine obs_cons (by rfl) (fun vals w' hgr hdep K hK => ?_) (obs_cons (by rfl) (fun vals w' hgr hdep K hK => ?_) (obs_cons (by rfl) (fun vals w' hgr hdep K hK => ?_) (obs_cons (by rfl) (fun vals w' hgr hdep K hK => ?_) (obs_cons (by rfl) (fun vals w' hgr hdep K hK => ?_) (obs_cons (by rfl) (fun vals w' hgr hdep K hK => ?_) (obs_cons (by rfl) (fun vals w' hgr hdep K hK => ?_) (obs_cons (by rfl) (fun vals w' hgr hdep K hK => ?_) (obs_cons (by rfl) (fun vals w' hgr hdep K hK => ?_) (obs_cons (by rfl) (fun vals w' hgr hdep K hK => ?_) (obs_cons (by rfl) (fun vals w' hgr hdep K hK => ?_) (obs_cons (by rfl) (fun vals w' hgr hdep K hK => ?_) (obs_cons (by rfl) (fun vals w' hgr hdep K hK => ?_) (obs_nil)))))))))))))
              · exact wp_move (.tmp 2) rfl _ (at_out _ (by kernel_rfl) rfl) (hK _ _ (Below.refl _ _) rfl)
              · exact wp_move (.tmp 11) rfl _ (at_out _ (by kernel_rfl) rfl) (hK _ _ (Below.refl _ _) rfl)
              · exact Part.st_elem_at (.tmp 65) (.tmp 66) rfl Try.underlying48 (by kernel_rfl) b2 o2 n2 c2 i ((at_dst 0 (by kernel_rfl)).trans (hdep 0 (by simp) (by kernel_rfl))) ((at_dst 1 (by kernel_rfl)).trans (hdep 1 (by simp) (by kernel_rfl))) LT.out (hK _ _ (Below.refl _ _) rfl)
              · exact wp_field (.tmp 67) rfl _ (.pointer (some ⟨b2, o2 + i * 5, none⟩)) ((at_dst 2 (by kernel_rfl)).trans (hdep 2 (by simp) (by kernel_rfl))) (by kernel_rfl) (hK _ _ (Below.refl _ _) rfl)
              · exact wp_load1 (.tmp 68) rfl ⟨b2, o2 + i * 5, none⟩ ((at_dst 3 (by kernel_rfl)).trans (hdep 3 (by simp) (by kernel_rfl))) Try.underlying9 rfl _ (XF.out w' hgr 0 _ rfl) (hK _ _ (Below.refl _ _) rfl)
              · exact Regs.st_len (.tmp 69) rfl f.x0 ((at_dst 4 (by kernel_rfl)).trans (hdep 4 (by simp) (by kernel_rfl))) (hK _ _ (Below.refl _ _) rfl)
              · exact wp_move (.tmp 2) rfl _ (at_out _ (by kernel_rfl) rfl) (hK _ _ (Below.refl _ _) rfl)
              · exact wp_move (.tmp 11) rfl _ (at_out _ (by kernel_rfl) rfl) (hK _ _ (Below.refl _ _) rfl)
              · exact Part.st_elem_at (.tmp 71) (.tmp 72) rfl Try.underlying48 (by kernel_rfl) b2 o2 n2 c2 i ((at_dst 6 (by kernel_rfl)).trans (hdep 6 (by simp) (by kernel_rfl))) ((at_dst 7 (by kernel_rfl)).trans (hdep 7 (by simp) (by kernel_rfl))) LT.out (hK _ _ (Below.refl _ _) rfl)
              · exact wp_field (.tmp 73) rfl _ (.pointer (some ⟨b2, o2 + i * 5 + 1, none⟩)) ((at_dst 8 (by kernel_rfl)).trans (hdep 8 (by simp) (by kernel_rfl))) (by kernel_rfl) (hK _ _ (Below.refl _ _) rfl)
              · exact wp_load1 (.tmp 74) rfl ⟨b2, o2 + i * 5 + 1, none⟩ ((at_dst 9 (by kernel_rfl)).trans (hdep 9 (by simp) (by kernel_rfl))) Try.underlying9 rfl _ (XF.out w' hgr 1 _ rfl) (hK _ _ (Below.refl _ _) rfl)
              · exact Regs.st_len (.tmp 75) rfl f.x1 ((at_dst 10 (by kernel_rfl)).trans (hdep 10 (by simp) (by kernel_rfl))) (hK _ _ (Below.refl _ _) rfl)
              · exact wp_bin (.tmp 70) (.tmp 76) rfl _ _ _ ((at_dst 5 (by kernel_rfl)).trans (hdep 5 (by simp) (by kernel_rfl))) ((at_dst 11 (by kernel_rfl)).trans (hdep 11 (by simp) (by kernel_rfl))) (Regs.b_add _ _ _ _ _ (by omega) (by omega)) (hK _ _ (Below.refl _ _) rfl)
            · intro vals w' hgr hG
              refine wp_bin (.tmp 77) (.const (.int .i64 300)) rfl _ _ _ ((at_dst 12 (by kernel_rfl)).trans (hG 12 (by simp))) rfl (b_gtri _ _ true (decide_eq_true (by omega)) _ _ _) (wpAnyH_done (by kernel_rfl) ?_ _)
              have HS2 := Lib.hid (HS.out.below (Draw.below_1 hgr))
              have HA2 := Lib.hid (HA.out.below (Draw.below_1 hgr))
              have HW2 : Hid ((∀ k, own Aa k → Fi k) ∧ (∀ k, G k → Fi k) ∧ ∀ k, Fi k → k < w'.heap.size) := Lib.hid ⟨HW.out.1, HW.out.2.1, fun k hk => Nat.lt_of_lt_of_le (HW.out.2.2 k hk) (Draw.below_1 hgr).size⟩
              have HK2 := Lib.hid (HK.out.trans (Keep.of (Draw.below_1 hgr)))
              have CLF := Lib.hid (CL.out.below (Draw.below_1 hgr) BL.out)
              clear hG hgr XF HS HA HW HK CL
              simp only [fill, dstAt, List.getElem?_cons_zero, List.getElem?_cons_succ, Option.bind_some, Act.put, List.setIfInBounds_toArray, List.set_cons_zero, List.set_cons_succ]
              generalize vals 0 = u0, vals 1 = u1, vals 2 = u2, vals 3 = u3, vals 4 = u4, vals 5 = u5, vals 6 = u6, vals 7 = u7, vals 8 = u8, vals 9 = u9, vals 10 = u10, vals 11 = u11, vals 12 = u12 at *
              generalize w' = wa at *
              go_wp2_with fail
              go_ret
              exact ⟨rfl, B2.out.trans ((K5w.out.trans HK2.out).below B2.out.size (fun k hk => GIN.out k (Nat.lt_of_lt_of_le hk B2.out.size)))⟩
          · refine wp_region_free [0, 1, 2, 3, 4, 5, 6, 7, 8, 9, 10, 11, 12] 13 [] (fun w1 w2 => Below w1.heap.size w1 w2) (fun k' w' v => match k' with
              | 0 => v = .slice (some ⟨b2, o2, none⟩) n2 c2
              | 1 => v = .int .i64 (((i : Nat) : Int))
              | 2 => v = .pointer (some ⟨b2, o2 + i * 5, none⟩)
              | 3 => v = .pointer (some ⟨b2, o2 + i * 5, none⟩)
              | 4 => v = .string f.x0
              | 5 => v = .int .i64 ((f.x0.size : Int))
              | 6 => v = .slice (some ⟨b2, o2, none⟩) n2 c2
              | 7 => v = .int .i64 (((i : Nat) : Int))
              | 8 => v = .pointer (some ⟨b2, o2 + i * 5, none⟩)
              | 9 => v = .pointer (some ⟨b2, o2 + i * 5 + 1, none⟩)
              | 10 => v = .string f.x1
              | 11 => v = .int .i64 ((f.x1.size : Int))
              | _ => v = .int .i64 ((f.x0.size : Int) + (f.x1.size : Int))) (by kernel_rfl) (by kernel_rfl) (Below.refl _ _) (fun _ _ _ h k => h.trans (k.mono h.size)) (fun k' w1 w2 v h => match k' with
              | 0 => fun x => x
              | 1 => fun x => x
              | 2 => fun x => x
              | 3 => fun x => x
              | 4 => fun x => x
              | 5 => fun x => x
              | 6 => fun x => x
              | 7 => fun x => x
              | 8 => fun x => x
              | 9 => fun x => x
              | 10 => fun x => x
              | 11 => fun x => x
              | _ + 12 => fun x => x) (fun _ _ _ _ _ h => h) ?_ _ (by rfl) ?_
            · refine obs_cons (by rfl) (fun vals w' hgr hdep K hK => ?_) (obs_cons (by rfl) (fun vals w' hgr hdep K hK => ?_) (obs_cons (by rfl) (fun vals w' hgr hdep K hK => ?_) (obs_cons (by rfl) (fun vals w' hgr hdep K hK => ?_) (obs_cons (by rfl) (fun vals w' hgr hdep K hK => ?_) (obs_cons (by rfl) (fun vals w' hgr hdep K hK => ?_) (obs_cons (by rfl) (fun vals w' hgr hdep K hK => ?_) (obs_cons (by rfl) (fun vals w' hgr hdep K hK => ?_) (obs_cons (by rfl) (fun vals w' hgr hdep K hK => ?_) (obs_cons (by rfl) (fun vals w' hgr hdep K hK => ?_) (obs_cons (by rfl) (fun vals w' hgr hdep K hK => ?_) (obs_cons (by rfl) (fun vals w' hgr hdep K hK => ?_) (obs_cons (by rfl) (fun vals w' hgr hdep K hK => ?_) (obs_nil)))))))))))))
              · exact wp_move (.tmp 2) rfl _ (at_out _ (by kernel_rfl) rfl) (hK _ _ (Below.refl _ _) rfl)
              · exact wp_move (.tmp 11) rfl _ (at_out _ (by kernel_rfl) rfl) (hK _ _ (Below.refl _ _) rfl)
              · exact Part.st_elem_at (.tmp 65) (.tmp 66) rfl Try.underlying48 (by kernel_rfl) b2 o2 n2 c2 i ((at_dst 0 (by kernel_rfl)).trans (hdep 0 (by simp) (by kernel_rfl))) ((at_dst 1 (by kernel_rfl)).trans (hdep 1 (by simp) (by kernel_rfl))) LT.out (hK _ _ (Below.refl _ _) rfl)
              · exact wp_field (.tmp 67) rfl _ (.pointer (some ⟨b2, o2 + i * 5, none⟩)) ((at_dst 2 (by kernel_rfl)).trans (hdep 2 (by simp) (by kernel_rfl))) (by kernel_rfl) (hK _ _ (Below.refl _ _) rfl)
              · exact wp_load1 (.tmp 68) rfl ⟨b2, o2 + i * 5, none⟩ ((at_dst 3 (by kernel_rfl)).trans (hdep 3 (by simp) (by kernel_rfl))) Try.underlying9 rfl _ (XF.out w' hgr 0 _ rfl) (hK _ _ (Below.refl _ _) rfl)
              · exact Regs.st_len (.tmp 69) rfl f.x0 ((at_dst 4 (by kernel_rfl)).trans (hdep 4 (by simp) (by kernel_rfl))) (hK _ _ (Below.refl _ _) rfl)
              · exact wp_move (.tmp 2) rfl _ (at_out _ (by kernel_rfl) rfl) (hK _ _ (Below.refl _ _) rfl)
              · exact wp_move (.tmp 11) rfl _ (at_out _ (by kernel_rfl) rfl) (hK _ _ (Below.refl _ _) rfl)
              · exact Part.st_elem_at (.tmp 71) (.tmp 72) rfl Try.underlying48 (by kernel_rfl) b2 o2 n2 c2 i ((at_dst 6 (by kernel_rfl)).trans (hdep 6 (by simp) (by kernel_rfl))) ((at_dst 7 (by kernel_rfl)).trans (hdep 7 (by simp) (by kernel_rfl))) LT.out (hK _ _ (Below.refl _ _) rfl)
              · exact wp_field (.tmp 73) rfl _ (.pointer (some ⟨b2, o2 + i * 5 + 1, none⟩)) ((at_dst 8 (by kernel_rfl)).trans (hdep 8 (by simp) (by kernel_rfl))) (by kernel_rfl) (hK _ _ (Below.refl _ _) rfl)
              · exact wp_load1 (.tmp 74) rfl ⟨b2, o2 + i * 5 + 1, none⟩ ((at_dst 9 (by kernel_rfl)).trans (hdep 9 (by simp) (by kernel_rfl))) Try.underlying9 rfl _ (XF.out w' hgr 1 _ rfl) (hK _ _ (Below.refl _ _) rfl)
              · exact Regs.st_len (.tmp 75) rfl f.x1 ((at_dst 10 (by kernel_rfl)).trans (hdep 10 (by simp) (by kernel_rfl))) (hK _ _ (Below.refl _ _) rfl)
              · exact wp_bin (.tmp 70) (.tmp 76) rfl _ _ _ ((at_dst 5 (by kernel_rfl)).trans (hdep 5 (by simp) (by kernel_rfl))) ((at_dst 11 (by kernel_rfl)).trans (hdep 11 (by simp) (by kernel_rfl))) (Regs.b_add _ _ _ _ _ (by omega) (by omega)) (hK _ _ (Below.refl _ _) rfl)
            · intro vals w' hgr hG
              refine wp_bin (.tmp 77) (.const (.int .i64 300)) rfl _ _ _ ((at_dst 12 (by kernel_rfl)).trans (hG 12 (by simp))) rfl (b_gtri _ _ false (decide_eq_false (by omega)) _ _ _) (wpAnyH_done (by kernel_rfl) ?_ _)
              have HS2 := Lib.hid (HS.out.below (Draw.below_1 hgr))
              have HA2 := Lib.hid (HA.out.below (Draw.below_1 hgr))
              have HW2 : Hid ((∀ k, own Aa k → Fi k) ∧ (∀ k, G k → Fi k) ∧ ∀ k, Fi k → k < w'.heap.size) := Lib.hid ⟨HW.out.1, HW.out.2.1, fun k hk => Nat.lt_of_lt_of_le (HW.out.2.2 k hk) (Draw.below_1 hgr).size⟩
              have HK2 := Lib.hid (HK.out.trans (Keep.of (Draw.below_1 hgr)))
              have CLF := Lib.hid (CL.out.below (Draw.below_1 hgr) BL.out)
              clear hG hgr XF HS HA HW HK CL
              simp only [fill, dstAt, List.getElem?_cons_zero, List.getElem?_cons_succ, Option.bind_some, Act.put, List.setIfInBounds_toArray, List.set_cons_zero, List.set_cons_succ]
              generalize vals 0 = u0, vals 1 = u1, vals 2 = u2, vals 3 = u3, vals 4 = u4, vals 5 = u5, vals 6 = u6, vals 7 = u7, vals 8 = u8, vals 9 = u9, vals 10 = u10, vals 11 = u11, vals 12 = u12 at *
              generalize w' = wa at *
              clear q3 fz0 fz1
              have FC := Lib.hid (find_code Fi gs rs (quF f) wa HS2.out (FOK.out.1) (FOK.out.2))
              go_wp2_with (refine Store.at_load 24 (.tmp 83) ?_ ?_; exact rfl; refine Part.wpList_load_part rfl 24 (.tmp 83) rfl b2 (o2 + i * 5) [.string f.x0, .string f.x1, .int .i64 f.x2, .int .i64 f.x3, .int .i64 f.x4] rfl (Part.run_part _ _ _ _ _ _ Try.underlying24 rfl (by kernel_rfl) CLF.out) ?_)
              refine FC.out.mono ?_
              rintro e w3 ⟨rfl, h3, k3⟩
              have HS3 := Lib.hid h3
              have HA3 := Lib.hid (HA2.out.keep fun k hk hl => k3.block k (HW2.out.1 k hk) hl)
              have SZ3 := Lib.hid k3.size
              have HK3 := Lib.hid (HK2.out.trans (k3.mono fun k hk _ => HW2.out.2.1 k hk))
              clear FC h3 k3 HS2 HA2 HK2 CLF
              rcases first_ge rs (quF f) with hv | ⟨j, hv, -⟩
              · have e1 : findI rs (quF f) = 0 := if_pos hv
                have e2 : findE rs (quF f) = 6 := if_pos hv
                rw [e1, e2]
                clear e1 e2
                have HV := Lib.hid hv
                clear hv
                have GF : Hid (∀ k, ¬ Fi k → ¬ own Aa k) := Lib.hid fun k h z => h (HW2.out.1 k z)
                obtain ⟨A', c', wn, hrun, hrow, hA', hkn⟩ := append_int (-1) HA3.out (by have := N30.out; have := LT.out; omega)
                have HSn := Lib.hid (SpdAt.keepW HS3.out hkn GF.out)
                have HAn : Hid (RowAt 3 1 wn A' (i + 1) c' (LawBh0.vals rs fs (i + 1))) := Lib.hid (by
                  have := vals_succ (rs := rs) HF.out
                  rw [HV.out] at this
                  rw [← this]
                  exact hrow)
                have HWn : Hid ((∀ k, own A' k → Fu Fi w3.heap.size wn.heap.size k) ∧ (∀ k, G k → Fu Fi w3.heap.size wn.heap.size k) ∧ ∀ k, Fu Fi w3.heap.size wn.heap.size k → k < wn.heap.size) := Lib.hid ⟨fun k hk => by
                  rcases hA' with e | ⟨k', e, hk'⟩
                  · rw [e] at hk
                    exact .inl (HW2.out.1 k hk)
                  · have hlt := hrow.lt hk
                    rw [e] at hk
                    obtain ⟨a, ha, hb⟩ := hk
                    cases ha
                    exact .inr ⟨by rw [← hb]; exact hk', hlt⟩, fun k hk => .inl (HW2.out.2.1 k hk), fu_lt (fun k hk => Nat.lt_of_lt_of_le (HW2.out.2.2 k hk) SZ3.out) hkn.size⟩
                have HDn : Hid (∀ k, own A' k → ¬ G k) := Lib.hid fun k hk hg => by
                  rcases hA' with e | ⟨k', e, hk'⟩
                  · rw [e] at hk
                    exact HD.out k hk hg
                  · rw [e] at hk
                    obtain ⟨a, ha, hb⟩ := hk
                    cases ha
                    have q1 := GLT.out k hg
                    have q2 := HK3.out.size
                    simp only at hb
                    omega
                have HKn := Lib.hid (HK3.out.trans (hkn.mono fun k hg _ z => HD.out k z hg))
                clear hrow hA' hkn HS3 HA3 HW2 HK3 GF
                go_wp2_with (at_builtin; refine Lib.wpList_append_run _ rfl _ _ _ _ rfl _ _ rfl rfl _ _ (hrun _) ?_)
                clear hrun
                have nb := N30.out
                have lt := LT.out
                go_wp2_with fail
                go_roundw
                case rel => exact ⟨i + 1, A', c', _, by go_num, rfl, by omega, HSn, HAn, HWn, HKn, HDn⟩
                case measure => simp [intOf]; omega
              · have e1 : findI rs (quF f) = (j : Int) := (if_neg (by rw [hv]; omega)).trans hv
                have e2 : findE rs (quF f) = 0 := if_neg (by rw [hv]; omega)
                rw [e1, e2]
                clear e1 e2
                have HV := Lib.hid hv
                clear hv
                have GF : Hid (∀ k, ¬ Fi k → ¬ own Aa k) := Lib.hid fun k h z => h (HW2.out.1 k z)
                obtain ⟨A', c', wn, hrun, hrow, hA', hkn⟩ := append_int ((j : Nat) : Int) HA3.out (by have := N30.out; have := LT.out; omega)
                have HSn := Lib.hid (SpdAt.keepW HS3.out hkn GF.out)
                have HAn : Hid (RowAt 3 1 wn A' (i + 1) c' (LawBh0.vals rs fs (i + 1))) := Lib.hid (by
                  have := vals_succ (rs := rs) HF.out
                  rw [HV.out] at this
                  rw [← this]
                  exact hrow)
                have HWn : Hid ((∀ k, own A' k → Fu Fi w3.heap.size wn.heap.size k) ∧ (∀ k, G k → Fu Fi w3.heap.size wn.heap.size k) ∧ ∀ k, Fu Fi w3.heap.size wn.heap.size k → k < wn.heap.size) := Lib.hid ⟨fun k hk => by
                  rcases hA' with e | ⟨k', e, hk'⟩
                  · rw [e] at hk
                    exact .inl (HW2.out.1 k hk)
                  · have hlt := hrow.lt hk
                    rw [e] at hk
                    obtain ⟨a, ha, hb⟩ := hk
                    cases ha
                    exact .inr ⟨by rw [← hb]; exact hk', hlt⟩, fun k hk => .inl (HW2.out.2.1 k hk), fu_lt (fun k hk => Nat.lt_of_lt_of_le (HW2.out.2.2 k hk) SZ3.out) hkn.size⟩
                have HDn : Hid (∀ k, own A' k → ¬ G k) := Lib.hid fun k hk hg => by
                  rcases hA' with e | ⟨k', e, hk'⟩
                  · rw [e] at hk
                    exact HD.out k hk hg
                  · rw [e] at hk
                    obtain ⟨a, ha, hb⟩ := hk
                    cases ha
                    have q1 := GLT.out k hg
                    have q2 := HK3.out.size
                    simp only at hb
                    omega
                have HKn := Lib.hid (HK3.out.trans (hkn.mono fun k hg _ z => HD.out k z hg))
                clear hrow hA' hkn HS3 HA3 HW2 HK3 GF
                go_wp2_with (at_builtin; refine Lib.wpList_append_run _ rfl _ _ _ _ rfl _ _ rfl rfl _ _ (hrun _) ?_)
                clear hrun
                have nb := N30.out
                have lt := LT.out
                go_wp2_with fail
                go_roundw
                case rel => exact ⟨i + 1, A', c', _, by go_num, rfl, by omega, HSn, HAn, HWn, HKn, HDn⟩
                case measure => simp [intOf]; omega
        · obtain rfl : n2 = i := by omega
          clear hlt hi
          have RW := Lib.hid (show Blk wr w.heap.size 35 (RA r) from (HK.out.block _ (GIN.out _ K2.out.lt |> fun z => z) (Nat.lt_of_lt_of_le K2.out.lt K5w.out.size)).trans ((K5w.out.block _ (GIN.out _ K2.out.lt) K2.out.lt).trans K2.out))
          have AC := Lib.hid (add_code Fi gs rs (m : Int) r wr HS.out HW.out.2.2 HR.out)
          go_wp2_with (refine Store.at_load 35 (.tmp 4) ?_ ?_; exact rfl; refine Loads.wpList_load_w rfl 35 (.tmp 4) rfl w.heap.size rfl 35 (RA r) (0, 0) _ (RW.out) Try.underlying35 rfl (by kernel_rfl) ?_)
          refine AC.out.mono ?_
          rintro e w8 ⟨rfl, h8, k8⟩
          obtain ⟨RS, hRS⟩ : ∃ RS, RS = addL rs (m : Int) r := ⟨_, rfl⟩
          rw [← hRS] at h8
          have S8 := Lib.hid h8
          have HA8 := Lib.hid (HA.out.keep (w' := w8) fun k hk hl => k8.block k (HW.out.1 k hk) hl)
          have KG8 := Lib.hid (K5w.out.trans (HK.out.trans (k8.mono fun k hk _ => HW.out.2.1 k hk)))
          have KG58 := Lib.hid (HK.out.trans (k8.mono fun k hk _ => HW.out.2.1 k hk))
          have HW8 : Hid ((∀ k, own Aa k → Fi k) ∧ (∀ k, G k → Fi k) ∧ ∀ k, Fi k → k < w8.heap.size) := Lib.hid ⟨HW.out.1, HW.out.2.1, fun k hk => Nat.lt_of_lt_of_le (HW.out.2.2 k hk) k8.size⟩
          obtain ⟨ee, hee⟩ : ∃ ee, ee = addE rs (m : Int) r := ⟨_, rfl⟩
          rw [← hee]
          have RSE : Hid ((ee = 0 → RS = rs ++ [r]) ∧ (ee ≠ 0 → RS = rs)) := Lib.hid ⟨fun h => by
            rw [hee] at h
            obtain ⟨i', e1, e2, e3, e4⟩ := addE_in h
            rw [hRS, e4]
            have : i' = rs.length := by rw [ML.out] at e1; omega
            subst this
            simp, fun h => by rw [hRS]; exact addL_len rs _ r (by rw [← hee]; exact h)⟩
          have BH : Hid (∀ q, (firstI rs q ≠ -1 → firstI RS q = firstI rs q) ∧ (firstI rs q = -1 → firstI RS q = -1 ∨ firstI RS q = (rs.length : Int))) := Lib.hid fun q => by
            by_cases h : ee = 0
            · rw [RSE.out.1 h]
              exact first_behind rs r q
            · rw [RSE.out.2 h]
              exact ⟨fun _ => rfl, fun z => .inl z⟩
          have L8g := L5
          clear h8 k8 hRS hee AC RW HS HA HW HK HD
          have HW := HW8
          go_wp2_with fail
          go_loopw [15] (fun iv wr => ∃ i : Nat, iv = .int .i64 (i : Int) ∧ i ≤ n2 ∧ Hid (SpdAt Fi wr gs RS) ∧ Hid (Keep Fi w8 wr)) (fun iv _ => n2 - (intOf iv).toNat)
          case atStart => exact ⟨0, rfl, by omega, S8, Lib.hid (Keep.refl _ _)⟩
          case round =>
            clear S8
            obtain ⟨i, rfl, hi, HS, HK⟩ := hrel
            by_cases hlt : i < n2
            · obtain ⟨b2, o2, f, rfl, hbl, hf, hok, hcl⟩ := flows_at P2.out hlt
              have LT := Lib.hid hlt
              have HF := Lib.hid hf
              have FOK : Hid ((quF f).here.size ≤ maxT ∧ (quF f).there.size ≤ maxT) := Lib.hid ⟨by have := hok.1; show f.x0.size ≤ _; unfold maxT; omega, by have := hok.2; show f.x1.size ≤ _; unfold maxT; omega⟩
              have fz := hok
              have nb := N30.out
              have CLF := Lib.hid (at_keep (at_keep hcl hbl (GIN.out _ hbl) KG8.out) (Nat.lt_of_lt_of_le hbl KG8.out.size) (HW.out.2.1 _ (GIN.out _ hbl)) HK.out)
              have FC := Lib.hid (find_code Fi gs RS (quF f) wr HS.out (FOK.out.1) (FOK.out.2))
              have HAr := Lib.hid (HA8.out.keep (w' := wr) fun k hk hl => HK.out.block k (HW.out.1 k hk) hl)
              obtain ⟨ba, Xa, rfl, -, -⟩ := HAr.out.some (by omega)
              clear hf hok hcl hbl fz
              go_wp2_with (refine Store.at_load 24 (.tmp 109) ?_ ?_; exact rfl; refine Part.wpList_load_part rfl 24 (.tmp 109) rfl b2 (o2 + i * 5) [.string f.x0, .string f.x1, .int .i64 f.x2, .int .i64 f.x3, .int .i64 f.x4] rfl (Part.run_part _ _ _ _ _ _ Try.underlying24 rfl (by kernel_rfl) CLF.out) ?_)
              refine FC.out.mono ?_
              rintro e wb ⟨rfl, hb, kb⟩
              have HSb := Lib.hid hb
              have HKb := Lib.hid (HK.out.trans kb)
              have HAb := Lib.hid (HAr.out.keep (w' := wb) fun k hk hl => kb.block k (HW.out.1 k hk) hl)
              have VA := Lib.hid (vals_at (rs := rs) hlt HF.out)
              have BHq := BH.out (quF f)
              clear FC hb kb HS HK HAr CLF nb hlt
              rcases first_ge rs (quF f) with hv | ⟨j, hv, -⟩
              · rcases BHq.2 hv with hu | hu
                · have e1 : findI RS (quF f) = 0 := if_pos hu
                  have e2 : findE RS (quF f) = 6 := if_pos hu
                  rw [e1, e2]
                  rw [hv] at VA
                  clear e1 e2 hu hv BHq
                  have cv : wb.cell? ⟨ba, i, none⟩ = some (.int .i64 (-1)) := HAb.out.cell rfl VA.out
                  clear HAb VA
                  have nb := N30.out
                  have lt := LT.out
                  go_wp2_with fail
                  go_roundw
                  case rel => exact ⟨i + 1, by go_num, by omega, HSb, HKb⟩
                  case measure => simp [intOf]; omega
                · have e1 : findI RS (quF f) = (m : Int) := (if_neg (by rw [hu]; omega)).trans (hu.trans (by rw [ML.out]))
                  have e2 : findE RS (quF f) = 0 := if_neg (by rw [hu]; omega)
                  rw [e1, e2]
                  rw [hv] at VA
                  clear e1 e2 hu hv BHq
                  have cv : wb.cell? ⟨ba, i, none⟩ = some (.int .i64 (-1)) := HAb.out.cell rfl VA.out
                  clear HAb VA
                  have nb := N30.out
                  have lt := LT.out
                  go_wp2_with fail
                  go_roundw
                  case rel => exact ⟨i + 1, by go_num, by omega, HSb, HKb⟩
                  case measure => simp [intOf]; omega
              · have hu := BHq.1 (by rw [hv]; omega)
                rw [hv] at hu
                have e1 : findI RS (quF f) = (j : Int) := (if_neg (by rw [hu]; omega)).trans hu
                have e2 : findE RS (quF f) = 0 := if_neg (by rw [hu]; omega)
                rw [e1, e2]
                rw [hv] at VA
                have gj : decide ((j : Int) < 0) = false := decide_eq_false (by omega)
                have gj2 : decide ((0 : Int) ≤ (j : Int)) = true := decide_eq_true (by omega)
                clear e1 e2 hu hv BHq
                have cv : wb.cell? ⟨ba, i, none⟩ = some (.int .i64 ((j : Nat) : Int)) := HAb.out.cell rfl VA.out
                clear HAb VA
                have nb := N30.out
                have lt := LT.out
                go_wp2_with fail
                go_roundw
                case rel => exact ⟨i + 1, by go_num, by omega, HSb, HKb⟩
                case measure => simp [intOf]; omega
            · have EX := Lib.hid hlt
              have S9 := HS
              have K9 := HK
              clear HS HK hlt
              by_cases ez : ee = 0
              · have RE := RSE.out.1 ez
                have RM := rem_add (rs := rs) (r := r) (Nat.le_refl rs.length)
                rw [List.take_length, List.drop_length, ← RE, ← ML.out] at RM
                have RC := Lib.hid (remove_code Fi gs RS (m : Int) wr S9.out (fun k hk => Nat.lt_of_lt_of_le (HW.out.2.2 k hk) K9.out.size))
                rw [RM.1, RM.2] at RC
                subst ez
                clear RE RM
                have ex := EX.out
                go_wp2_with fail
                refine RC.out.mono ?_
                rintro e wa ⟨rfl, ha, ka⟩
                have SA := Lib.hid ha
                have KA := Lib.hid (K9.out.trans ka)
                clear ha ka RC S9 K9 ex
                go_wp2_with fail
                go_loopw [18] (fun iv wr => ∃ i : Nat, iv = .int .i64 (i : Int) ∧ i ≤ n2 ∧ Hid (SpdAt Fi wr gs rs) ∧ Hid (Keep Fi w8 wr)) (fun iv _ => n2 - (intOf iv).toNat)
                case atStart => exact ⟨0, rfl, by omega, SA, KA⟩
                case round =>
                  clear SA KA
                  obtain ⟨i, rfl, hi, HS, HK⟩ := hrel
                  by_cases hlt : i < n2
                  · obtain ⟨b2, o2, f, rfl, hbl, hf, hok, hcl⟩ := flows_at P2.out hlt
                    have LT := Lib.hid hlt
                    have HF := Lib.hid hf
                    have FOK : Hid ((quF f).here.size ≤ maxT ∧ (quF f).there.size ≤ maxT) := Lib.hid ⟨by have := hok.1; show f.x0.size ≤ _; unfold maxT; omega, by have := hok.2; show f.x1.size ≤ _; unfold maxT; omega⟩
                    have fz := hok
                    have nb := N30.out
                    have CLF := Lib.hid (at_keep (at_keep hcl hbl (GIN.out _ hbl) KG8.out) (Nat.lt_of_lt_of_le hbl KG8.out.size) (HW.out.2.1 _ (GIN.out _ hbl)) HK.out)
                    have FC := Lib.hid (find_code Fi gs rs (quF f) wr HS.out (FOK.out.1) (FOK.out.2))
                    have HAr := Lib.hid (HA8.out.keep (w' := wr) fun k hk hl => HK.out.block k (HW.out.1 k hk) hl)
                    obtain ⟨ba, Xa, rfl, -, -⟩ := HAr.out.some (by omega)
                    clear hf hok hcl hbl fz
                    go_wp2_with (refine Store.at_load 24 (.tmp 167) ?_ ?_; exact rfl; refine Part.wpList_load_part rfl 24 (.tmp 167) rfl b2 (o2 + i * 5) [.string f.x0, .string f.x1, .int .i64 f.x2, .int .i64 f.x3, .int .i64 f.x4] rfl (Part.run_part _ _ _ _ _ _ Try.underlying24 rfl (by kernel_rfl) CLF.out) ?_)
                    refine FC.out.mono ?_
                    rintro e wb ⟨rfl, hb, kb⟩
                    have HSb := Lib.hid hb
                    have HKb := Lib.hid (HK.out.trans kb)
                    have HAb := Lib.hid (HAr.out.keep (w' := wb) fun k hk hl => kb.block k (HW.out.1 k hk) hl)
                    have VA := Lib.hid (vals_at (rs := rs) hlt HF.out)
                    clear FC hb kb HS HK HAr CLF nb hlt
                    rcases first_ge rs (quF f) with hv | ⟨j, hv, -⟩
                    · have e1 : findI rs (quF f) = 0 := if_pos hv
                      have e2 : findE rs (quF f) = 6 := if_pos hv
                      rw [e1, e2]
                      rw [hv] at VA
                      clear e1 e2 hv
                      have cv : wb.cell? ⟨ba, i, none⟩ = some (.int .i64 (-1)) := HAb.out.cell rfl VA.out
                      clear HAb VA
                      have nb := N30.out
                      have lt := LT.out
                      go_wp2_with fail
                      go_roundw
                      case rel => exact ⟨i + 1, by go_num, by omega, HSb, HKb⟩
                      case measure => simp [intOf]; omega
                    · have e1 : findI rs (quF f) = (j : Int) := (if_neg (by rw [hv]; omega)).trans hv
                      have e2 : findE rs (quF f) = 0 := if_neg (by rw [hv]; omega)
                      rw [e1, e2]
                      rw [hv] at VA
                      clear e1 e2 hv
                      have cv : wb.cell? ⟨ba, i, none⟩ = some (.int .i64 ((j : Nat) : Int)) := HAb.out.cell rfl VA.out
                      clear HAb VA
                      have nb := N30.out
                      have lt := LT.out
                      go_wp2_with fail
                      go_roundw
                      case rel => exact ⟨i + 1, by go_num, by omega, HSb, HKb⟩
                      case measure => simp [intOf]; omega
                  · have LC := Lib.hid (fun V (hV : Below wr.heap.size wr V) => list_code Fi gs rs V (HS.out.below hV))
                    have L1 := Lib.hid (list_keepG (list_keepG L5.out OW1.out KG58.out) (fun k hk => HW.out.2.1 k (OW1.out k hk)) HK.out)
                    have OKS := Lib.hid HS.out.ok
                    go_wp2_with fail
                    refine (awake_any _).mono ?_
                    rintro e wc ⟨rfl, bc⟩
                    have LD := Lib.hid (LC.out wc bc)
                    have L2 := Lib.hid (L1.out.below bc)
                    have KC := Lib.hid ((KG8.out.trans (HK.out.mono fun k hk _ => HW.out.2.1 k hk)).trans (Keep.of bc))
                    rw [← ML.out] at LD
                    clear bc LC L1 HS HK
                    go_wp2_with fail
                    refine LD.out.mono ?_
                    rintro e wd ⟨⟨A3, rfl, l3, -⟩, bd⟩
                    have SM := Lib.hid (Same16.same_rules A3 m m rs A1 m m rs wd (by have := ListAt.rows l3 OKS.out; rwa [← ML.out] at this) (by have := ListAt.rows (L2.out.below bd) OKS.out; rwa [← ML.out] at this) (by have := M64.out; omega) (by have := M64.out; omega))
                    have KD := Lib.hid (KC.out.trans (Keep.of bd))
                    clear bd l3 LD L2 KC
                    go_wp2_with fail
                    refine SM.out.mono ?_
                    rintro e we ⟨z, rfl, hz, be⟩
                    obtain rfl : z = true := hz.2 (by simp)
                    have KE := Lib.hid (KD.out.trans (Keep.of be))
                    clear be SM KD
                    go_wp2_with fail
                    go_ret
                    exact ⟨rfl, B2.out.trans (KE.out.below B2.out.size (fun k hk => GIN.out k (Nat.lt_of_lt_of_le hk B2.out.size)))⟩
              · have g0 : (ee == 0) = false := by rw [beq_eq_false_iff_ne]; exact ez
                have RE := RSE.out.2 ez
                rw [RE] at S9
                have SA := S9
                have KA := K9
                clear S9 K9 RE ez
                have ex := EX.out
                go_wp2_with fail
                clear ex g0
                go_loopw [18] (fun iv wr => ∃ i : Nat, iv = .int .i64 (i : Int) ∧ i ≤ n2 ∧ Hid (SpdAt Fi wr gs rs) ∧ Hid (Keep Fi w8 wr)) (fun iv _ => n2 - (intOf iv).toNat)
                case atStart => exact ⟨0, rfl, by omega, SA, KA⟩
                case round =>
                  clear SA KA
                  obtain ⟨i, rfl, hi, HS, HK⟩ := hrel
                  by_cases hlt : i < n2
                  · obtain ⟨b2, o2, f, rfl, hbl, hf, hok, hcl⟩ := flows_at P2.out hlt
                    have LT := Lib.hid hlt
                    have HF := Lib.hid hf
                    have FOK : Hid ((quF f).here.size ≤ maxT ∧ (quF f).there.size ≤ maxT) := Lib.hid ⟨by have := hok.1; show f.x0.size ≤ _; unfold maxT; omega, by have := hok.2; show f.x1.size ≤ _; unfold maxT; omega⟩
                    have fz := hok
                    have nb := N30.out
                    have CLF := Lib.hid (at_keep (at_keep hcl hbl (GIN.out _ hbl) KG8.out) (Nat.lt_of_lt_of_le hbl KG8.out.size) (HW.out.2.1 _ (GIN.out _ hbl)) HK.out)
                    have FC := Lib.hid (find_code Fi gs rs (quF f) wr HS.out (FOK.out.1) (FOK.out.2))
                    have HAr := Lib.hid (HA8.out.keep (w' := wr) fun k hk hl => HK.out.block k (HW.out.1 k hk) hl)
                    obtain ⟨ba, Xa, rfl, -, -⟩ := HAr.out.some (by omega)
                    clear hf hok hcl hbl fz
                    go_wp2_with (refine Store.at_load 24 (.tmp 167) ?_ ?_; exact rfl; refine Part.wpList_load_part rfl 24 (.tmp 167) rfl b2 (o2 + i * 5) [.string f.x0, .string f.x1, .int .i64 f.x2, .int .i64 f.x3, .int .i64 f.x4] rfl (Part.run_part _ _ _ _ _ _ Try.underlying24 rfl (by kernel_rfl) CLF.out) ?_)
                    refine FC.out.mono ?_
                    rintro e wb ⟨rfl, hb, kb⟩
                    have HSb := Lib.hid hb
                    have HKb := Lib.hid (HK.out.trans kb)
                    have HAb := Lib.hid (HAr.out.keep (w' := wb) fun k hk hl => kb.block k (HW.out.1 k hk) hl)
                    have VA := Lib.hid (vals_at (rs := rs) hlt HF.out)
                    clear FC hb kb HS HK HAr CLF nb hlt
                    rcases first_ge rs (quF f) with hv | ⟨j, hv, -⟩
                    · have e1 : findI rs (quF f) = 0 := if_pos hv
                      have e2 : findE rs (quF f) = 6 := if_pos hv
                      rw [e1, e2]
                      rw [hv] at VA
                      clear e1 e2 hv
                      have cv : wb.cell? ⟨ba, i, none⟩ = some (.int .i64 (-1)) := HAb.out.cell rfl VA.out
                      clear HAb VA
                      have nb := N30.out
                      have lt := LT.out
                      go_wp2_with fail
                      go_roundw
                      case rel => exact ⟨i + 1, by go_num, by omega, HSb, HKb⟩
                      case measure => simp [intOf]; omega
                    · have e1 : findI rs (quF f) = (j : Int) := (if_neg (by rw [hv]; omega)).trans hv
                      have e2 : findE rs (quF f) = 0 := if_neg (by rw [hv]; omega)
                      rw [e1, e2]
                      rw [hv] at VA
                      clear e1 e2 hv
                      have cv : wb.cell? ⟨ba, i, none⟩ = some (.int .i64 ((j : Nat) : Int)) := HAb.out.cell rfl VA.out
                      clear HAb VA
                      have nb := N30.out
                      have lt := LT.out
                      go_wp2_with fail
                      go_roundw
                      case rel => exact ⟨i + 1, by go_num, by omega, HSb, HKb⟩
                      case measure => simp [intOf]; omega
                  · have LC := Lib.hid (fun V (hV : Below wr.heap.size wr V) => list_code Fi gs rs V (HS.out.below hV))
                    have L1 := Lib.hid (list_keepG (list_keepG L5.out OW1.out KG58.out) (fun k hk => HW.out.2.1 k (OW1.out k hk)) HK.out)
                    have OKS := Lib.hid HS.out.ok
                    go_wp2_with fail
                    refine (awake_any _).mono ?_
                    rintro e wc ⟨rfl, bc⟩
                    have LD := Lib.hid (LC.out wc bc)
                    have L2 := Lib.hid (L1.out.below bc)
                    have KC := Lib.hid ((KG8.out.trans (HK.out.mono fun k hk _ => HW.out.2.1 k hk)).trans (Keep.of bc))
                    rw [← ML.out] at LD
                    clear bc LC L1 HS HK
                    go_wp2_with fail
                    refine LD.out.mono ?_
                    rintro e wd ⟨⟨A3, rfl, l3, -⟩, bd⟩
                    have SM := Lib.hid (Same16.same_rules A3 m m rs A1 m m rs wd (by have := ListAt.rows l3 OKS.out; rwa [← ML.out] at this) (by have := ListAt.rows (L2.out.below bd) OKS.out; rwa [← ML.out] at this) (by have := M64.out; omega) (by have := M64.out; omega))
                    have KD := Lib.hid (KC.out.trans (Keep.of bd))
                    clear bd l3 LD L2 KC
                    go_wp2_with fail
                    refine SM.out.mono ?_
                    rintro e we ⟨z, rfl, hz, be⟩
                    obtain rfl : z = true := hz.2 (by simp)
                    have KE := Lib.hid (KD.out.trans (Keep.of be))
                    clear be SM KD
                    go_wp2_with fail
                    go_ret
                    exact ⟨rfl, B2.out.trans (KE.out.below B2.out.size (fun k hk => GIN.out k (Nat.lt_of_lt_of_le hk B2.out.size)))⟩
end Go.Proofs.Ytmomkjgnopcobaa.LawBehind16
