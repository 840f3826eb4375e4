/- PmtuFloor's walk. -/
import Derived.Test.YtjeenmeoiidmnaaDoorLawDoes21
import Derived.Test.YtjeenmeoiidmnaaDoorLawFlrD
set_option linter.unusedVariables false
set_option maxRecDepth 100000
namespace Go.Proofs.YtjeenmeoiidmnaaDoor.LawFlr21
open Go.RowKit Go.Proofs.YtjeenmeoiidmnaaDoor.Sums Go.Proofs.YtjeenmeoiidmnaaDoor.Mem Go.Proofs.YtjeenmeoiidmnaaDoor.Blk Go.Proofs.YtjeenmeoiidmnaaDoor.RowN Go.Proofs.YtjeenmeoiidmnaaDoor.RowA Go.Proofs.YtjeenmeoiidmnaaDoor.Free Go.Proofs.YtjeenmeoiidmnaaDoor.Steps Go.Proofs.YtjeenmeoiidmnaaDoor.ArgT Go.Proofs.YtjeenmeoiidmnaaDoor.Part Go.Proofs.YtjeenmeoiidmnaaDoor.MapK Go.Proofs.YtjeenmeoiidmnaaDoor.Obj Go.Proofs.YtjeenmeoiidmnaaDoor.PmtM Go.Proofs.YtjeenmeoiidmnaaDoor.PmtD Go.Proofs.YtjeenmeoiidmnaaDoor.Pmt1 Go.Proofs.YtjeenmeoiidmnaaDoor.Pmt5 Go.Proofs.YtjeenmeoiidmnaaDoor.PmtA Go.Proofs.YtjeenmeoiidmnaaDoor.Few21 Go.Proofs.YtjeenmeoiidmnaaDoor.LawDoes21 Go.Proofs.YtjeenmeoiidmnaaDoor.LawFlrD

section
variable {g : Nat} {es : List Ent} {P : Nat → Prop} {w : World}
theorem sget (h : Solo (Pc g es) P w) (now : Int) (d : ByteArray) (n : Int) (n1 : -3000000000 ≤ now) (n2 : now ≤ 3000000000) (p : Int × Int) (hp : askA now d n es = p) : Calls Tryd.prog 10 #[.pointer (some ⟨g, 0, none⟩), .int .i64 now, .string d, .int .i64 n] w fun e w' => e = .returned (.tuple #[.int .i64 p.1, .int .i64 p.2]) ∧ Solo (Pc g es) P w' ∧ Keep P w w' := by
  subst hp
  exact h.call fun F hF hb => (get_c F g es now d n w hF n1 n2).mono fun e w' ⟨h1, h2⟩ => ⟨⟨h1, hF.below h2⟩, Keep.of h2⟩
theorem stell (h : Solo (Pc g es) P w) (now : Int) (d : ByteArray) (n : Int) (nn : -2000000000 ≤ now ∧ now ≤ 2000000000) (p : Int × Int) (hp : tellA now d n es = p) (fs : List Ent) (hf : tellL now d n es = fs) : Calls Tryd.prog 12 #[.pointer (some ⟨g, 0, none⟩), .int .i64 now, .string d, .int .i64 n] w fun e w' => e = .returned (.tuple #[.int .i64 p.1, .int .i64 p.2]) ∧ Solo (Pc g fs) P w' ∧ Keep P w w' := by
  subst hp hf
  exact h.call fun F hF hb => tell_c F g es now d n w hF nn
end
set_option maxHeartbeats 8000000 in
theorem floor_any (A : Option Addr) (n c : Nat) (rs : List Op21R) (w : World) (h : Op21Rows w A n rs) (hT : Tab w) : Calls Tryd.prog 5 #[.slice A n c] w fun e w' => e = .returned (.bool true) ∧ Below w.heap.size w w' := by
  have F0 := Lib.hid (few_any A n c rs w h)
  have ROWS := Lib.hid h
  have AW : Hid (∀ V, Below w.heap.size w V → Calls Tryd.prog 15 #[] V fun e w' => e = .returned (.bool true) ∧ Below V.heap.size V w') := Lib.hid fun V k => awake_any V (hT.up k (Nat.le_refl _))
  have N0 := Lib.hid (fun V => new_c (fun k => k < V.heap.size) V (fun k hk => hk))
  clear h hT
  go_enter Tryd.func5, Tryd.ntmps5
  go_wp2_with fail
  refine F0.out.mono ?_
  rintro e w1 ⟨fb, rfl, hfb, hb1⟩
  cases fb with
  | false =>
    clear hfb F0 ROWS N0 AW
    go_wp2_with fail
    go_ret
    exact ⟨rfl, hb1⟩
  | true =>
    obtain ⟨hn, hall⟩ := hfb rfl
    have FEW := Lib.hid hall
    have B1 := Lib.hid hb1
    clear hfb hall hb1 F0
    go_wp2_with fail
    refine (N0.out w1).mono ?_
    rintro e w2 ⟨⟨g, rfl, hp⟩, hb⟩
    have S2 : Hid (Solo (Pc g []) (fun k => k < w.heap.size) w2) := Lib.hid ⟨_, hp, fun k hk => Nat.lt_of_lt_of_le hk hb.size, fun k hk => Nat.lt_of_lt_of_le hk B1.out.size⟩
    have B2 := Lib.hid (B1.out.trans (hb.mono B1.out.size))
    clear hp hb N0 B1
    go_wp2_with fail
    go_loopw [4, 5] (fun nv iv wr => ∃ (i : Nat) (now : Int) (es : List Ent), nv = .int .i64 now ∧ iv = .int .i64 (i : Int) ∧ i ≤ n ∧ Hid (0 ≤ now ∧ now ≤ 1000000000) ∧ Hid (FI now es) ∧ Hid (Solo (Pc g es) (fun k => k < w.heap.size) wr) ∧ Hid (Below w.heap.size w wr)) (fun _ iv _ => n - (intOf iv).toNat)
    case atStart => exact ⟨0, 0, [], rfl, rfl, by omega, Lib.hid (by omega), Lib.hid (FI.nil 0), S2, B2⟩
    case round =>
      clear S2 B2
      obtain ⟨i, now, es, rfl, rfl, hi, HNW, HFI, HS, HB⟩ := hrel
      by_cases hlt : i < n
      · obtain ⟨b, o, rfl, hbl, hall⟩ := ROWS.out.2 (by omega)
        have hr : rs[i]? = some (rs[i]'(by rw [ROWS.out.1]; exact hlt)) := List.getElem?_eq_getElem _
        generalize rs[i]'(by rw [ROWS.out.1]; exact hlt) = r at hr
        obtain ⟨-, cl⟩ := hall i r hr
        have FIT := Lib.hid (FEW.out i r hr)
        have RP := Lib.hid (run_part wr b (o + i * 4) TO r.cells _ Tryd.underlying31 rfl (by kernel_rfl) ((show At w b (o + i * 4) r.cells from cl).below HB.out hbl))
        have J := Blk.new wr TO #[.int .i64 0, .int .i64 0, .string ⟨#[]⟩, .bool false]
        have NK : Blk ((wr.alloc (.cells #[.int .i64 0, .int .i64 0, .string ⟨#[]⟩, .bool false] TO)).setRow wr.heap.size (opCs r)) wr.heap.size TO (opCs r) := setRow_heap _ _ _ _ _ _ J
        have BN := Com.setRow_bel ((Below.refl wr.heap.size wr).alloc (Nat.le_refl _) (.cells #[.int .i64 0, .int .i64 0, .string ⟨#[]⟩, .bool false] TO)) (Nat.le_refl _) (opCs r)
        have one := Lib.hid (one_op r)
        obtain ⟨w3, hw3⟩ : ∃ w3, w3 = (wr.alloc (.cells #[.int .i64 0, .int .i64 0, .string ⟨#[]⟩, .bool false] TO)).setRow wr.heap.size (opCs r) := ⟨_, rfl⟩
        have W3 := Lib.hid hw3.symm
        rw [← hw3] at NK BN
        have K3 := Lib.hid NK
        have B3 := Lib.hid (HB.out.trans (BN.mono HB.out.size))
        have T3 : Hid (Solo (Pc g es) (fun k => k < w.heap.size ∨ k = wr.heap.size) w3) := Lib.hid (Solo.below (pc_obj g es) HS.out BN fun k z => z.imp id fun e => ⟨by omega, by rw [e]; exact K3.out.lt⟩)
        obtain ⟨bx, hbx⟩ : ∃ bx, wr.heap.size = bx := ⟨_, rfl⟩
        have BXE := Lib.hid hbx
        rw [hbx] at K3 T3
        have RD : Hid (∀ V, Keep (fun k => k < w.heap.size ∨ k = bx) w3 V → Blk V bx TO (opCs r)) := Lib.hid fun V hV => (hV.block bx (.inr rfl) K3.out.lt).trans K3.out
        have BW : Hid (∀ V, Keep (fun k => k < w.heap.size ∨ k = bx) w3 V → Below w.heap.size w V) := Lib.hid fun V hV => B3.out.trans (hV.below B3.out.size fun k hk => .inl hk)
        have c0 : w3.cell? ⟨bx, 0, none⟩ = some (.int .i64 r.x0) := K3.out.cell 0
        have c2 : w3.cell? ⟨bx, 2, none⟩ = some (.string r.x2) := K3.out.cell 2
        have KK3 : Hid (Keep (fun k => k < w.heap.size ∨ k = bx) w3 w3) := Lib.hid (Keep.refl _ _)
        obtain ⟨nw, hnw⟩ : ∃ nw, max now r.x0 = nw := ⟨_, rfl⟩
        have NWE := Lib.hid hnw
        have NB : Hid (0 ≤ nw ∧ nw ≤ 1000000000) := Lib.hid (by have h1 := HNW.out; have h2 := FIT.out.2; rw [← hnw]; omega)
        have FI1 : Hid (FI nw es) := Lib.hid (HFI.out.up (by rw [← hnw]; exact Int.le_max_left _ _))
        have fa : IntKind.i64.wrap (nw + 600) = nw + 600 := IntWalk.i64_in _ (by have := NB.out; omega)
        have fb : IntKind.i64.wrap (nw + 600 - 1) = nw + 599 := by rw [IntWalk.i64_in _ (by have := NB.out; omega)]; omega
        have fc : IntKind.i64.wrap (nw + 599) = nw + 599 := IntWalk.i64_in _ (by have := NB.out; omega)
        clear hall cl hr hw3 NK BN hbx HS B3 K3 hnw HNW HFI
        obtain ⟨fs, hfs⟩ : ∃ fs, tellL nw r.x2 r.x1 es = fs := ⟨_, rfl⟩
        have FSE := Lib.hid hfs
        have FI2 : Hid (FI nw fs) := Lib.hid (by rw [← hfs]; exact fi_tell FI1.out)
        clear hfs
        by_cases q4 : r.x2.size = 4
        · have hl : least r.x2 = some 576 := if_pos q4
          have z4 : ((r.x2.size : Int) == 4) = true := by rw [beq_iff_eq]; omega
          have y4 : ((r.x2.size : Int) != 4) = false := by rw [bne_eq_false_iff_eq]; omega
          clear q4
          have RN := round nw r.x2 r.x1 576 es hl FI1.out
          rw [FSE.out] at RN
          obtain ⟨⟨was1, was2⟩, hwas⟩ : ∃ q, askA nw r.x2 70000 es = q := ⟨_, rfl⟩
          rw [hwas] at RN
          have Hwas := Lib.hid hwas
          clear hwas
          obtain ⟨⟨tel1, tel2⟩, htel⟩ : ∃ q, tellA nw r.x2 r.x1 es = q := ⟨_, rfl⟩
          rw [htel] at RN
          have Htel := Lib.hid htel
          clear htel
          obtain ⟨⟨is1, is2⟩, his⟩ : ∃ q, askA nw r.x2 70000 fs = q := ⟨_, rfl⟩
          rw [his] at RN
          have His := Lib.hid his
          clear his
          obtain ⟨⟨m1, m2⟩, hm⟩ : ∃ q, askA nw r.x2 r.x1 fs = q := ⟨_, rfl⟩
          rw [hm] at RN
          have Hm := Lib.hid hm
          clear hm
          obtain ⟨⟨bef1, bef2⟩, hbef⟩ : ∃ q, askA (nw + 599) r.x2 70000 fs = q := ⟨_, rfl⟩
          rw [hbef] at RN
          have Hbef := Lib.hid hbef
          clear hbef
          obtain ⟨⟨aft1, aft2⟩, haft⟩ : ∃ q, askA (nw + 600) r.x2 70000 fs = q := ⟨_, rfl⟩
          rw [haft] at RN
          have Haft := Lib.hid haft
          clear haft
          obtain ⟨ew, ei, em, eb, ea, wl, il, iw, mN, b1, a1, tt⟩ := RN
          simp only at ew ei em eb ea wl il iw mN b1 a1 tt
          subst ew ei em eb ea a1
          have g1 : decide (was1 < 576) = false := decide_eq_false (by omega)
          have g2 : decide (is1 < 576) = false := decide_eq_false (by omega)
          have g3 : decide (was1 < is1) = false := decide_eq_false (by omega)
          have g4 : decide (r.x1 < m1) = false := decide_eq_false (by omega)
          have g5 : decide (70000 < bef1) = false := decide_eq_false (by omega)
          have TT : Hid ((tel2 = 0 ∧ decide (tel1 < 576) = false ∧ decide (tel1 < is1) = false ∧ decide (max r.x1 576 < tel1) = false) ∨ tel2 = 7) := Lib.hid (tt.imp (fun z => ⟨z.1, decide_eq_false (by omega), decide_eq_false (by omega), decide_eq_false (by omega)⟩) id)
          clear wl il iw mN b1 tt
          clear hl
          go_wp2_with (first
            | (refine Part.wpList_load_part rfl TO (.tmp 34) rfl b (o + i * 4) (opCs r).toList rfl RP.out ?_)
            | (refine wpList_store_row rfl TO (.tmp 6) (.tmp 35) rfl wr.heap.size (opCs r) rfl rfl TO _ J (by kernel_rfl) rfl one.out ?_; rw [W3.out, BXE.out]; clear J RP))
          rw [NWE.out]
          refine (sget T3.out nw r.x2 70000 (by have := NB.out; omega) (by have := NB.out; omega) (was1, 0) (Hwas.out)).mono ?_
          rintro e w4 ⟨rfl, ht, hk⟩
          have T4 := Lib.hid ht
          have KK4 := Lib.hid (KK3.out.trans hk)
          have c0 : w4.cell? ⟨bx, 0, none⟩ = some (.int .i64 r.x0) := (RD.out w4 KK4.out).cell 0
          have c2 : w4.cell? ⟨bx, 2, none⟩ = some (.string r.x2) := (RD.out w4 KK4.out).cell 2
          have c1 : w4.cell? ⟨bx, 1, none⟩ = some (.int .i64 r.x1) := (RD.out w4 KK4.out).cell 1
          clear ht hk T3 KK3
          go_wp2_with fail
          refine (stell T4.out nw r.x2 r.x1 (by have := NB.out; omega) (tel1, tel2) (Htel.out) fs (FSE.out)).mono ?_
          rintro e w5 ⟨rfl, ht, hk⟩
          have T5 := Lib.hid ht
          have KK5 := Lib.hid (KK4.out.trans hk)
          have c0 : w5.cell? ⟨bx, 0, none⟩ = some (.int .i64 r.x0) := (RD.out w5 KK5.out).cell 0
          have c2 : w5.cell? ⟨bx, 2, none⟩ = some (.string r.x2) := (RD.out w5 KK5.out).cell 2
          have c1 : w5.cell? ⟨bx, 1, none⟩ = some (.int .i64 r.x1) := (RD.out w5 KK5.out).cell 1
          clear ht hk T4 KK4
          go_wp2_with fail
          refine (sget T5.out nw r.x2 70000 (by have := NB.out; omega) (by have := NB.out; omega) (is1, 0) (His.out)).mono ?_
          rintro e w6 ⟨rfl, ht, hk⟩
          have T6 := Lib.hid ht
          have KK6 := Lib.hid (KK5.out.trans hk)
          have c0 : w6.cell? ⟨bx, 0, none⟩ = some (.int .i64 r.x0) := (RD.out w6 KK6.out).cell 0
          have c2 : w6.cell? ⟨bx, 2, none⟩ = some (.string r.x2) := (RD.out w6 KK6.out).cell 2
          have c1 : w6.cell? ⟨bx, 1, none⟩ = some (.int .i64 r.x1) := (RD.out w6 KK6.out).cell 1
          clear ht hk T5 KK5
          go_wp2_with fail
          refine (sget T6.out nw r.x2 r.x1 (by have := NB.out; omega) (by have := NB.out; omega) (m1, 0) (Hm.out)).mono ?_
          rintro e w7 ⟨rfl, ht, hk⟩
          have T7 := Lib.hid ht
          have KK7 := Lib.hid (KK6.out.trans hk)
          have c0 : w7.cell? ⟨bx, 0, none⟩ = some (.int .i64 r.x0) := (RD.out w7 KK7.out).cell 0
          have c2 : w7.cell? ⟨bx, 2, none⟩ = some (.string r.x2) := (RD.out w7 KK7.out).cell 2
          have c1 : w7.cell? ⟨bx, 1, none⟩ = some (.int .i64 r.x1) := (RD.out w7 KK7.out).cell 1
          clear ht hk T6 KK6
          rcases TT.out with ⟨rfl, t1, t2, t3⟩ | rfl
          all_goals
            go_wp2_with fail
            refine (sget T7.out (nw + 599) r.x2 70000 (by have := NB.out; omega) (by have := NB.out; omega) (bef1, 0) (Hbef.out)).mono ?_
            rintro e w8 ⟨rfl, ht, hk⟩
            have T8 := Lib.hid ht
            have KK8 := Lib.hid (KK7.out.trans hk)
            have c0 : w8.cell? ⟨bx, 0, none⟩ = some (.int .i64 r.x0) := (RD.out w8 KK8.out).cell 0
            have c2 : w8.cell? ⟨bx, 2, none⟩ = some (.string r.x2) := (RD.out w8 KK8.out).cell 2
            have c1 : w8.cell? ⟨bx, 1, none⟩ = some (.int .i64 r.x1) := (RD.out w8 KK8.out).cell 1
            clear ht hk T7 KK7
            go_wp2_with fail
            refine (sget T8.out (nw + 600) r.x2 70000 (by have := NB.out; omega) (by have := NB.out; omega) (70000, 0) (Haft.out)).mono ?_
            rintro e w9 ⟨rfl, ht, hk⟩
            have T9 := Lib.hid ht
            have KK9 := Lib.hid (KK8.out.trans hk)
            have c0 : w9.cell? ⟨bx, 0, none⟩ = some (.int .i64 r.x0) := (RD.out w9 KK9.out).cell 0
            have c2 : w9.cell? ⟨bx, 2, none⟩ = some (.string r.x2) := (RD.out w9 KK9.out).cell 2
            have c1 : w9.cell? ⟨bx, 1, none⟩ = some (.int .i64 r.x1) := (RD.out w9 KK9.out).cell 1
            clear ht hk T8 KK8
            have B9 := Lib.hid (BW.out w9 KK9.out)
            go_wp2_with fail
            go_roundw
            case rel => exact ⟨i + 1, nw, fs, rfl, by go_num, by omega, NB, FI2, Lib.hid (Solo.below (pc_obj g _) T9.out (Below.refl _ _) fun k z => .inl (.inl z)), B9⟩
            case measure => simp [intOf]; omega
        have z4 : ((r.x2.size : Int) == 4) = false := by rw [beq_eq_false_iff_ne]; omega
        have y4 : ((r.x2.size : Int) != 4) = true := by rw [bne_iff_ne]; omega
        by_cases q16 : r.x2.size = 16
        · have hl : least r.x2 = some 1280 := by unfold least; rw [if_neg q4, if_pos q16]
          have y16 : ((r.x2.size : Int) != 16) = false := by rw [bne_eq_false_iff_eq]; omega
          clear q4 q16
          have RN := round nw r.x2 r.x1 1280 es hl FI1.out
          rw [FSE.out] at RN
          obtain ⟨⟨was1, was2⟩, hwas⟩ : ∃ q, askA nw r.x2 70000 es = q := ⟨_, rfl⟩
          rw [hwas] at RN
          have Hwas := Lib.hid hwas
          clear hwas
          obtain ⟨⟨tel1, tel2⟩, htel⟩ : ∃ q, tellA nw r.x2 r.x1 es = q := ⟨_, rfl⟩
          rw [htel] at RN
          have Htel := Lib.hid htel
          clear htel
          obtain ⟨⟨is1, is2⟩, his⟩ : ∃ q, askA nw r.x2 70000 fs = q := ⟨_, rfl⟩
          rw [his] at RN
          have His := Lib.hid his
          clear his
          obtain ⟨⟨m1, m2⟩, hm⟩ : ∃ q, askA nw r.x2 r.x1 fs = q := ⟨_, rfl⟩
          rw [hm] at RN
          have Hm := Lib.hid hm
          clear hm
          obtain ⟨⟨bef1, bef2⟩, hbef⟩ : ∃ q, askA (nw + 599) r.x2 70000 fs = q := ⟨_, rfl⟩
          rw [hbef] at RN
          have Hbef := Lib.hid hbef
          clear hbef
          obtain ⟨⟨aft1, aft2⟩, haft⟩ : ∃ q, askA (nw + 600) r.x2 70000 fs = q := ⟨_, rfl⟩
          rw [haft] at RN
          have Haft := Lib.hid haft
          clear haft
          obtain ⟨ew, ei, em, eb, ea, wl, il, iw, mN, b1, a1, tt⟩ := RN
          simp only at ew ei em eb ea wl il iw mN b1 a1 tt
          subst ew ei em eb ea a1
          have g1 : decide (was1 < 1280) = false := decide_eq_false (by omega)
          have g2 : decide (is1 < 1280) = false := decide_eq_false (by omega)
          have g3 : decide (was1 < is1) = false := decide_eq_false (by omega)
          have g4 : decide (r.x1 < m1) = false := decide_eq_false (by omega)
          have g5 : decide (70000 < bef1) = false := decide_eq_false (by omega)
          have TT : Hid ((tel2 = 0 ∧ decide (tel1 < 1280) = false ∧ decide (tel1 < is1) = false ∧ decide (max r.x1 1280 < tel1) = false) ∨ tel2 = 7) := Lib.hid (tt.imp (fun z => ⟨z.1, decide_eq_false (by omega), decide_eq_false (by omega), decide_eq_false (by omega)⟩) id)
          clear wl il iw mN b1 tt
          clear hl
          go_wp2_with (first
            | (refine Part.wpList_load_part rfl TO (.tmp 34) rfl b (o + i * 4) (opCs r).toList rfl RP.out ?_)
            | (refine wpList_store_row rfl TO (.tmp 6) (.tmp 35) rfl wr.heap.size (opCs r) rfl rfl TO _ J (by kernel_rfl) rfl one.out ?_; rw [W3.out, BXE.out]; clear J RP))
          rw [NWE.out]
          refine (sget T3.out nw r.x2 70000 (by have := NB.out; omega) (by have := NB.out; omega) (was1, 0) (Hwas.out)).mono ?_
          rintro e w4 ⟨rfl, ht, hk⟩
          have T4 := Lib.hid ht
          have KK4 := Lib.hid (KK3.out.trans hk)
          have c0 : w4.cell? ⟨bx, 0, none⟩ = some (.int .i64 r.x0) := (RD.out w4 KK4.out).cell 0
          have c2 : w4.cell? ⟨bx, 2, none⟩ = some (.string r.x2) := (RD.out w4 KK4.out).cell 2
          have c1 : w4.cell? ⟨bx, 1, none⟩ = some (.int .i64 r.x1) := (RD.out w4 KK4.out).cell 1
          clear ht hk T3 KK3
          go_wp2_with fail
          refine (stell T4.out nw r.x2 r.x1 (by have := NB.out; omega) (tel1, tel2) (Htel.out) fs (FSE.out)).mono ?_
          rintro e w5 ⟨rfl, ht, hk⟩
          have T5 := Lib.hid ht
          have KK5 := Lib.hid (KK4.out.trans hk)
          have c0 : w5.cell? ⟨bx, 0, none⟩ = some (.int .i64 r.x0) := (RD.out w5 KK5.out).cell 0
          have c2 : w5.cell? ⟨bx, 2, none⟩ = some (.string r.x2) := (RD.out w5 KK5.out).cell 2
          have c1 : w5.cell? ⟨bx, 1, none⟩ = some (.int .i64 r.x1) := (RD.out w5 KK5.out).cell 1
          clear ht hk T4 KK4
          go_wp2_with fail
          refine (sget T5.out nw r.x2 70000 (by have := NB.out; omega) (by have := NB.out; omega) (is1, 0) (His.out)).mono ?_
          rintro e w6 ⟨rfl, ht, hk⟩
          have T6 := Lib.hid ht
          have KK6 := Lib.hid (KK5.out.trans hk)
          have c0 : w6.cell? ⟨bx, 0, none⟩ = some (.int .i64 r.x0) := (RD.out w6 KK6.out).cell 0
          have c2 : w6.cell? ⟨bx, 2, none⟩ = some (.string r.x2) := (RD.out w6 KK6.out).cell 2
          have c1 : w6.cell? ⟨bx, 1, none⟩ = some (.int .i64 r.x1) := (RD.out w6 KK6.out).cell 1
          clear ht hk T5 KK5
          go_wp2_with fail
          refine (sget T6.out nw r.x2 r.x1 (by have := NB.out; omega) (by have := NB.out; omega) (m1, 0) (Hm.out)).mono ?_
          rintro e w7 ⟨rfl, ht, hk⟩
          have T7 := Lib.hid ht
          have KK7 := Lib.hid (KK6.out.trans hk)
          have c0 : w7.cell? ⟨bx, 0, none⟩ = some (.int .i64 r.x0) := (RD.out w7 KK7.out).cell 0
          have c2 : w7.cell? ⟨bx, 2, none⟩ = some (.string r.x2) := (RD.out w7 KK7.out).cell 2
          have c1 : w7.cell? ⟨bx, 1, none⟩ = some (.int .i64 r.x1) := (RD.out w7 KK7.out).cell 1
          clear ht hk T6 KK6
          rcases TT.out with ⟨rfl, t1, t2, t3⟩ | rfl
          all_goals
            go_wp2_with fail
            refine (sget T7.out (nw + 599) r.x2 70000 (by have := NB.out; omega) (by have := NB.out; omega) (bef1, 0) (Hbef.out)).mono ?_
            rintro e w8 ⟨rfl, ht, hk⟩
            have T8 := Lib.hid ht
            have KK8 := Lib.hid (KK7.out.trans hk)
            have c0 : w8.cell? ⟨bx, 0, none⟩ = some (.int .i64 r.x0) := (RD.out w8 KK8.out).cell 0
            have c2 : w8.cell? ⟨bx, 2, none⟩ = some (.string r.x2) := (RD.out w8 KK8.out).cell 2
            have c1 : w8.cell? ⟨bx, 1, none⟩ = some (.int .i64 r.x1) := (RD.out w8 KK8.out).cell 1
            clear ht hk T7 KK7
            go_wp2_with fail
            refine (sget T8.out (nw + 600) r.x2 70000 (by have := NB.out; omega) (by have := NB.out; omega) (70000, 0) (Haft.out)).mono ?_
            rintro e w9 ⟨rfl, ht, hk⟩
            have T9 := Lib.hid ht
            have KK9 := Lib.hid (KK8.out.trans hk)
            have c0 : w9.cell? ⟨bx, 0, none⟩ = some (.int .i64 r.x0) := (RD.out w9 KK9.out).cell 0
            have c2 : w9.cell? ⟨bx, 2, none⟩ = some (.string r.x2) := (RD.out w9 KK9.out).cell 2
            have c1 : w9.cell? ⟨bx, 1, none⟩ = some (.int .i64 r.x1) := (RD.out w9 KK9.out).cell 1
            clear ht hk T8 KK8
            have B9 := Lib.hid (BW.out w9 KK9.out)
            go_wp2_with fail
            go_roundw
            case rel => exact ⟨i + 1, nw, fs, rfl, by go_num, by omega, NB, FI2, Lib.hid (Solo.below (pc_obj g _) T9.out (Below.refl _ _) fun k z => .inl (.inl z)), B9⟩
            case measure => simp [intOf]; omega
        have hl : least r.x2 = none := by unfold least; rw [if_neg q4, if_neg q16]
        have y16 : ((r.x2.size : Int) != 16) = true := by rw [bne_iff_ne]; omega
        clear q4 q16
        have BA := Lib.hid (bad_all (d := r.x2) hl)
        obtain rfl : es = fs := by rw [← FSE.out]; exact (BA.out _ _ _).2.2.symm
        clear hl
        go_wp2_with (first
          | (refine Part.wpList_load_part rfl TO (.tmp 34) rfl b (o + i * 4) (opCs r).toList rfl RP.out ?_)
          | (refine wpList_store_row rfl TO (.tmp 6) (.tmp 35) rfl wr.heap.size (opCs r) rfl rfl TO _ J (by kernel_rfl) rfl one.out ?_; rw [W3.out, BXE.out]; clear J RP))
        rw [NWE.out]
        refine (sget T3.out nw r.x2 70000 (by have := NB.out; omega) (by have := NB.out; omega) (0, 1) ((BA.out _ _ _).1)).mono ?_
        rintro e w4 ⟨rfl, ht, hk⟩
        have T4 := Lib.hid ht
        have KK4 := Lib.hid (KK3.out.trans hk)
        have c0 : w4.cell? ⟨bx, 0, none⟩ = some (.int .i64 r.x0) := (RD.out w4 KK4.out).cell 0
        have c2 : w4.cell? ⟨bx, 2, none⟩ = some (.string r.x2) := (RD.out w4 KK4.out).cell 2
        have c1 : w4.cell? ⟨bx, 1, none⟩ = some (.int .i64 r.x1) := (RD.out w4 KK4.out).cell 1
        clear ht hk T3 KK3
        go_wp2_with fail
        refine (stell T4.out nw r.x2 r.x1 (by have := NB.out; omega) (0, 1) ((BA.out _ _ _).2.1) es ((BA.out _ _ _).2.2)).mono ?_
        rintro e w5 ⟨rfl, ht, hk⟩
        have T5 := Lib.hid ht
        have KK5 := Lib.hid (KK4.out.trans hk)
        have c0 : w5.cell? ⟨bx, 0, none⟩ = some (.int .i64 r.x0) := (RD.out w5 KK5.out).cell 0
        have c2 : w5.cell? ⟨bx, 2, none⟩ = some (.string r.x2) := (RD.out w5 KK5.out).cell 2
        have c1 : w5.cell? ⟨bx, 1, none⟩ = some (.int .i64 r.x1) := (RD.out w5 KK5.out).cell 1
        clear ht hk T4 KK4
        go_wp2_with fail
        refine (sget T5.out nw r.x2 70000 (by have := NB.out; omega) (by have := NB.out; omega) (0, 1) ((BA.out _ _ _).1)).mono ?_
        rintro e w6 ⟨rfl, ht, hk⟩
        have T6 := Lib.hid ht
        have KK6 := Lib.hid (KK5.out.trans hk)
        have c0 : w6.cell? ⟨bx, 0, none⟩ = some (.int .i64 r.x0) := (RD.out w6 KK6.out).cell 0
        have c2 : w6.cell? ⟨bx, 2, none⟩ = some (.string r.x2) := (RD.out w6 KK6.out).cell 2
        have c1 : w6.cell? ⟨bx, 1, none⟩ = some (.int .i64 r.x1) := (RD.out w6 KK6.out).cell 1
        clear ht hk T5 KK5
        go_wp2_with fail
        refine (sget T6.out nw r.x2 r.x1 (by have := NB.out; omega) (by have := NB.out; omega) (0, 1) ((BA.out _ _ _).1)).mono ?_
        rintro e w7 ⟨rfl, ht, hk⟩
        have T7 := Lib.hid ht
        have KK7 := Lib.hid (KK6.out.trans hk)
        have c0 : w7.cell? ⟨bx, 0, none⟩ = some (.int .i64 r.x0) := (RD.out w7 KK7.out).cell 0
        have c2 : w7.cell? ⟨bx, 2, none⟩ = some (.string r.x2) := (RD.out w7 KK7.out).cell 2
        have c1 : w7.cell? ⟨bx, 1, none⟩ = some (.int .i64 r.x1) := (RD.out w7 KK7.out).cell 1
        clear ht hk T6 KK6
        have B7 := Lib.hid (BW.out w7 KK7.out)
        go_wp2_with fail
        go_roundw
        case rel => exact ⟨i + 1, nw, es, rfl, by go_num, by omega, NB, FI1, Lib.hid (Solo.below (pc_obj g _) T7.out (Below.refl _ _) fun k z => .inl (.inl z)), B7⟩
        case measure => simp [intOf]; omega
      · have e : i = n := by omega
        subst e
        have AA := Lib.hid (AW.out wr HB.out)
        clear HS HNW HFI
        go_wp2_with fail
        refine AA.out.mono ?_
        rintro e w9 ⟨rfl, hb⟩
        have B9 := Lib.hid (HB.out.trans (hb.mono HB.out.size))
        clear hb
        go_wp2_with fail
        go_ret
        exact ⟨rfl, B9.out⟩
end Go.Proofs.YtjeenmeoiidmnaaDoor.LawFlr21
