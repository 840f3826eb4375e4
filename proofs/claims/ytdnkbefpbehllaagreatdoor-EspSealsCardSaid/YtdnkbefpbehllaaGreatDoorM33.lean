/- The contracts of the document's By and Block. -/
import Derived.Test.YtdnkbefpbehllaaGreatDoorM13
import Derived.Test.YtdnkbefpbehllaaGreatDoorM09
import Derived.Test.YtdnkbefpbehllaaGreatDoorM04
import Derived.Test.YtdnkbefpbehllaaGreatDoorM15
set_option linter.unusedVariables false
namespace Go.Proofs.YtdnkbefpbehllaaGreatDoor.AesBy
open Go.RowKit Go.Proofs.YtdnkbefpbehllaaGreatDoor.Sums Go.Proofs.YtdnkbefpbehllaaGreatDoor.Mem Go.Proofs.YtdnkbefpbehllaaGreatDoor.Blk Go.Proofs.YtdnkbefpbehllaaGreatDoor.Bits3 Go.Proofs.YtdnkbefpbehllaaGreatDoor.Ints Go.Proofs.YtdnkbefpbehllaaGreatDoor.Free Go.Proofs.YtdnkbefpbehllaaGreatDoor.Steps Go.Proofs.YtdnkbefpbehllaaGreatDoor.Ops Go.Proofs.YtdnkbefpbehllaaGreatDoor.CutA Go.Proofs.YtdnkbefpbehllaaGreatDoor.AesF Go.Proofs.YtdnkbefpbehllaaGreatDoor.AesB Go.Proofs.YtdnkbefpbehllaaGreatDoor.AesR Go.Proofs.YtdnkbefpbehllaaGreatDoor.AesR2 Go.Proofs.YtdnkbefpbehllaaGreatDoor.AesR3

theorem nats_drop (l : List Int) (k : Nat) : nats (l.drop k) = (nats l).drop k := by simp [nats, List.map_drop]
theorem st_int_at0 {o : Oper} {a : Act} {w : World} {K : Act → World → Prop} {Q : Exit → Act → World → Prop} (x y : Operand) (ho : o.op = .indexAddr 78 x y)
    (b n c i : Nat) (z : Int) (hx : a.eval x = .slice (some ⟨b, 0, none⟩) n c) (hy : a.eval y = .int .i64 z) (hz : z = (i : Int)) (hi : i < n)
    (h : K (a.put o.dst (.pointer (some ⟨b, i, none⟩))) w) : Step Tryz.prog o a w K Q := by
  have := st_int_at (w := w) (Q := Q) x y ho b 0 n c i z hx hy hz hi (K := K)
  rw [Nat.zero_add] at this
  exact this h
theorem ent_times : Enters Tryz.prog 67 := enters_of Tryz.func67 (by kernel_rfl) rfl
theorem list16 {l : List Nat} (h : l.length = 16) : fil (fun i => l.getD i 0) 16 16 = l := by
  rw [fil_full]
  apply List.ext_getElem
  · simp [h]
  · intro i h1 h2
    simp only [List.getElem_map, List.getElem_range]
    rw [List.getD_eq_getElem?_getD, List.getElem?_eq_getElem h2]
    rfl
theorem src_lt {i : Nat} (h : i < 16) : src i < 16 := by unfold src; omega

set_option maxHeartbeats 2500000 in
set_option maxRecDepth 100000 in
theorem by_ref (gx : Nat) (A : Option Addr) (n c : Nat) (ks : List Int) (Ai : Option Addr) (ci : Nat) (ins : List Int) (w : World) (B : Nat) (hx : IRow w gx boxes) (h : Holds w B A n c ks) (hi : Holds w B Ai 16 ci ins) (hB : B ≤ w.heap.size) (N : Nat) (hN : n = 16 * (N + 1)) (h1 : 1 ≤ N) (h2 : N ≤ 20) :
    Calls Tryz.prog 58 #[.slice (some ⟨gx, 0, none⟩) 256 256, .slice A n c, .slice Ai 16 ci] w fun e w' => ∃ v, e = .returned v ∧ Owns w' w.heap.size v 16 (ints (block (nats ks) (nats ins))) ∧ Below w.heap.size w w' := by
  obtain ⟨q, p, rfl, _⟩ := h.2.2.2.2 (by omega)
  obtain ⟨qi, pi, rfl, _⟩ := hi.2.2.2.2 (by omega)
  have hm := h.2.2.1
  have hnc := h.2.1
  unfold maxLen at hm
  have KB := Lib.hid (nats_byt h.2.2.2.1)
  have IB := Lib.hid (nats_byt hi.2.2.2.1)
  have IL : Hid ((nats ins).length = 16) := Lib.hid ((nats_len ins).trans hi.1)
  have KL : (nats ks).length = n := (nats_len ks).trans h.1
  have RE : Hid (rounds N (wth (nats ins) (nats ks)) ((nats ks).drop 16) = block (nats ks) (nats ins)) := Lib.hid (by
    unfold block
    rw [KL, hN, Nat.mul_div_cancel_left _ (by decide)]
    rfl)
  have NBI := Lib.hid (fun i => nats_getD hi.2.2.2.1 i)
  have KD := Lib.hid (fun k => nats_drop ks k)
  obtain ⟨KK, hKK⟩ : ∃ KK, KK = nats ks := ⟨_, rfl⟩
  obtain ⟨II, hII⟩ : ∃ II, II = nats ins := ⟨_, rfl⟩
  have KW := Lib.hid hKK
  have IW := Lib.hid hII
  rw [← hKK] at KB RE
  rw [← hII] at IB IL RE
  obtain ⟨R, hR⟩ : ∃ R, R = block KK II := ⟨_, rfl⟩
  have GOAL : Hid (block (nats ks) (nats ins) = R) := Lib.hid (by rw [hR, hKK, hII])
  rw [← hR] at RE
  have RB : Hid (Byt R ∧ R.length = 16) := Lib.hid (by rw [hR]; exact ⟨block_byt KB.out IB.out, block_len _ _⟩)
  have HK := Lib.hid h
  have HI := Lib.hid hi
  have HX := Lib.hid hx
  have NN := Lib.hid hN
  obtain ⟨Z, hZ⟩ : ∃ Z, Z = List.replicate 16 0 := ⟨_, rfl⟩
  have HZ : Hid (∀ f : Nat → Nat, fil f 16 0 = Z) := Lib.hid fun f => by rw [fil_zero, hZ]
  have MK : Hid (∀ W : World, (Instr.makeSlice 78 (.int .i64 16) (.int .i64 16)).run Tryz.prog W = .ok (.slice (some ⟨W.heap.size, 0, none⟩) 16 16) (W.alloc (.cells (icells Z) 3))) := Lib.hid fun W => by rw [hZ]; exact make_i 16 (by decide) W
  have MKB : Hid (∀ W : World, (Instr.makeSlice 25 (.int .i64 16) (.int .i64 16)).run Tryz.prog W = .ok (.slice (some ⟨W.heap.size, 0, none⟩) 16 16) (W.alloc (.cells (bcells Z) 5))) := Lib.hid fun W => by rw [hZ]; exact make_b 16 (by decide) W
  rw [GOAL.out]
  clear hZ h hi hx hKK hII hR KL hN
  have mk0 := MK.out w
  obtain ⟨f0, hf0⟩ : ∃ f0 : Nat → Nat, f0 = fun i => II.getD i 0 := ⟨_, rfl⟩
  have F0 : Hid (fil f0 16 16 = II ∧ ∀ i, f0 i = II.getD i 0) := Lib.hid ⟨by rw [hf0]; exact list16 IL.out, fun i => by rw [hf0]⟩
  have R0 : Hid (IRow (w.alloc (.cells (icells Z) 3)) w.heap.size (fil f0 16 0)) := Lib.hid (by rw [HZ.out]; exact IRow.new w _)
  have B0 := Lib.hid ((Below.refl w.heap.size w).alloc (Nat.le_refl _) (.cells (icells Z) 3))
  clear hf0
  go_enter Tryz.func58, Tryz.ntmps58
  go_wp2_with fail
  clear mk0
  generalize w.alloc (.cells (icells Z) 3) = w1 at *
  go_loopw [8] (fun kv wr => ∃ j : Nat, kv = .int .i64 (j : Int) ∧ j ≤ 16 ∧ Hid (IRow wr w.heap.size (fil f0 16 j)) ∧ Hid (Below w.heap.size w wr)) (fun kv _ => 16 - (intOf kv).toNat)
  case atStart => exact ⟨0, rfl, by omega, R0, B0⟩
  case round =>
    obtain ⟨j, rfl, hj, HR, HB⟩ := hrel
    clear R0 B0
    by_cases hlt : j < 16
    · have c0 := HR.out.cell j (by rw [fil_len]; exact hlt)
      have fz0 := HR.out.free j
      have y0 := cell_getD (HI.out.below (HB.out.mono hB)) j hlt
      rw [NBI.out j, ← IW.out] at y0
      have by0 := IB.out.get j
      have FJ := F0.out.2 j
      have R2 : Hid (IRow (wr.setCell ⟨w.heap.size, j, none⟩ (.int .i64 ((f0 j : Nat) : Int))) w.heap.size (fil f0 16 (j + 1))) := Lib.hid (by have := HR.out.put j (f0 j); rwa [fil_set] at this)
      have B2 := Lib.hid (HB.out.setCell (p := ⟨w.heap.size, j, none⟩) (Nat.le_refl _) (.int .i64 ((f0 j : Nat) : Int)))
      rw [FJ] at R2 B2
      generalize (fil f0 16 j).getD j 0 = old at *
      generalize II.getD j 0 = y at *
      have e2 : IntKind.i64.wrap (y : Int) = (y : Int) := IntWalk.i64_in _ (by omega)
      clear FJ HR HB
      go_wp2_with fail
      go_roundw
      case rel => exact ⟨j + 1, by go_num, by omega, R2, B2⟩
      case measure => simp [intOf]; omega
    · obtain rfl : j = 16 := by omega
      have RF : Hid (IRow wr w.heap.size II) := Lib.hid (by have := HR.out; rwa [F0.out.1] at this)
      have hbs := HB.out.size
      clear HR F0 hj hlt
      go_wp2_with fail
      refine (with_ref w.heap.size II (some ⟨q, p, none⟩) n c ks wr B RF.out IL.out IB.out (HK.out.below (HB.out.mono hB)) (by omega) (by have := NN.out; omega)).mono ?_
      rintro e w2 ⟨rfl, r2, hb⟩
      have B2 := Lib.hid (HB.out.trans (hb.mono hbs))
      have R2 : Hid (IRow w2 wr.heap.size (wth II KK)) := Lib.hid (by rw [KW.out]; exact r2)
      have W2 : Hid (Byt (wth II KK) ∧ (wth II KK).length = 16) := Lib.hid ⟨wth_byt IB.out KB.out, row_len _⟩
      obtain ⟨l0, hl0⟩ : ∃ l0, l0 = wth II KK := ⟨_, rfl⟩
      rw [← hl0] at R2 W2 RE
      obtain ⟨g0, hg0⟩ : ∃ g0, g0 = wr.heap.size := ⟨_, rfl⟩
      rw [← hg0] at R2 ⊢
      clear hb r2 RF HB hbs hl0 hg0
      go_wp2_with fail
      go_loopw [7, 9] (fun bv kv wr => ∃ (m gb kk : Nat) (l : List Nat), kv = .int .i64 (kk : Int) ∧ bv = .slice (some ⟨gb, 0, none⟩) 16 16 ∧ Hid (kk = 16 * m) ∧ Hid (1 ≤ m ∧ m ≤ N + 1) ∧ Hid (IRow wr gb l) ∧ Hid (Byt l ∧ l.length = 16) ∧ Hid (rounds (N + 1 - m) l (KK.drop (16 * m)) = R) ∧ Hid (Below w.heap.size w wr)) (fun _ kv _ => n - (intOf kv).toNat)
      case atStart => exact ⟨1, g0, 16, l0, rfl, rfl, Lib.hid rfl, Lib.hid (by omega), R2, W2, RE, B2⟩
      case round =>
        obtain ⟨m, gb, kk, l, rfl, rfl, HKK, HM, HRB, HL, HE, HB⟩ := hrel
        generalize wr = wo at *
        clear R2 W2 RE B2
        have hkk := HKK.out
        have hmm := HM.out
        have hnn := NN.out
        by_cases hlt : m < N + 1
        · have kn : kk < n := by omega
          have gk : decide ((kk : Int) < (n : Int)) = true := decide_eq_true (by omega)
          have gk' : decide (kk < n) = true := decide_eq_true kn
          have mk1 := MK.out wo
          obtain ⟨f1, hf1⟩ : ∃ f1 : Nat → Nat, f1 = fun i => Box (l.getD (src i) 0) := ⟨_, rfl⟩
          have F1 : Hid (fil f1 16 16 = sub l ∧ ∀ i, f1 i = Box (l.getD (src i) 0)) := Lib.hid ⟨by rw [fil_full, hf1]; rfl, fun i => by rw [hf1]⟩
          have RC : Hid (IRow (wo.alloc (.cells (icells Z) 3)) wo.heap.size (fil f1 16 0)) := Lib.hid (by rw [HZ.out]; exact IRow.new wo _)
          have BC := Lib.hid ((Below.refl wo.heap.size wo).alloc (Nat.le_refl _) (.cells (icells Z) 3))
          have hwr := HB.out.size
          clear hf1 hlt hkk hmm hnn
          go_wp2_with fail
          clear mk1 gk gk'
          obtain ⟨gc, hgc⟩ : ∃ gc, gc = wo.heap.size := ⟨_, rfl⟩
          generalize wo.alloc (.cells (icells Z) 3) = wc at *
          rw [← hgc] at RC BC ⊢
          have GC := Lib.hid hgc
          clear hgc
          go_loopw [11] (fun kv wr => ∃ j : Nat, kv = .int .i64 (j : Int) ∧ j ≤ 16 ∧ Hid (IRow wr gc (fil f1 16 j)) ∧ Hid (Below gc wo wr)) (fun kv _ => 16 - (intOf kv).toNat)
          case atStart => exact ⟨0, rfl, by omega, RC, BC⟩
          case round =>
            obtain ⟨j, rfl, hj, HR, HC⟩ := hrel
            clear RC BC
            by_cases hlt : j < 16
            · have c0 := HR.out.cell j (by rw [fil_len]; exact hlt)
              have fz0 := HR.out.free j
              have hs := src_lt hlt
              have hsd : src j = j % 4 + 4 * ((j / 4 + j % 4) % 4) := rfl
              have x0 := (HRB.out.below HC.out (by have := HRB.out.lt; rw [GC.out]; exact this)).cell (src j) (by rw [HL.out.2]; exact hs)
              have xl := HL.out.1.get (src j)
              have z0 := ((HX.out.up HB.out).below HC.out (by have := (HX.out.up HB.out).lt; rw [GC.out]; exact this)).cell (l.getD (src j) 0) (by rw [boxes_len]; exact xl)
              rw [boxes_get xl] at z0
              have FJ := F1.out.2 j
              have R2 : Hid (IRow (wr.setCell ⟨gc, j, none⟩ (.int .i64 ((f1 j : Nat) : Int))) gc (fil f1 16 (j + 1))) := Lib.hid (by have := HR.out.put j (f1 j); rwa [fil_set] at this)
              have B2 := Lib.hid (HC.out.setCell (p := ⟨gc, j, none⟩) (Nat.le_refl _) (.int .i64 ((f1 j : Nat) : Int)))
              rw [FJ] at R2 B2
              obtain ⟨s, hsv⟩ : ∃ s, s = src j := ⟨_, rfl⟩
              rw [← hsv] at hs hsd x0 xl z0 R2 B2
              generalize (fil f1 16 j).getD j 0 = old at *
              generalize l.getD s 0 = x at *
              generalize Box x = bx at *
              have e1 : (j : Int).tmod 4 = (j : Int) % 4 := Int.tmod_eq_emod_of_nonneg (by omega)
              have e2 : (j : Int).tdiv 4 = (j : Int) / 4 := Int.tdiv_eq_ediv_of_nonneg (by omega)
              have e3 : IntKind.i64.wrap ((j : Int) / 4) = (j : Int) / 4 := IntWalk.i64_in _ (by omega)
              have e4 : IntKind.i64.wrap ((j : Int) / 4 + (j : Int) % 4) = (j : Int) / 4 + (j : Int) % 4 := IntWalk.i64_in _ (by omega)
              have e5 : ((j : Int) / 4 + (j : Int) % 4).tmod 4 = ((j : Int) / 4 + (j : Int) % 4) % 4 := Int.tmod_eq_emod_of_nonneg (by omega)
              have e6 : IntKind.i64.wrap (4 * (((j : Int) / 4 + (j : Int) % 4) % 4)) = 4 * (((j : Int) / 4 + (j : Int) % 4) % 4) := IntWalk.i64_in _ (by omega)
              have e7 : IntKind.i64.wrap ((j : Int) % 4 + 4 * (((j : Int) / 4 + (j : Int) % 4) % 4)) = (s : Int) := by rw [IntWalk.i64_in _ (by omega)]; omega
              have es : j % 4 + 4 * ((j / 4 + j) % 4) = s := by rw [hsd]; omega
              clear FJ HR HC hsd hsv
              go_wp2_with fail
              go_roundw
              case rel => exact ⟨j + 1, by go_num, by omega, R2, B2⟩
              case measure => simp [intOf]; omega
            · obtain rfl : j = 16 := by omega
              generalize wr = wq at *
              have RS : Hid (IRow wq gc (sub l)) := Lib.hid (by have := HR.out; rwa [F1.out.1] at this)
              have BS := Lib.hid (HB.out.trans (HC.out.mono (by rw [GC.out]; exact hwr)))
              have SL : Hid (Byt (sub l) ∧ (sub l).length = 16) := Lib.hid ⟨sub_byt HL.out.1, row_len _⟩
              have RR : Hid (rounds (N + 1 - (m + 1)) (wth (if N - m = 0 then sub l else mixl (sub l)) (KK.drop (16 * m))) (KK.drop (16 * (m + 1))) = R) := Lib.hid (by
                have hlm := HM.out
                have hq : m < N + 1 := by have := HKK.out; have := NN.out; omega
                have := HE.out
                rw [show N + 1 - m = (N - m) + 1 by omega, rounds, List.drop_drop] at this
                rw [show N + 1 - (m + 1) = N - m by omega, show 16 * (m + 1) = 16 * m + 16 by omega]
                exact this)
              obtain ⟨sl, hsl⟩ : ∃ sl, sl = sub l := ⟨_, rfl⟩
              rw [← hsl] at RS SL RR
              have HLT : Hid (m < N + 1) := Lib.hid (by have := HKK.out; have := NN.out; omega)
              clear HR HC F1 hj hlt hsl HE HRB HL
              have hkk := HKK.out
              have hnn := NN.out
              have hw16 : IntKind.i64.wrap ((kk : Int) + 16) = ((kk + 16 : Nat) : Int) := by rw [IntWalk.i64_in _ (by omega)]; omega
              obtain ⟨k2, hk2⟩ : ∃ k2, k2 = kk + 16 := ⟨_, rfl⟩
              rw [← hk2] at hw16
              have HK2 := Lib.hid hk2
              have slc : ∀ W : World, (Instr.sliceAt 25 (.slice (some ⟨q, p, none⟩) n c) (some (.int .i64 (kk : Int))) none none).run Tryz.prog W = .ok (.slice (some (adr q p c kk)) (n - kk) (c - kk)) W := fun W => cutA_l q p n c kk W (by omega) hnc
              have SC := Lib.hid slc
              by_cases last : N - m = 0
              · have RR2 : Hid (rounds (N + 1 - (m + 1)) (wth sl (KK.drop (16 * m))) (KK.drop (16 * (m + 1))) = R) := Lib.hid (by have := RR.out; rwa [if_pos last] at this)
                have g16 : decide ((k2 : Int) < (n : Int)) = false := decide_eq_false (by have := HLT.out; omega)
                have g16' : decide (k2 < n) = false := decide_eq_false (by have := HLT.out; omega)
                have hwd := BS.out.size
                clear RR last hk2 hkk hnn
                go_wp2_with fail
                refine (with_ref gc sl (some (adr q p c kk)) (n - kk) (c - kk) (ks.drop kk) wq B RS.out SL.out.2 SL.out.1 (cutA_rest (HK.out.below (BS.out.mono hB)) (by have := HKK.out; have := NN.out; have := HLT.out; omega)) (by omega) (by have := HKK.out; have := NN.out; have := HLT.out; omega)).mono ?_
                rintro e wg ⟨rfl, rg, hb⟩
                have RG : Hid (IRow wg wq.heap.size (wth sl (KK.drop (16 * m)))) := Lib.hid (by
                  have := KD.out kk
                  rw [← KW.out, HKK.out] at this
                  rw [HKK.out, this] at rg
                  exact rg)
                have BG := Lib.hid (BS.out.trans (hb.mono hwd))
                have WG : Hid (Byt (wth sl (KK.drop (16 * m))) ∧ (wth sl (KK.drop (16 * m))).length = 16) := Lib.hid ⟨wth_byt SL.out.1 (KB.out.drop _), row_len _⟩
                have HM2 : Hid (1 ≤ m + 1 ∧ m + 1 ≤ N + 1) := Lib.hid (by have := HLT.out; omega)
                have HKK2 : Hid (k2 = 16 * (m + 1)) := Lib.hid (by have := HKK.out; have := HK2.out; omega)
                have MS : Hid (n - k2 < n - kk) := Lib.hid (by have := HKK.out; have := NN.out; have := HLT.out; have := HK2.out; omega)
                clear rg hb
                go_wp2_with fail
                go_roundw
                case rel => exact ⟨m + 1, _, k2, _, by go_num, rfl, HKK2, HM2, RG, WG, RR2, BG⟩
                case measure => have := MS.out; simp [intOf]; omega
              · have RR2 : Hid (rounds (N + 1 - (m + 1)) (wth (mixl sl) (KK.drop (16 * m))) (KK.drop (16 * (m + 1))) = R) := Lib.hid (by have := RR.out; rwa [if_neg last] at this)
                have g16 : decide ((k2 : Int) < (n : Int)) = true := decide_eq_true (by have := HLT.out; omega)
                have g16' : decide (k2 < n) = true := decide_eq_true (by have := HLT.out; omega)
                have mk2 := MK.out wq
                obtain ⟨f2, hf2⟩ : ∃ f2 : Nat → Nat, f2 = fun i => mix4 (sl.getD i 0) (sl.getD (i / 4 * 4 + (i + 1) % 4) 0) (sl.getD (i / 4 * 4 + (i + 2) % 4) 0) (sl.getD (i / 4 * 4 + (i + 3) % 4) 0) := ⟨_, rfl⟩
                have F2 : Hid (fil f2 16 16 = mixl sl ∧ ∀ i, f2 i = mix4 (sl.getD i 0) (sl.getD (i / 4 * 4 + (i + 1) % 4) 0) (sl.getD (i / 4 * 4 + (i + 2) % 4) 0) (sl.getD (i / 4 * 4 + (i + 3) % 4) 0)) := Lib.hid ⟨by rw [fil_full, hf2]; rfl, fun i => by rw [hf2]⟩
                have RD : Hid (IRow (wq.alloc (.cells (icells Z) 3)) wq.heap.size (fil f2 16 0)) := Lib.hid (by rw [HZ.out]; exact IRow.new wq _)
                have BD := Lib.hid ((Below.refl wq.heap.size wq).alloc (Nat.le_refl _) (.cells (icells Z) 3))
                have hwd := BS.out.size
                clear hf2 RR last hk2 hkk hnn
                go_wp2_with fail
                clear mk2 g16 g16' slc
                obtain ⟨gd, hgd⟩ : ∃ gd, gd = wq.heap.size := ⟨_, rfl⟩
                generalize wq.alloc (.cells (icells Z) 3) = we at *
                rw [← hgd] at RD BD ⊢
                have GD := Lib.hid hgd
                clear hgd
                go_loopw [13] (fun kv wr => ∃ j : Nat, kv = .int .i64 (j : Int) ∧ j ≤ 16 ∧ Hid (IRow wr gd (fil f2 16 j)) ∧ Hid (Below gd wq wr)) (fun kv _ => 16 - (intOf kv).toNat)
                case atStart => exact ⟨0, rfl, by omega, RD, BD⟩
                case round =>
                  obtain ⟨j, rfl, hj, HR, HC⟩ := hrel
                  clear RD BD
                  by_cases hlt : j < 16
                  · have FJ := Lib.hid (F2.out.2 j)
                    have CR : Hid (IRow wr gc sl) := Lib.hid (RS.out.below HC.out (by have := RS.out.lt; rw [GD.out]; exact this))
                    obtain ⟨fr, hfr⟩ : ∃ fr, fr = j / 4 * 4 := ⟨_, rfl⟩
                    obtain ⟨s1, hs1⟩ : ∃ s1, s1 = fr + (j + 1) % 4 := ⟨_, rfl⟩
                    obtain ⟨s2, hs2⟩ : ∃ s2, s2 = fr + (j + 2) % 4 := ⟨_, rfl⟩
                    obtain ⟨s3, hs3⟩ : ∃ s3, s3 = fr + (j + 3) % 4 := ⟨_, rfl⟩
                    rw [← hfr, ← hs1, ← hs2, ← hs3] at FJ
                    have l1 : s1 < 16 := by omega
                    have l2 : s2 < 16 := by omega
                    have l3 : s3 < 16 := by omega
                    have q1 : (fr : Int) + ((j : Int) + 1) % 4 = (s1 : Int) := by omega
                    have q2 : (fr : Int) + ((j : Int) + 2) % 4 = (s2 : Int) := by omega
                    have q3 : (fr : Int) + ((j : Int) + 3) % 4 = (s3 : Int) := by omega
                    have d1 : (j : Int).tdiv 4 = (j : Int) / 4 := Int.tdiv_eq_ediv_of_nonneg (by omega)
                    have d2 : IntKind.i64.wrap ((j : Int) / 4) = (j : Int) / 4 := IntWalk.i64_in _ (by omega)
                    have d3 : IntKind.i64.wrap ((j : Int) / 4 * 4) = (fr : Int) := by rw [IntWalk.i64_in _ (by omega)]; omega
                    have frl : fr < 16 := by omega
                    have b0 := SL.out.1.get j
                    have b1 := SL.out.1.get s1
                    have b2 := SL.out.1.get s2
                    have b3 := SL.out.1.get s3
                    have XC : Hid (∀ w' : World, Below wr.drew.heap.size wr.drew w' → w'.cell? ⟨gc, j, none⟩ = some (.int .i64 ((sl.getD j 0 : Nat) : Int)) ∧ w'.cell? ⟨gc, s1, none⟩ = some (.int .i64 ((sl.getD s1 0 : Nat) : Int)) ∧ w'.cell? ⟨gc, s2, none⟩ = some (.int .i64 ((sl.getD s2 0 : Nat) : Int)) ∧ w'.cell? ⟨gc, s3, none⟩ = some (.int .i64 ((sl.getD s3 0 : Nat) : Int))) := Lib.hid fun w' hw => by
                      have r : IRow w' gc sl := IRow.up (show IRow wr.drew gc sl from CR.out) hw
                      exact ⟨r.cell j (by rw [SL.out.2]; exact hlt), r.cell s1 (by rw [SL.out.2]; exact l1), r.cell s2 (by rw [SL.out.2]; exact l2), r.cell s3 (by rw [SL.out.2]; exact l3)⟩
                    generalize sl.getD j 0 = x0 at *
                    generalize sl.getD s1 0 = x1 at *
                    generalize sl.getD s2 0 = x2 at *
                    generalize sl.getD s3 0 = x3 at *
                    have t0 := T_lt b0 2
                    have t1 := T_lt b1 3
                    have C2 := Lib.hid (fun W => times_ref x0 2 b0 (by decide) W)
                    have C3 := Lib.hid (fun W => times_ref x1 3 b1 (by decide) W)
                    have M4 : Hid (mix4 x0 x1 x2 x3 = T x0 2 ^^^ T x1 3 ^^^ x2 ^^^ x3) := Lib.hid rfl
                    generalize T x0 2 = u0 at *
                    generalize T x1 3 = u1 at *
                    have v1 := xor_lt t0 t1
                    obtain ⟨y1, hy1⟩ : ∃ y1, y1 = u0 ^^^ u1 := ⟨_, rfl⟩
                    have X1 : Hid (bits .xor .i64 (u0 : Int) (u1 : Int) = (y1 : Int)) := Lib.hid (by rw [i64_xor (by omega) (by omega), hy1])
                    rw [← hy1] at M4 v1
                    have v2 := xor_lt v1 b2
                    obtain ⟨y2, hy2⟩ : ∃ y2, y2 = y1 ^^^ x2 := ⟨_, rfl⟩
                    have X2 : Hid (bits .xor .i64 (y1 : Int) (x2 : Int) = (y2 : Int)) := Lib.hid (by rw [i64_xor (by omega) (by omega), hy2])
                    rw [← hy2] at M4 v2
                    obtain ⟨y3, hy3⟩ : ∃ y3, y3 = y2 ^^^ x3 := ⟨_, rfl⟩
                    have X3 : Hid (bits .xor .i64 (y2 : Int) (x3 : Int) = (y3 : Int)) := Lib.hid (by rw [i64_xor (by omega) (by omega), hy3])
                    rw [← hy3] at M4
                    have FY : Hid (f2 j = y3) := Lib.hid (FJ.out.trans M4.out)
                    clear hfr hs1 hs2 hs3 hy1 hy2 hy3 FJ M4 CR
                    go_wp2_with fail
                    clear d1 d2 d3
                    have HW : Hid (IRow wr.drew gd (fil f2 16 j)) := Lib.hid HR.out
                    refine wp_region_free [0, 1, 2, 3, 4, 5, 6, 7, 8, 9, 10, 11, 12, 13, 14, 15, 16, 17, 18, 19, 20, 21, 22, 23, 24, 25, 26, 27, 28, 29, 30, 31, 32, 33, 34] 35 [36] (fun w1 w2 => Below w1.heap.size w1 w2) (fun k' w' v => match k' with
                      | 0 => v = .slice (some ⟨gd, 0, none⟩) 16 16
                      | 1 => v = .int .i64 ((j : Int))
                      | 2 => v = .slice (some ⟨gc, 0, none⟩) 16 16
                      | 3 => v = .int .i64 ((j : Int))
                      | 4 => v = .pointer (some ⟨gc, j, none⟩)
                      | 5 => v = .int .i64 ((x0 : Int))
                      | 6 => v = .int .i64 ((u0 : Int))
                      | 7 => v = .slice (some ⟨gc, 0, none⟩) 16 16
                      | 8 => v = .int .i64 ((fr : Int))
                      | 9 => v = .int .i64 ((j : Int))
                      | 10 => v = .int .i64 ((j : Int) + 1)
                      | 11 => v = .int .i64 (((j : Int) + 1) % 4)
                      | 12 => v = .int .i64 ((fr : Int) + (((j : Int) + 1) % 4))
                      | 13 => v = .pointer (some ⟨gc, s1, none⟩)
                      | 14 => v = .int .i64 ((x1 : Int))
                      | 15 => v = .int .i64 ((u1 : Int))
                      | 16 => v = .int .i64 ((y1 : Int))
                      | 17 => v = .slice (some ⟨gc, 0, none⟩) 16 16
                      | 18 => v = .int .i64 ((fr : Int))
                      | 19 => v = .int .i64 ((j : Int))
                      | 20 => v = .int .i64 ((j : Int) + 2)
                      | 21 => v = .int .i64 (((j : Int) + 2) % 4)
                      | 22 => v = .int .i64 ((fr : Int) + (((j : Int) + 2) % 4))
                      | 23 => v = .pointer (some ⟨gc, s2, none⟩)
                      | 24 => v = .int .i64 ((x2 : Int))
                      | 25 => v = .int .i64 ((y2 : Int))
                      | 26 => v = .slice (some ⟨gc, 0, none⟩) 16 16
                      | 27 => v = .int .i64 ((fr : Int))
                      | 28 => v = .int .i64 ((j : Int))
                      | 29 => v = .int .i64 ((j : Int) + 3)
                      | 30 => v = .int .i64 (((j : Int) + 3) % 4)
                      | 31 => v = .int .i64 ((fr : Int) + (((j : Int) + 3) % 4))
                      | 32 => v = .pointer (some ⟨gc, s3, none⟩)
                      | 33 => v = .int .i64 ((x3 : Int))
                      | _ => v = .int .i64 ((y3 : Int))) (by kernel_rfl) (by kernel_rfl) (Below.refl _ _) (fun _ _ _ h k => h.trans (k.mono h.size)) (fun k' w1 w2 v h => match k' with
                      | 0 => fun x => x
                      | 1 => fun x => x
                      | 2 => fun x => x
                      | 3 => fun x => x
                      | 4 => fun x => x
                      | 5 => fun x => x
                      | 6 => fun x => x
                      | 7 => fun x => x
                      | 8 => fun x => x
                      | 9 => fun x => x
                      | 10 => fun x => x
                      | 11 => fun x => x
                      | 12 => fun x => x
                      | 13 => fun x => x
                      | 14 => fun x => x
                      | 15 => fun x => x
                      | 16 => fun x => x
                      | 17 => fun x => x
                      | 18 => fun x => x
                      | 19 => fun x => x
                      | 20 => fun x => x
                      | 21 => fun x => x
                      | 22 => fun x => x
                      | 23 => fun x => x
                      | 24 => fun x => x
                      | 25 => fun x => x
                      | 26 => fun x => x
                      | 27 => fun x => x
                      | 28 => fun x => x
                      | 29 => fun x => x
                      | 30 => fun x => x
                      | 31 => fun x => x
                      | 32 => fun x => x
                      | 33 => fun x => x
                      | _ + 34 => fun x => x) (fun _ _ _ _ _ h => h) ?_ _ (by rfl) ?_
                    · refine obs_cons (by rfl) (fun vals w' hgr hdep K hK => ?_) (obs_cons (by rfl) (fun vals w' hgr hdep K hK => ?_) (obs_cons (by rfl) (fun vals w' hgr hdep K hK => ?_) (obs_cons (by rfl) (fun vals w' hgr hdep K hK => ?_) (obs_cons (by rfl) (fun vals w' hgr hdep K hK => ?_) (obs_cons (by rfl) (fun vals w' hgr hdep K hK => ?_) (obs_cons (by rfl) (fun vals w' hgr hdep K hK => ?_) (obs_cons (by rfl) (fun vals w' hgr hdep K hK => ?_) (obs_cons (by rfl) (fun vals w' hgr hdep K hK => ?_) (obs_cons (by rfl) (fun vals w' hgr hdep K hK => ?_) (obs_cons (by rfl) (fun vals w' hgr hdep K hK => ?_) (obs_cons (by rfl) (fun vals w' hgr hdep K hK => ?_) (obs_cons (by rfl) (fun vals w' hgr hdep K hK => ?_) (obs_cons (by rfl) (fun vals w' hgr hdep K hK => ?_) (obs_cons (by rfl) (fun vals w' hgr hdep K hK => ?_) (obs_cons (by rfl) (fun vals w' hgr hdep K hK => ?_) (obs_cons (by rfl) (fun vals w' hgr hdep K hK => ?_) (obs_cons (by rfl) (fun vals w' hgr hdep K hK => ?_) (obs_cons (by rfl) (fun vals w' hgr hdep K hK => ?_) (obs_cons (by rfl) (fun vals w' hgr hdep K hK => ?_) (obs_cons (by rfl) (fun vals w' hgr hdep K hK => ?_) (obs_cons (by rfl) (fun vals w' hgr hdep K hK => ?_) (obs_cons (by rfl) (fun vals w' hgr hdep K hK => ?_) (obs_cons (by rfl) (fun vals w' hgr hdep K hK => ?_) (obs_cons (by rfl) (fun vals w' hgr hdep K hK => ?_) (obs_cons (by rfl) (fun vals w' hgr hdep K hK => ?_) (obs_cons (by rfl) (fun vals w' hgr hdep K hK => ?_) (obs_cons (by rfl) (fun vals w' hgr hdep K hK => ?_) (obs_cons (by rfl) (fun vals w' hgr hdep K hK => ?_) (obs_cons (by rfl) (fun vals w' hgr hdep K hK => ?_) (obs_cons (by rfl) (fun vals w' hgr hdep K hK => ?_) (obs_cons (by rfl) (fun vals w' hgr hdep K hK => ?_) (obs_cons (by rfl) (fun vals w' hgr hdep K hK => ?_) (obs_cons (by rfl) (fun vals w' hgr hdep K hK => ?_) (obs_cons (by rfl) (fun vals w' hgr hdep K hK => ?_) (obs_nil)))))))))))))))))))))))))))))))))))
                      · exact wp_move (.tmp 12) rfl _ (at_out _ (by kernel_rfl) rfl) (hK _ _ (Below.refl _ _) rfl)
                      · exact wp_move (.tmp 13) rfl _ (at_out _ (by kernel_rfl) rfl) (hK _ _ (Below.refl _ _) rfl)
                      · exact wp_move (.tmp 10) rfl _ (at_out _ (by kernel_rfl) rfl) (hK _ _ (Below.refl _ _) rfl)
                      · exact wp_move (.tmp 13) rfl _ (at_out _ (by kernel_rfl) rfl) (hK _ _ (Below.refl _ _) rfl)
                      · exact st_int_at0 (.tmp 78) (.tmp 79) rfl gc 16 16 j _ ((at_dst 2 (by kernel_rfl)).trans (hdep 2 (by simp) (by kernel_rfl))) ((at_dst 3 (by kernel_rfl)).trans (hdep 3 (by simp) (by kernel_rfl))) rfl hlt (hK _ _ (Below.refl _ _) rfl)
                      · exact wp_load1 (.tmp 80) rfl ⟨gc, j, none⟩ ((at_dst 4 (by kernel_rfl)).trans (hdep 4 (by simp) (by kernel_rfl))) Tryz.underlying3 rfl _ ((XC.out w' hgr).1) (hK _ _ (Below.refl _ _) rfl)
                      · exact wp_call 67 [.tmp 81, .const (.int .i64 2)] _ rfl ent_times [.int .i64 (x0 : Int), .int .i64 2] (congrArg (fun z => [z, Value.int .i64 2]) ((at_dst 5 (by kernel_rfl)).trans (hdep 5 (by simp) (by kernel_rfl)))) (fun v w'' => v = .int .i64 (u0 : Int) ∧ w' = w'') ((C2.out w').mono fun e w'' ⟨h1, h2⟩ => ⟨_, h1, rfl, h2⟩) (fun v w'' ⟨h1, h2⟩ => by subst h2; exact hK v _ (Below.refl _ _) h1)
                      · exact wp_move (.tmp 10) rfl _ (at_out _ (by kernel_rfl) rfl) (hK _ _ (Below.refl _ _) rfl)
                      · exact wp_move (.tmp 14) rfl _ (at_out _ (by kernel_rfl) rfl) (hK _ _ (Below.refl _ _) rfl)
                      · exact wp_move (.tmp 13) rfl _ (at_out _ (by kernel_rfl) rfl) (hK _ _ (Below.refl _ _) rfl)
                      · exact wp_bin (.tmp 85) (.const (.int .i64 1)) rfl _ _ _ ((at_dst 9 (by kernel_rfl)).trans (hdep 9 (by simp) (by kernel_rfl))) rfl (b_add _ _ _ _ _ (by omega) (by omega)) (hK _ _ (Below.refl _ _) rfl)
                      · exact wp_bin (.tmp 86) (.const (.int .i64 4)) rfl _ _ _ ((at_dst 10 (by kernel_rfl)).trans (hdep 10 (by simp) (by kernel_rfl))) rfl (b_rem _ _ _ _ _ (by omega) (by omega) (by omega)) (hK _ _ (Below.refl _ _) rfl)
                      · exact wp_bin (.tmp 84) (.tmp 87) rfl _ _ _ ((at_dst 8 (by kernel_rfl)).trans (hdep 8 (by simp) (by kernel_rfl))) ((at_dst 11 (by kernel_rfl)).trans (hdep 11 (by simp) (by kernel_rfl))) (b_add _ _ _ _ _ (by omega) (by omega)) (hK _ _ (Below.refl _ _) rfl)
                      · exact st_int_at0 (.tmp 83) (.tmp 88) rfl gc 16 16 s1 _ ((at_dst 7 (by kernel_rfl)).trans (hdep 7 (by simp) (by kernel_rfl))) ((at_dst 12 (by kernel_rfl)).trans (hdep 12 (by simp) (by kernel_rfl))) q1 l1 (hK _ _ (Below.refl _ _) rfl)
                      · exact wp_load1 (.tmp 89) rfl ⟨gc, s1, none⟩ ((at_dst 13 (by kernel_rfl)).trans (hdep 13 (by simp) (by kernel_rfl))) Tryz.underlying3 rfl _ ((XC.out w' hgr).2.1) (hK _ _ (Below.refl _ _) rfl)
                      · exact wp_call 67 [.tmp 90, .const (.int .i64 3)] _ rfl ent_times [.int .i64 (x1 : Int), .int .i64 3] (congrArg (fun z => [z, Value.int .i64 3]) ((at_dst 14 (by kernel_rfl)).trans (hdep 14 (by simp) (by kernel_rfl)))) (fun v w'' => v = .int .i64 (u1 : Int) ∧ w' = w'') ((C3.out w').mono fun e w'' ⟨h1, h2⟩ => ⟨_, h1, rfl, h2⟩) (fun v w'' ⟨h1, h2⟩ => by subst h2; exact hK v _ (Below.refl _ _) h1)
                      · exact wp_bin (.tmp 82) (.tmp 91) rfl _ _ _ ((at_dst 6 (by kernel_rfl)).trans (hdep 6 (by simp) (by kernel_rfl))) ((at_dst 15 (by kernel_rfl)).trans (hdep 15 (by simp) (by kernel_rfl))) (b_xor _ _ _ _ _ _ X1.out) (hK _ _ (Below.refl _ _) rfl)
                      · exact wp_move (.tmp 10) rfl _ (at_out _ (by kernel_rfl) rfl) (hK _ _ (Below.refl _ _) rfl)
                      · exact wp_move (.tmp 14) rfl _ (at_out _ (by kernel_rfl) rfl) (hK _ _ (Below.refl _ _) rfl)
                      · exact wp_move (.tmp 13) rfl _ (at_out _ (by kernel_rfl) rfl) (hK _ _ (Below.refl _ _) rfl)
                      · exact wp_bin (.tmp 95) (.const (.int .i64 2)) rfl _ _ _ ((at_dst 19 (by kernel_rfl)).trans (hdep 19 (by simp) (by kernel_rfl))) rfl (b_add _ _ _ _ _ (by omega) (by omega)) (hK _ _ (Below.refl _ _) rfl)
                      · exact wp_bin (.tmp 96) (.const (.int .i64 4)) rfl _ _ _ ((at_dst 20 (by kernel_rfl)).trans (hdep 20 (by simp) (by kernel_rfl))) rfl (b_rem _ _ _ _ _ (by omega) (by omega) (by omega)) (hK _ _ (Below.refl _ _) rfl)
                      · exact wp_bin (.tmp 94) (.tmp 97) rfl _ _ _ ((at_dst 18 (by kernel_rfl)).trans (hdep 18 (by simp) (by kernel_rfl))) ((at_dst 21 (by kernel_rfl)).trans (hdep 21 (by simp) (by kernel_rfl))) (b_add _ _ _ _ _ (by omega) (by omega)) (hK _ _ (Below.refl _ _) rfl)
                      · exact st_int_at0 (.tmp 93) (.tmp 98) rfl gc 16 16 s2 _ ((at_dst 17 (by kernel_rfl)).trans (hdep 17 (by simp) (by kernel_rfl))) ((at_dst 22 (by kernel_rfl)).trans (hdep 22 (by simp) (by kernel_rfl))) q2 l2 (hK _ _ (Below.refl _ _) rfl)
                      · exact wp_load1 (.tmp 99) rfl ⟨gc, s2, none⟩ ((at_dst 23 (by kernel_rfl)).trans (hdep 23 (by simp) (by kernel_rfl))) Tryz.underlying3 rfl _ ((XC.out w' hgr).2.2.1) (hK _ _ (Below.refl _ _) rfl)
                      · exact wp_bin (.tmp 92) (.tmp 100) rfl _ _ _ ((at_dst 16 (by kernel_rfl)).trans (hdep 16 (by simp) (by kernel_rfl))) ((at_dst 24 (by kernel_rfl)).trans (hdep 24 (by simp) (by kernel_rfl))) (b_xor _ _ _ _ _ _ X2.out) (hK _ _ (Below.refl _ _) rfl)
                      · exact wp_move (.tmp 10) rfl _ (at_out _ (by kernel_rfl) rfl) (hK _ _ (Below.refl _ _) rfl)
                      · exact wp_move (.tmp 14) rfl _ (at_out _ (by kernel_rfl) rfl) (hK _ _ (Below.refl _ _) rfl)
                      · exact wp_move (.tmp 13) rfl _ (at_out _ (by kernel_rfl) rfl) (hK _ _ (Below.refl _ _) rfl)
                      · exact wp_bin (.tmp 104) (.const (.int .i64 3)) rfl _ _ _ ((at_dst 28 (by kernel_rfl)).trans (hdep 28 (by simp) (by kernel_rfl))) rfl (b_add _ _ _ _ _ (by omega) (by omega)) (hK _ _ (Below.refl _ _) rfl)
                      · exact wp_bin (.tmp 105) (.const (.int .i64 4)) rfl _ _ _ ((at_dst 29 (by kernel_rfl)).trans (hdep 29 (by simp) (by kernel_rfl))) rfl (b_rem _ _ _ _ _ (by omega) (by omega) (by omega)) (hK _ _ (Below.refl _ _) rfl)
                      · exact wp_bin (.tmp 103) (.tmp 106) rfl _ _ _ ((at_dst 27 (by kernel_rfl)).trans (hdep 27 (by simp) (by kernel_rfl))) ((at_dst 30 (by kernel_rfl)).trans (hdep 30 (by simp) (by kernel_rfl))) (b_add _ _ _ _ _ (by omega) (by omega)) (hK _ _ (Below.refl _ _) rfl)
                      · exact st_int_at0 (.tmp 102) (.tmp 107) rfl gc 16 16 s3 _ ((at_dst 26 (by kernel_rfl)).trans (hdep 26 (by simp) (by kernel_rfl))) ((at_dst 31 (by kernel_rfl)).trans (hdep 31 (by simp) (by kernel_rfl))) q3 l3 (hK _ _ (Below.refl _ _) rfl)
                      · exact wp_load1 (.tmp 108) rfl ⟨gc, s3, none⟩ ((at_dst 32 (by kernel_rfl)).trans (hdep 32 (by simp) (by kernel_rfl))) Tryz.underlying3 rfl _ ((XC.out w' hgr).2.2.2) (hK _ _ (Below.refl _ _) rfl)
                      · exact wp_bin (.tmp 101) (.tmp 109) rfl _ _ _ ((at_dst 25 (by kernel_rfl)).trans (hdep 25 (by simp) (by kernel_rfl))) ((at_dst 33 (by kernel_rfl)).trans (hdep 33 (by simp) (by kernel_rfl))) (b_xor _ _ _ _ _ _ X3.out) (hK _ _ (Below.refl _ _) rfl)
                    · intro vals w' hgr hG
                      refine st_int_at0 (.tmp 76) (.tmp 77) rfl gd 16 16 j _ ((at_dst 0 (by kernel_rfl)).trans (hG 0 (by simp))) ((at_dst 1 (by kernel_rfl)).trans (hG 1 (by simp))) rfl hlt ?_
                      have W8 := IRow.up HW.out hgr
                      refine wpAnyH_next 36 _ rfl rfl (by kernel_rfl) (st_store1 (.tmp 111) (.tmp 110) rfl ⟨gd, j, none⟩ (put_tmps_eq (fill_size _ _ _) (by kernel_rfl)) _ (put_tmps_ne (by rfl) ((at_dst 34 (by kernel_rfl)).trans (hG 34 (by simp)))) _ (W8.cell j (by rw [fil_len]; exact hlt)) (W8.free j) ⟨trivial, wpAnyH_done (by kernel_rfl) ?_ _⟩)
                      have R2 : Hid (IRow (w'.setCell ⟨gd, j, none⟩ (.int .i64 (y3 : Int))) gd (fil f2 16 (j + 1))) := Lib.hid (by have := W8.put j y3; rw [← FY.out, fil_set] at this; rw [← FY.out]; exact this)
                      have B2 : Hid (Below gd wq (w'.setCell ⟨gd, j, none⟩ (.int .i64 (y3 : Int)))) := Lib.hid (((below_drewN HC.out 1).trans (hgr.mono (Nat.le_of_lt HW.out.lt))).setCell (p := ⟨gd, j, none⟩) (Nat.le_refl _) (.int .i64 (y3 : Int)))
                      clear hG hgr W8 HR HC HW XC
                      simp only [fill, dstAt, List.getElem?_cons_zero, List.getElem?_cons_succ, Option.bind_some, Act.put, List.setIfInBounds_toArray, List.set_cons_zero, List.set_cons_succ]
                      generalize w'.setCell ⟨gd, j, none⟩ (.int .i64 (y3 : Int)) = w9 at *
                      generalize vals 0 = z0, vals 1 = z1, vals 2 = z2, vals 3 = z3, vals 4 = z4, vals 5 = z5, vals 6 = z6, vals 7 = z7, vals 8 = z8, vals 9 = z9, vals 10 = z10, vals 11 = z11, vals 12 = z12, vals 13 = z13, vals 14 = z14, vals 15 = z15, vals 16 = z16, vals 17 = z17, vals 18 = z18, vals 19 = z19, vals 20 = z20, vals 21 = z21, vals 22 = z22, vals 23 = z23, vals 24 = z24, vals 25 = z25, vals 26 = z26, vals 27 = z27, vals 28 = z28, vals 29 = z29, vals 30 = z30, vals 31 = z31, vals 32 = z32, vals 33 = z33, vals 34 = z34
                      go_wp2_with fail
                      go_roundw
                      case rel => exact ⟨j + 1, by go_num, by omega, R2, B2⟩
                      case measure => simp [intOf]; omega
                  · obtain rfl : j = 16 := by omega
                    have RM : Hid (IRow wr gd (mixl sl)) := Lib.hid (by have := HR.out; rwa [F2.out.1] at this)
                    have BM := Lib.hid (BS.out.trans (HC.out.mono (by rw [GD.out]; exact hwd)))
                    have ML : Hid (Byt (mixl sl) ∧ (mixl sl).length = 16) := Lib.hid ⟨mixl_byt SL.out.1, row_len _⟩
                    obtain ⟨ml, hml⟩ : ∃ ml, ml = mixl sl := ⟨_, rfl⟩
                    rw [← hml] at RM ML RR2
                    have slc := SC.out
                    have hwf := BM.out.size
                    clear HR HC F2 hj hlt hml
                    go_wp2_with fail
                    refine (with_ref gd ml (some (adr q p c kk)) (n - kk) (c - kk) (ks.drop kk) wr B RM.out ML.out.2 ML.out.1 (cutA_rest (HK.out.below (BM.out.mono hB)) (by have := HKK.out; have := NN.out; have := HLT.out; omega)) (by omega) (by have := HKK.out; have := NN.out; have := HLT.out; omega)).mono ?_
                    rintro e wg ⟨rfl, rg, hb⟩
                    have RG : Hid (IRow wg wr.heap.size (wth ml (KK.drop (16 * m)))) := Lib.hid (by
                      have := KD.out kk
                      rw [← KW.out, HKK.out] at this
                      rw [HKK.out, this] at rg
                      exact rg)
                    have BG := Lib.hid (BM.out.trans (hb.mono hwf))
                    have WG : Hid (Byt (wth ml (KK.drop (16 * m))) ∧ (wth ml (KK.drop (16 * m))).length = 16) := Lib.hid ⟨wth_byt ML.out.1 (KB.out.drop _), row_len _⟩
                    have HM2 : Hid (1 ≤ m + 1 ∧ m + 1 ≤ N + 1) := Lib.hid (by have := HLT.out; omega)
                    have HKK2 : Hid (k2 = 16 * (m + 1)) := Lib.hid (by have := HKK.out; have := HK2.out; omega)
                    have MS : Hid (n - k2 < n - kk) := Lib.hid (by have := HKK.out; have := NN.out; have := HLT.out; have := HK2.out; omega)
                    clear rg hb
                    go_wp2_with fail
                    go_roundw
                    case rel => exact ⟨m + 1, _, k2, _, by go_num, rfl, HKK2, HM2, RG, WG, RR2, BG⟩
                    case measure => have := MS.out; simp [intOf]; omega
        · obtain rfl : m = N + 1 := by omega
          have LR : Hid (l = R) := Lib.hid (by have := HE.out; rwa [Nat.sub_self] at this)
          have gk : decide ((kk : Int) < (n : Int)) = false := decide_eq_false (by omega)
          have gk' : decide (kk < n) = false := decide_eq_false (by omega)
          have mk3 := MKB.out wo
          obtain ⟨f3, hf3⟩ : ∃ f3 : Nat → Nat, f3 = fun i => R.getD i 0 := ⟨_, rfl⟩
          have F3 : Hid (fil f3 16 16 = R ∧ ∀ i, f3 i = R.getD i 0) := Lib.hid ⟨by rw [hf3]; exact list16 RB.out.2, fun i => by rw [hf3]⟩
          have RO : Hid (BRow (wo.alloc (.cells (bcells Z) 5)) wo.heap.size (fil f3 16 0)) := Lib.hid (by rw [HZ.out]; exact BRow.new wo _)
          have BO := Lib.hid ((Below.refl wo.heap.size wo).alloc (Nat.le_refl _) (.cells (bcells Z) 5))
          have RB2 : Hid (IRow wo gb R) := Lib.hid (by have := HRB.out; rwa [LR.out] at this)
          have hwr := HB.out.size
          clear hf3 hlt hkk hmm hnn HRB HL HE LR
          go_wp2_with fail
          clear mk3 gk gk'
          obtain ⟨gc, hgc⟩ : ∃ gc, gc = wo.heap.size := ⟨_, rfl⟩
          generalize wo.alloc (.cells (bcells Z) 5) = wc at *
          rw [← hgc] at RO BO ⊢
          have GC := Lib.hid hgc
          clear hgc
          go_loopw [16] (fun kv wr => ∃ j : Nat, kv = .int .i64 (j : Int) ∧ j ≤ 16 ∧ Hid (BRow wr gc (fil f3 16 j)) ∧ Hid (Below gc wo wr)) (fun kv _ => 16 - (intOf kv).toNat)
          case atStart => exact ⟨0, rfl, by omega, RO, BO⟩
          case round =>
            obtain ⟨j, rfl, hj, HR, HC⟩ := hrel
            clear RO BO
            by_cases hlt : j < 16
            · have c0 := HR.out.cell j (by rw [fil_len]; exact hlt)
              have fz0 := HR.out.free j
              have x0 := (RB2.out.below HC.out (by have := RB2.out.lt; rw [GC.out]; exact this)).cell j (by rw [RB.out.2]; exact hlt)
              have xl := RB.out.1.get j
              have FJ := F3.out.2 j
              have R2 : Hid (BRow (wr.setCell ⟨gc, j, none⟩ (.int .u8 ((f3 j : Nat) : Int))) gc (fil f3 16 (j + 1))) := Lib.hid (by have := HR.out.put j (f3 j); rwa [fil_set] at this)
              have B2 := Lib.hid (HC.out.setCell (p := ⟨gc, j, none⟩) (Nat.le_refl _) (.int .u8 ((f3 j : Nat) : Int)))
              rw [FJ] at R2 B2
              generalize (fil f3 16 j).getD j 0 = old at *
              generalize R.getD j 0 = x at *
              have e1 : IntKind.u8.wrap (x : Int) = (x : Int) := by rw [IntKind.wrap_u8]; omega
              clear FJ HR HC
              go_wp2_with fail
              go_roundw
              case rel => exact ⟨j + 1, by go_num, by omega, R2, B2⟩
              case measure => simp [intOf]; omega
            · obtain rfl : j = 16 := by omega
              have RF : BRow wr gc R := by have := HR.out; rwa [F3.out.1] at this
              have OO := RF.owns RB.out.1 (by rw [RB.out.2]; decide) (base := w.heap.size) (by rw [GC.out]; exact hwr)
              rw [RB.out.2] at OO
              have OH := Lib.hid OO
              have BF := Lib.hid (HB.out.trans (HC.out.mono (by rw [GC.out]; exact hwr)))
              clear OO RF HR HC
              go_wp2_with fail
              go_ret
              exact ⟨_, rfl, OH.out, BF.out⟩

end Go.Proofs.YtdnkbefpbehllaaGreatDoor.AesBy

