/- The contract of the code: a state after a block. -/
import Derived.Test.YtdnkbefpbehllaaDoorM24
import Derived.Test.YtdnkbefpbehllaaDoorM21
set_option linter.unusedVariables false
namespace Go.Proofs.YtdnkbefpbehllaaDoor.Dig4
open Go.RowKit Go.PlainAid Go.Proofs.YtdnkbefpbehllaaDoor.Sums Go.Proofs.YtdnkbefpbehllaaDoor.Mem Go.Proofs.YtdnkbefpbehllaaDoor.Blk Go.Proofs.YtdnkbefpbehllaaDoor.Bits Go.Proofs.YtdnkbefpbehllaaDoor.Bits3 Go.Proofs.YtdnkbefpbehllaaDoor.Ints Go.Proofs.YtdnkbefpbehllaaDoor.ShaD Go.Proofs.YtdnkbefpbehllaaDoor.Dig1 Go.Proofs.YtdnkbefpbehllaaDoor.OpsU Go.Proofs.YtdnkbefpbehllaaDoor.Dig2 Go.Proofs.YtdnkbefpbehllaaDoor.Dig3

theorem not_run {e : Nat} (he : e < M) : bits .xor .u32 4294967295 (e : Int) = ((M - 1 - e : Nat) : Int) := by
  have h : bits .xor .u32 ((4294967295 : Nat) : Int) (e : Int) = ((4294967295 ^^^ e : Nat) : Int) := Dig1.u32_xor (by decide) he
  rw [show (4294967295 : Int) = ((4294967295 : Nat) : Int) from rfl, h]
  congr 1
  apply Nat.eq_of_testBit_eq
  intro i
  rw [Nat.testBit_xor, not_bit he, show (4294967295 : Nat) = 2 ^ 32 - 1 from rfl, Nat.testBit_two_pow_sub_one]
  by_cases q : i < 32
  · simp [q]
  · have : e.testBit i = false := Nat.testBit_lt_two_pow (Nat.lt_of_lt_of_le he (Nat.pow_le_pow_right (n := 2) (by decide) (show 32 ≤ i by omega)))
    simp [q, this]
/-- What a step of the code reckons, one after the other. -/
theorem step_run {a b c d e f g h k x r6 r11 r25 r2 r13 r22 : Nat} (ha : a < M) (hb : b < M) (hc : c < M) (he : e < M) (hf : f < M) (hg : g < M)
    (h6 : r6 = rot e 6) (h11 : r11 = rot e 11) (h25 : r25 = rot e 25) (h2 : r2 = rot a 2) (h13 : r13 = rot a 13) (h22 : r22 = rot a 22) :
    ∃ v45 v47 v49 v50 v53 v56 v57 v60 v61 v67 v70 v71 v73 v77 v79 v84 v87 v89 na ne : Nat,
      bits .and .u32 (e : Int) (f : Int) = (v45 : Int) ∧ bits .xor .u32 4294967295 (e : Int) = (v47 : Int) ∧ bits .and .u32 (v47 : Int) (g : Int) = (v49 : Int) ∧ bits .or .u32 (v45 : Int) (v49 : Int) = (v50 : Int) ∧
      bits .and .u32 (a : Int) (b : Int) = (v53 : Int) ∧ bits .and .u32 (a : Int) (c : Int) = (v56 : Int) ∧ bits .or .u32 (v53 : Int) (v56 : Int) = (v57 : Int) ∧ bits .and .u32 (b : Int) (c : Int) = (v60 : Int) ∧ bits .or .u32 (v57 : Int) (v60 : Int) = (v61 : Int) ∧
      bits .xor .u32 (r6 : Int) (r11 : Int) = (v67 : Int) ∧ bits .xor .u32 (v67 : Int) (r25 : Int) = (v70 : Int) ∧ IntKind.u32.wrap ((h : Int) + (v70 : Int)) = (v71 : Int) ∧ IntKind.u32.wrap ((v71 : Int) + (v50 : Int)) = (v73 : Int) ∧ IntKind.u32.wrap ((v73 : Int) + (k : Int)) = (v77 : Int) ∧ IntKind.u32.wrap ((v77 : Int) + (x : Int)) = (v79 : Int) ∧
      bits .xor .u32 (r2 : Int) (r13 : Int) = (v84 : Int) ∧ bits .xor .u32 (v84 : Int) (r22 : Int) = (v87 : Int) ∧ IntKind.u32.wrap ((v87 : Int) + (v61 : Int)) = (v89 : Int) ∧
      IntKind.u32.wrap ((v79 : Int) + (v89 : Int)) = (na : Int) ∧ IntKind.u32.wrap ((d : Int) + (v79 : Int)) = (ne : Int) ∧
      stp [a, b, c, d, e, f, g, h] k x = [na, a, b, c, ne, e, f, g] ∧ na < M ∧ ne < M := by
  have b6 : r6 < M := by rw [h6]; exact rot_M he (by decide)
  have b11 : r11 < M := by rw [h11]; exact rot_M he (by decide)
  have b25 : r25 < M := by rw [h25]; exact rot_M he (by decide)
  have b2 : r2 < M := by rw [h2]; exact rot_M ha (by decide)
  have b13 : r13 < M := by rw [h13]; exact rot_M ha (by decide)
  have b22 : r22 < M := by rw [h22]; exact rot_M ha (by decide)
  have ne1 : M - 1 - e < M := by unfold M; omega
  have ad : ∀ y z : Nat, IntKind.u32.wrap ((y : Int) + (z : Int)) = (((y + z) % M : Nat) : Int) := add_z
  have hi1e : r6 ^^^ r11 ^^^ r25 = hi1 e := by rw [h6, h11, h25, hi1]
  have hi0e : r2 ^^^ r13 ^^^ r22 = hi0 a := by rw [h2, h13, h22, hi0]
  refine ⟨e &&& f, M - 1 - e, (M - 1 - e) &&& g, ch e f g, a &&& b, a &&& c, (a &&& b) ||| (a &&& c), b &&& c, maj a b c, r6 ^^^ r11, hi1 e, (h + hi1 e) % M, ((h + hi1 e) % M + ch e f g) % M, (((h + hi1 e) % M + ch e f g) % M + k) % M, ((((h + hi1 e) % M + ch e f g) % M + k) % M + x) % M, r2 ^^^ r13, hi0 a, (hi0 a + maj a b c) % M,
    (((((h + hi1 e) % M + ch e f g) % M + k) % M + x) % M + (hi0 a + maj a b c) % M) % M, (d + ((((h + hi1 e) % M + ch e f g) % M + k) % M + x) % M) % M,
    Dig1.u32_and he hf, not_run he, Dig1.u32_and ne1 hg, ?_, Dig1.u32_and ha hb, Dig1.u32_and ha hc, Dig1.u32_or (and_M hb) (and_M hc), Dig1.u32_and hb hc, ?_, Dig1.u32_xor b6 b11, ?_, ad _ _, ad _ _, ad _ _, ad _ _, Dig1.u32_xor b2 b13, ?_, ad _ _, ad _ _, ad _ _, ?_, Nat.mod_lt _ (by decide), Nat.mod_lt _ (by decide)⟩
  · rw [Dig1.u32_or (and_M hf) (and_M hg), ch_or he]
  · rw [Dig1.u32_or (or_M (and_M hb) (and_M hc)) (and_M hc), maj_or]
  · rw [Dig1.u32_xor (xor_M b6 b11) b25, hi1e]
  · rw [Dig1.u32_xor (xor_M b2 b13) b22, hi0e]
  · have E : stp [a, b, c, d, e, f, g, h] k x = [((h + hi1 e + ch e f g + k + x) + (hi0 a + maj a b c)) % M, a, b, c, (d + (h + hi1 e + ch e f g + k + x)) % M, e, f, g] := by
      simp only [stp, List.getD_cons_zero, List.getD_cons_succ]
    rw [E]
    generalize hi1 e = p1
    generalize ch e f g = p2
    generalize hi0 a = p3
    generalize maj a b c = p4
    congr 1
    · unfold M; omega
    · congr 4
      unfold M; omega
theorem sgo_succ (w : List Nat) (n i : Nat) (s : List Nat) : sgo w (n + 1) i s = sgo w n (i + 1) (stp s (K.getD i 0) (w.getD i 0)) := by rw [sgo]
theorem eight {S : List Nat} (h : S.length = 8) : ∃ a b c d e f g i, S = [a, b, c, d, e, f, g, i] := by
  match S, h with
  | [a, b, c, d, e, f, g, i], _ => exact ⟨a, b, c, d, e, f, g, i, rfl⟩
theorem zero_8 (w : World) : (zeroValue 96).run Tryd.prog w = .ok (.agg (ucells (List.replicate 8 0))) w := by kernel_rfl

set_option maxHeartbeats 2000000 in
set_option maxRecDepth 100000 in
theorem after_no (S : List Nat) (hS : S.length = 8) (hM : W32 S) (A : Option Addr) (ca : Nat) (bs : List Int) (w : World) (B : Nat) (h : Holds w B A 64 ca bs) (hB : B ≤ w.heap.size) (hT : Tab w) :
    Calls Tryd.prog 60 #[.agg (ucells S), .slice A 64 ca] w fun e w' => e = .returned (.agg (ucells (round S (nats bs)))) ∧ Below w.heap.size w w' := by
  have hz : ∀ v : World, (zeroValue 96).run Tryd.prog v = .ok (.agg (ucells (List.replicate 8 0))) v := zero_8
  have N := URow.new2 w 96 96 S (List.replicate 8 0)
  have SZ : (ucells (List.replicate 8 0)).size = 8 := by rw [ucells_size, List.length_replicate]
  obtain ⟨Z, hZ⟩ : ∃ Z, Z = List.replicate 8 0 := ⟨_, rfl⟩
  rw [← hZ] at hz N SZ
  have L0 := Lib.hid N.1
  have S0 := Lib.hid N.2.1
  have B0 := Lib.hid N.2.2
  have T0 : Hid (Tab ((w.alloc (.cells (ucells S) 96)).alloc (.cells (ucells Z) 96))) := Lib.hid (hT.up N.2.2)
  have WX : Hid (W32 (words (nats bs)) ∧ (words (nats bs)).length = 64) := Lib.hid ⟨words_lt (nats_lt fun z hz => h.2.2.2.1 z hz), words_len _⟩
  have HK := Lib.hid h
  obtain ⟨a0, b0, c0, d0, e0, f0, g0, h0, hS8⟩ := eight hS
  have SE := Lib.hid hS8
  have k0 := N.1.cell 0 (by omega)
  have k1 := N.1.cell 1 (by omega)
  have k2 := N.1.cell 2 (by omega)
  have k3 := N.1.cell 3 (by omega)
  have k4 := N.1.cell 4 (by omega)
  have k5 := N.1.cell 5 (by omega)
  have k6 := N.1.cell 6 (by omega)
  have k7 := N.1.cell 7 (by omega)
  have M0 : Hid (a0 < M ∧ b0 < M ∧ c0 < M ∧ d0 < M ∧ e0 < M ∧ f0 < M ∧ g0 < M ∧ h0 < M) := Lib.hid (by
    rw [hS8] at hM
    exact ⟨hM _ (by simp), hM _ (by simp), hM _ (by simp), hM _ (by simp), hM _ (by simp), hM _ (by simp), hM _ (by simp), hM _ (by simp)⟩)
  have e0' : S.getD 0 0 = a0 := by rw [hS8]; rfl
  have e1' : S.getD 1 0 = b0 := by rw [hS8]; rfl
  have e2' : S.getD 2 0 = c0 := by rw [hS8]; rfl
  have e3' : S.getD 3 0 = d0 := by rw [hS8]; rfl
  have e4' : S.getD 4 0 = e0 := by rw [hS8]; rfl
  have e5' : S.getD 5 0 = f0 := by rw [hS8]; rfl
  have e6' : S.getD 6 0 = g0 := by rw [hS8]; rfl
  have e7' : S.getD 7 0 = h0 := by rw [hS8]; rfl
  rw [e0'] at k0
  rw [e1'] at k1
  rw [e2'] at k2
  rw [e3'] at k3
  rw [e4'] at k4
  rw [e5'] at k5
  rw [e6'] at k6
  rw [e7'] at k7
  have SL := Lib.hid hS
  have SM := Lib.hid hM
  obtain ⟨WW, hWW⟩ : ∃ WW, WW = words (nats bs) := ⟨_, rfl⟩
  have C := Lib.hid (fun (W : World) (hb : Below w.heap.size w W) => scheduled_no A ca bs W B (HK.out.below (hb.mono hB)) (Nat.le_trans hB hb.size))
  obtain ⟨F, hF⟩ : ∃ F, F = sgo WW 64 0 S := ⟨_, rfl⟩
  have FE : Hid (sgo WW 64 0 [a0, b0, c0, d0, e0, f0, g0, h0] = F) := Lib.hid (by rw [← hS8, hF])
  have FL : Hid (F.length = 8 ∧ W32 F) := Lib.hid ⟨by rw [hF]; exact sgo_len _ _ _ _ hS, by rw [hF]; exact sgo_lt _ _ _ _ hM⟩
  have RE : round S (nats bs) = (List.range 8).map fun i => (F.getD i 0 + S.getD i 0) % M := by rw [hF, hWW, round]
  rw [RE]
  rw [← hWW] at C WX
  obtain ⟨rf, hrf⟩ : ∃ rf : Nat → Nat, rf = fun i => (F.getD i 0 + S.getD i 0) % M := ⟨_, rfl⟩
  obtain ⟨rg, hrg⟩ : ∃ rg : Nat → Nat, rg = fun i => S.getD i 0 := ⟨_, rfl⟩
  rw [← hrf]
  have RF := Lib.hid (fun i => congrFun hrf i)
  have RG := Lib.hid (fun i => congrFun hrg i)
  have P0 : S = pil rf rg 8 0 := by rw [hrg, ← hS, pil_zero]
  have PE := Lib.hid P0
  clear N h hS hM hT hZ hS8 e0' e1' e2' e3' e4' e5' e6' e7' hWW hF RE hrf hrg P0
  go_enter Tryd.func60, Tryd.ntmps60
  go_wp2_with fail
  clear hz
  generalize (w.alloc (.cells (ucells S) 96)).alloc (.cells (ucells Z) 96) = w1 at *
  go_quiet (fail)
  have L1 := Lib.hid (L0.out.drewN nq)
  have S1 := Lib.hid (S0.out.drewN nq)
  have B1 := Lib.hid (below_drewN B0.out nq)
  have T1 : Hid (Tab (w1.drewN nq)) := T0
  generalize w1.drewN nq = w2 at *
  clear k0 k1 k2 k3 k4 k5 k6 k7 L0 S0 B0 T0
  go_wp2_with fail
  refine (C.out _ B1.out).mono ?_
  rintro e w3 ⟨rfl, hb⟩
  have L2 := Lib.hid (L1.out.up hb)
  have S2 := Lib.hid (S1.out.up hb)
  have T2 := Lib.hid (T1.out.up hb)
  have B2 := Lib.hid (B1.out.trans (hb.mono B1.out.size))
  have IX := Lib.hid (fun (j : Nat) (hj : j < 64) (W : World) => run_index_u (ty := 121) Tryd.underlying121 WX.out.2 hj W)
  generalize ucells WW = cW at *
  clear hb L1 S1 B1 T1 C
  go_wp2_with fail
  go_loopw [5, 6, 7, 8, 9, 10, 11, 12, 39] (fun av bv cv dv ev fv gv hv kv wr => ∃ j a b c d e f g h : Nat, kv = .int .i64 (j : Int) ∧ av = .int .u32 (a : Int) ∧ bv = .int .u32 (b : Int) ∧ cv = .int .u32 (c : Int) ∧ dv = .int .u32 (d : Int) ∧ ev = .int .u32 (e : Int) ∧ fv = .int .u32 (f : Int) ∧ gv = .int .u32 (g : Int) ∧ hv = .int .u32 (h : Int) ∧ j ≤ 64 ∧
    Hid (a < M ∧ b < M ∧ c < M ∧ d < M ∧ e < M ∧ f < M ∧ g < M ∧ h < M) ∧ Hid (sgo WW (64 - j) j [a, b, c, d, e, f, g, h] = F) ∧ Hid (URow wr w.heap.size 96 S) ∧ Hid (URow wr (w.heap.size + 1) 96 Z) ∧ Hid (Tab wr) ∧ Hid (Below w.heap.size w wr)) (fun _ _ _ _ _ _ _ _ kv _ => 64 - (intOf kv).toNat)
  case atStart => exact ⟨0, a0, b0, c0, d0, e0, f0, g0, h0, rfl, rfl, rfl, rfl, rfl, rfl, rfl, rfl, rfl, by omega, M0, FE, L2, S2, T2, B2⟩
  case round =>
    obtain ⟨j, a, b, c, d, e, f, g, h, rfl, rfl, rfl, rfl, rfl, rfl, rfl, rfl, rfl, hj, HM, HE, HL, HS, HT, HB⟩ := hrel
    clear L2 S2 T2 B2 FE M0
    by_cases hlt : j < 64
    · have ix := IX.out j hlt wr
      have kc := HT.out.cell j (by omega)
      have C6 := Lib.hid (rotated_no e 6 HM.out.2.2.2.2.1 (by decide) (by decide))
      have C11 := Lib.hid (rotated_no e 11 HM.out.2.2.2.2.1 (by decide) (by decide))
      have C25 := Lib.hid (rotated_no e 25 HM.out.2.2.2.2.1 (by decide) (by decide))
      have C2 := Lib.hid (rotated_no a 2 HM.out.1 (by decide) (by decide))
      have C13 := Lib.hid (rotated_no a 13 HM.out.1 (by decide) (by decide))
      have C22 := Lib.hid (rotated_no a 22 HM.out.1 (by decide) (by decide))
      have HE1 : sgo WW (64 - (j + 1)) (j + 1) (stp [a, b, c, d, e, f, g, h] (K.getD j 0) (WW.getD j 0)) = F := by
        rw [← HE.out, show 64 - j = (64 - (j + 1)) + 1 by omega, sgo_succ]
      generalize K.getD j 0 = k at *
      generalize WW.getD j 0 = x at *
      obtain ⟨r6, hr6⟩ : ∃ r, r = rot e 6 := ⟨_, rfl⟩
      obtain ⟨r11, hr11⟩ : ∃ r, r = rot e 11 := ⟨_, rfl⟩
      obtain ⟨r25, hr25⟩ : ∃ r, r = rot e 25 := ⟨_, rfl⟩
      obtain ⟨r2, hr2⟩ : ∃ r, r = rot a 2 := ⟨_, rfl⟩
      obtain ⟨r13, hr13⟩ : ∃ r, r = rot a 13 := ⟨_, rfl⟩
      obtain ⟨r22, hr22⟩ : ∃ r, r = rot a 22 := ⟨_, rfl⟩
      obtain ⟨v45, v47, v49, v50, v53, v56, v57, v60, v61, v67, v70, v71, v73, v77, v79, v84, v87, v89, na, ne, E1, E2, E3, E4, E5, E6, E7, E8, E9, E10, E11, E12, E13, E14, E15, E16, E17, E18, E19, E20, E21, E22, E23⟩ := step_run (b := b) (c := c) (d := d) (f := f) (g := g) (h := h) (k := k) (x := x) HM.out.1 HM.out.2.1 HM.out.2.2.1 HM.out.2.2.2.2.1 HM.out.2.2.2.2.2.1 HM.out.2.2.2.2.2.2.1 hr6 hr11 hr25 hr2 hr13 hr22
      rw [← hr6] at C6
      rw [← hr11] at C11
      rw [← hr25] at C25
      rw [← hr2] at C2
      rw [← hr13] at C13
      rw [← hr22] at C22
      rw [E21] at HE1
      have HE2 := Lib.hid HE1
      have E2b : bits .xor .u32 IntKind.u32.max (e : Int) = (v47 : Int) := E2
      have HM2 : Hid (na < M ∧ a < M ∧ b < M ∧ c < M ∧ ne < M ∧ e < M ∧ f < M ∧ g < M) := Lib.hid ⟨E22, HM.out.1, HM.out.2.1, HM.out.2.2.1, E23, HM.out.2.2.2.2.1, HM.out.2.2.2.2.2.1, HM.out.2.2.2.2.2.2.1⟩
      have D6 : Hid (∀ W, Calls Tryd.prog 67 #[.int .u32 (e : Int), .int .i64 6] W fun x w' => x = .returned (.int .u32 (r6 : Int)) ∧ w' = W) := Lib.hid fun W => (C6.out W).mono fun _ _ q => ⟨q.1, q.2.symm⟩
      have D11 : Hid (∀ W, Calls Tryd.prog 67 #[.int .u32 (e : Int), .int .i64 11] W fun x w' => x = .returned (.int .u32 (r11 : Int)) ∧ w' = W) := Lib.hid fun W => (C11.out W).mono fun _ _ q => ⟨q.1, q.2.symm⟩
      have D25 : Hid (∀ W, Calls Tryd.prog 67 #[.int .u32 (e : Int), .int .i64 25] W fun x w' => x = .returned (.int .u32 (r25 : Int)) ∧ w' = W) := Lib.hid fun W => (C25.out W).mono fun _ _ q => ⟨q.1, q.2.symm⟩
      clear hr6 hr11 hr25 hr2 hr13 hr22 HE HE1 E21 E22 E23 C6 C11 C25 HM
      go_wp2_with fail
      go_quiet (first | with_reducible exact Calls.quiet_of_same (D6.out _) | with_reducible exact Calls.quiet_of_same (D11.out _) | with_reducible exact Calls.quiet_of_same (D25.out _))
      have GL := Lib.hid (HL.out.drewN nq)
      have GS := Lib.hid (HS.out.drewN nq)
      have GB := Lib.hid (below_drewN HB.out nq)
      have GT : Hid (Tab (wr.drewN nq)) := HT
      generalize wr.drewN nq = wy at *
      clear kc ix HL HS HB HT D6 D11 D25
      go_wp2_with fail
      refine (C2.out _).mono ?_
      rintro e w' ⟨rfl, rfl⟩
      go_wp2_with fail
      refine (C13.out _).mono ?_
      rintro e w' ⟨rfl, rfl⟩
      go_wp2_with fail
      refine (C22.out _).mono ?_
      rintro e w' ⟨rfl, rfl⟩
      go_wp2_with fail
      go_roundw
      case rel => exact ⟨j + 1, na, a, b, c, ne, _, f, g, by go_num, rfl, rfl, rfl, rfl, rfl, rfl, rfl, rfl, by omega, HM2, HE2, GL, GS, GT, GB⟩
      case measure => simp [intOf]; omega
    · obtain rfl : j = 64 := by omega
      have FF : Hid (F = [a, b, c, d, e, f, g, h]) := Lib.hid (by rw [← HE.out]; rfl)
      have IY : Hid (∀ (i : Nat), i < 8 → ∀ W : World, (Instr.index 95 (.agg #[.int .u32 (a : Int), .int .u32 (b : Int), .int .u32 (c : Int), .int .u32 (d : Int), .int .u32 (e : Int), .int .u32 (f : Int), .int .u32 (g : Int), .int .u32 (h : Int)]) (.int .i64 (i : Int))).run Tryd.prog W = .ok (.int .u32 ((F.getD i 0 : Nat) : Int)) W) := Lib.hid fun i hi W => by
        rw [FF.out]
        exact run_index_u (ty := 95) Tryd.underlying95 (l := [a, b, c, d, e, f, g, h]) rfl hi W
      have LP : Hid (URow wr w.heap.size 96 (pil rf rg 8 0)) := Lib.hid (by rw [← PE.out]; exact HL.out)
      rw [show ((64 : Nat) : Int) = 64 from rfl]
      generalize wr = wo at *
      clear HM HE HL HT hlt hj IX FF
      go_wp2_with fail
      go_loopw [112] (fun kv wr => ∃ j : Nat, kv = .int .i64 (j : Int) ∧ j ≤ 8 ∧ Hid (URow wr w.heap.size 96 (pil rf rg 8 j)) ∧ Hid (URow wr (w.heap.size + 1) 96 Z) ∧ Hid (Below w.heap.size w wr)) (fun kv _ => 8 - (intOf kv).toNat)
      case atStart => exact ⟨0, rfl, by omega, LP, HS, HB⟩
      case round =>
        obtain ⟨j, rfl, hj, KL, KS, KB⟩ := hrel
        clear LP HS HB
        by_cases hlt : j < 8
        · have iy := IY.out j hlt wr
          have k0 := KL.out.cell j (by rw [pil_len]; exact hlt)
          rw [pil_at rf rg hlt, RG.out] at k0
          have f0 := KL.out.free j
          have L2 : Hid (URow (wr.setCell ⟨w.heap.size, j, none⟩ (.int .u32 ((rf j : Nat) : Int))) w.heap.size 96 (pil rf rg 8 (j + 1))) := Lib.hid (by have := KL.out.put j (rf j); rwa [pil_set] at this)
          have S2 : Hid (URow (wr.setCell ⟨w.heap.size, j, none⟩ (.int .u32 ((rf j : Nat) : Int))) (w.heap.size + 1) 96 Z) := Lib.hid (KS.out.far (p := ⟨w.heap.size, j, none⟩) (by simp) _)
          have B2 := Lib.hid (KB.out.setCell (p := ⟨w.heap.size, j, none⟩) (Nat.le_refl _) (.int .u32 ((rf j : Nat) : Int)))
          have RJ := RF.out j
          generalize rf j = y at *
          generalize F.getD j 0 = p at *
          generalize S.getD j 0 = q at *
          have f1 : IntKind.u32.wrap ((q : Int) + (p : Int)) = (y : Int) := by rw [RJ, add_z, Nat.add_comm]
          clear RJ KL KS KB
          go_wp2_with fail
          go_roundw
          case rel => exact ⟨j + 1, by go_num, by omega, L2, S2, B2⟩
          case measure => simp [intOf]; omega
        · obtain rfl : j = 8 := by omega
          have RR : URow wr w.heap.size 96 ((List.range 8).map rf) := by have := KL.out; rwa [pil_full] at this
          have SF := KS.out
          have sz : (ucells ((List.range 8).map rf)).size = 8 := by simp [ucells]
          have one := ucells_one ((List.range 8).map rf)
          obtain ⟨cR', hcR⟩ : ∃ cR, cR = ucells ((List.range 8).map rf) := ⟨_, rfl⟩
          have CE := Lib.hid hcR
          have BF := Lib.hid KB.out
          clear KL KS KB hlt hj RF RG PE IY
          unfold URow at RR SF
          rw [← hcR] at RR sz one
          clear hcR
          generalize ucells Z = cZ at *
          go_wp2_with (first
            | (refine wpList_load_row rfl _ _ rfl w.heap.size rfl 96 cR' (0, 0) _ RR (Tryd.underlying96) rfl (by rw [sz]; kernel_rfl) ?_)
            | (refine wpList_store_row rfl _ _ _ rfl (w.heap.size + 1) cR' rfl rfl 96 _ SF (by rw [sz]; kernel_rfl) (by rw [sz, SZ]) one ?_))
          exact bodyPost_ret (results_cell_row rfl _ _ (w.heap.size + 1) 96 cR' (0, 0) _ rfl (setRow_heap _ _ _ _ _ _ SF) Tryd.underlying96 rfl (by rw [sz]; kernel_rfl)) rfl ⟨by rw [CE.out], below_setRow BF.out (by omega)⟩
end Go.Proofs.YtdnkbefpbehllaaDoor.Dig4

/- The contract of the code's Round. -/
set_option linter.unusedVariables false
namespace Go.Proofs.YtdnkbefpbehllaaDoor.Dig5
open Go.RowKit Go.PlainAid Go.Proofs.YtdnkbefpbehllaaDoor.Sums Go.Proofs.YtdnkbefpbehllaaDoor.Mem Go.Proofs.YtdnkbefpbehllaaDoor.Blk Go.Proofs.YtdnkbefpbehllaaDoor.Bits Go.Proofs.YtdnkbefpbehllaaDoor.Bits3 Go.Proofs.YtdnkbefpbehllaaDoor.Ints Go.Proofs.YtdnkbefpbehllaaDoor.IntsO Go.Proofs.YtdnkbefpbehllaaDoor.ShaD Go.Proofs.YtdnkbefpbehllaaDoor.ShaC Go.Proofs.YtdnkbefpbehllaaDoor.ShaQ Go.Proofs.YtdnkbefpbehllaaDoor.Dig1 Go.Proofs.YtdnkbefpbehllaaDoor.OpsU Go.Proofs.YtdnkbefpbehllaaDoor.Dig2 Go.Proofs.YtdnkbefpbehllaaDoor.Dig3 Go.Proofs.YtdnkbefpbehllaaDoor.Dig4

/-- What Round answers, refusing or not. -/
def Ans (ok : Bool) (w : World) (F : List Nat) (e : Ending) (w' : World) : Prop :=
  (ok = true → ∃ v, e = .returned (.tuple #[v, .int .i64 0]) ∧ IOwn w' w.heap.size v F) ∧ (ok = false → e = .returned (.tuple #[.slice none 0 0, .int .i64 1])) ∧ Below w.heap.size w w'
theorem all_getD {L : List Nat} {n : Nat} (h : L.length = n) : (List.range n).map (fun i => L.getD i 0) = L := by
  subst h
  apply List.ext_getElem
  · simp
  · intro i h1 h2
    simp only [List.getElem_map, List.getElem_range]
    rw [List.getD_eq_getElem?_getD, List.getElem?_eq_getElem h2]
    rfl
theorem nats_at (l : List Int) (i : Nat) : (nats l).getD i 0 = (l.getD i 0).toNat := by
  unfold nats
  rw [List.getD_eq_getElem?_getD, List.getD_eq_getElem?_getD, List.getElem?_map]
  cases l[i]? <;> rfl
theorem getD_some {l : List Int} {i : Nat} (h : i < l.length) : l[i]? = some (l.getD i 0) := by
  rw [List.getD_eq_getElem?_getD, List.getElem?_eq_getElem h]; rfl

end Go.Proofs.YtdnkbefpbehllaaDoor.Dig5

/- The code's hash: its cells; what it stands for; the contract of started. -/
set_option linter.unusedVariables false
namespace Go.Proofs.YtdnkbefpbehllaaDoor.Dig6
open Go.RowKit Go.PlainAid Go.Proofs.YtdnkbefpbehllaaDoor.Sums Go.Proofs.YtdnkbefpbehllaaDoor.Mem Go.Proofs.YtdnkbefpbehllaaDoor.Blk Go.Proofs.YtdnkbefpbehllaaDoor.Bits Go.Proofs.YtdnkbefpbehllaaDoor.Bits3 Go.Proofs.YtdnkbefpbehllaaDoor.Ints Go.Proofs.YtdnkbefpbehllaaDoor.IntsO Go.Proofs.YtdnkbefpbehllaaDoor.ShaD Go.Proofs.YtdnkbefpbehllaaDoor.Dig1 Go.Proofs.YtdnkbefpbehllaaDoor.OpsU Go.Proofs.YtdnkbefpbehllaaDoor.Dig2 Go.Proofs.YtdnkbefpbehllaaDoor.Dig3 Go.Proofs.YtdnkbefpbehllaaDoor.Dig4 Go.Proofs.YtdnkbefpbehllaaDoor.Dig5

/-! ### What a hash stands for: plain facts -/
/-- The state S and the block Bk of a hash that has taken the bytes L. -/
structure Hst (L S Bk : List Nat) : Prop where
  len : Bk.length = 64
  byt : ∀ x ∈ Bk, x < 256
  sl : S.length = 8
  sm : W32 S
  st : S = bgo (L.length / 64) ShaD.start (L.take (64 * (L.length / 64)))
  bk : Bk.take (L.length % 64) = L.drop (64 * (L.length / 64))
theorem start_len : ShaD.start.length = 8 := by decide
theorem start_lt : W32 ShaD.start := fun x hx => K_lt x (List.mem_of_mem_drop hx)
theorem Hst.start : Hst [] ShaD.start (List.replicate 64 0) := ⟨by simp, fun x hx => by rw [List.eq_of_mem_replicate hx]; decide, start_len, start_lt, rfl, rfl⟩
/-- The block after m bytes more. -/
def fit (Bk x : List Nat) (r : Nat) : List Nat := Bk.take r ++ x ++ Bk.drop (r + x.length)
theorem fit_len {Bk x : List Nat} {r : Nat} (h : Bk.length = 64) (hr : r + x.length ≤ 64) : (fit Bk x r).length = 64 := by
  unfold fit
  simp only [List.length_append, List.length_take, List.length_drop]; omega
theorem fit_byt {Bk x : List Nat} {r : Nat} (h : ∀ y ∈ Bk, y < 256) (hx : ∀ y ∈ x, y < 256) : ∀ y ∈ fit Bk x r, y < 256 := by
  intro y hy
  unfold fit at hy
  rcases List.mem_append.1 hy with q | q
  · rcases List.mem_append.1 q with q | q
    · exact h y (List.mem_of_mem_take q)
    · exact hx y q
  · exact h y (List.mem_of_mem_drop q)
theorem fit_take {Bk x : List Nat} {r : Nat} (h : Bk.length = 64) (hr : r + x.length ≤ 64) : (fit Bk x r).take (r + x.length) = Bk.take r ++ x := by
  unfold fit
  have e : (Bk.take r ++ x).length = r + x.length := by simp only [List.length_append, List.length_take]; omega
  rw [List.take_append_of_le_length (by rw [e]; exact Nat.le_refl _), List.take_of_length_le (by rw [e]; exact Nat.le_refl _)]
theorem Hst.less {L S Bk x : List Nat} (h : Hst L S Bk) (hx : ∀ y ∈ x, y < 256) (hl : L.length % 64 + x.length < 64) : Hst (L ++ x) S (fit Bk x (L.length % 64)) := by
  have d : (L ++ x).length / 64 = L.length / 64 := by rw [List.length_append]; omega
  have r : (L ++ x).length % 64 = L.length % 64 + x.length := by rw [List.length_append]; omega
  have le : 64 * (L.length / 64) ≤ L.length := by omega
  refine ⟨fit_len h.len (by omega), fit_byt h.byt hx, h.sl, h.sm, ?_, ?_⟩
  · rw [d, List.take_append_of_le_length le]
    exact h.st
  · rw [r, d, fit_take h.len (by omega), h.bk, List.drop_append_of_le_length le]
theorem Hst.more {L S Bk x : List Nat} (h : Hst L S Bk) (hx : ∀ y ∈ x, y < 256) (hl : L.length % 64 + x.length = 64) : Hst (L ++ x) (round S (fit Bk x (L.length % 64))) (fit Bk x (L.length % 64)) := by
  have d : (L ++ x).length / 64 = L.length / 64 + 1 := by rw [List.length_append]; omega
  have r : (L ++ x).length % 64 = 0 := by rw [List.length_append]; omega
  have le : 64 * (L.length / 64) ≤ L.length := by omega
  have fl := fit_len (r := L.length % 64) (x := x) h.len (by omega)
  have ft : fit Bk x (L.length % 64) = L.drop (64 * (L.length / 64)) ++ x := by
    have := fit_take (r := L.length % 64) (x := x) h.len (by omega)
    rw [hl, List.take_of_length_le (by rw [fl]; exact Nat.le_refl _), h.bk] at this
    exact this
  refine ⟨fl, fit_byt h.byt hx, round_len _ _, round_lt _ _, ?_, ?_⟩
  · have e : (L ++ x).take (64 * (L.length / 64 + 1)) = L.take (64 * (L.length / 64)) ++ fit Bk x (L.length % 64) := by
      rw [ft, List.take_of_length_le (by rw [List.length_append]; omega), ← List.append_assoc, List.take_append_drop]
    rw [d, e, bgo_app _ 1 _ _ _ (by rw [List.length_take]; omega), ← h.st]
    have one : ∀ s m, bgo 1 s m = round s (m.take 64) := fun s m => by rw [bgo, bgo]
    rw [one, List.take_of_length_le (by rw [fl]; exact Nat.le_refl _)]
  · have e : L.length + x.length = 64 * ((L ++ x).length / 64) := by rw [d]; omega
    rw [r, List.take_zero, ← e, List.drop_of_length_le (by rw [List.length_append]; exact Nat.le_refl _)]
/-- All of it, when nothing is left. -/
theorem Hst.done {L S Bk : List Nat} (h : Hst L S Bk) (hl : L.length % 64 = 0) : S = bgo (L.length / 64) ShaD.start L := by
  rw [h.st, List.take_of_length_le (by omega)]

/-! ### Its cells -/
def hcells (S Bk : List Nat) (n : Nat) : Array Value := (((S.map fun z : Nat => Value.int .u32 (z : Int)) ++ Bk.map fun z : Nat => Value.int .u8 (z : Int)) ++ [Value.int .i64 (n : Int)]).toArray
/-- The hash at block g. -/
def Hsh (w : World) (g : Nat) (S Bk : List Nat) (n : Nat) : Prop := Blk w g 98 (hcells S Bk n)
section
variable {w w' : World} {g n : Nat} {S Bk : List Nat}
theorem hcells_size (S Bk : List Nat) (n : Nat) : (hcells S Bk n).size = S.length + Bk.length + 1 := by simp [hcells]; omega
theorem hcells_s (hs : S.length = 8) {i : Nat} (h : i < 8) : (hcells S Bk n)[i]? = some (.int .u32 ((S.getD i 0 : Nat) : Int)) := by
  unfold hcells
  rw [List.getElem?_toArray, List.append_assoc, List.getElem?_append_left (by simp; omega), List.getElem?_map, List.getD_eq_getElem?_getD, List.getElem?_eq_getElem (by omega)]
  rfl
theorem hcells_b (hs : S.length = 8) (hb : Bk.length = 64) {i : Nat} (h : i < 64) : (hcells S Bk n)[8 + i]? = some (.int .u8 ((Bk.getD i 0 : Nat) : Int)) := by
  unfold hcells
  rw [List.getElem?_toArray, List.append_assoc, List.getElem?_append_right (by simp; omega), List.getElem?_append_left (by simp; omega), List.getElem?_map, List.length_map, hs, show 8 + i - 8 = i by omega, List.getD_eq_getElem?_getD, List.getElem?_eq_getElem (by omega)]
  rfl
theorem hcells_n (hs : S.length = 8) (hb : Bk.length = 64) : (hcells S Bk n)[72]? = some (.int .i64 (n : Int)) := by
  unfold hcells
  rw [List.getElem?_toArray, List.getElem?_append_right (by simp; omega)]
  simp [hs, hb]
theorem hcells_set (hs : S.length = 8) {i z : Nat} (h : i < 8) : (hcells S Bk n).setIfInBounds i (.int .u32 (z : Int)) = hcells (S.set i z) Bk n := by
  unfold hcells
  rw [List.setIfInBounds_toArray, List.append_assoc, List.set_append_left _ _ (by simp; omega), List.map_set, List.append_assoc]
theorem hcells_setn (hs : S.length = 8) (hb : Bk.length = 64) {m : Nat} : (hcells S Bk n).setIfInBounds 72 (.int .i64 (m : Int)) = hcells S Bk m := by
  unfold hcells
  rw [List.setIfInBounds_toArray, List.set_append_right _ _ (by simp; omega)]
  simp [hs, hb]
theorem hcells_one (S Bk : List Nat) (n : Nat) : (hcells S Bk n).all (·.oneCell') = true := by
  rw [Array.all_eq_true_iff_forall_mem]
  intro x hx
  simp only [hcells, List.mem_toArray, List.mem_append, List.mem_map, List.mem_singleton] at hx
  rcases hx with (⟨z, _, rfl⟩ | ⟨z, _, rfl⟩) | rfl <;> rfl
theorem Hsh.up (h : Hsh w g S Bk n) (hb : Below w.heap.size w w') : Hsh w' g S Bk n := Blk.below h hb (Blk.lt h)
end
theorem zero_h (w : World) : (zeroValue 98).run Tryd.prog w = .ok (.agg (hcells (List.replicate 8 0) (List.replicate 64 0) 0)) w := by kernel_rfl

set_option maxHeartbeats 1000000 in
set_option maxRecDepth 100000 in
theorem started_no (w : World) (hT : Tab w) : Calls Tryd.prog 49 #[] w fun e w' => e = .returned (.agg (hcells ShaD.start (List.replicate 64 0) 0)) ∧ Below w.heap.size w w' := by
  have hz := zero_h
  obtain ⟨f, hf⟩ : ∃ f : Nat → Nat, f = fun i => ShaD.start.getD i 0 := ⟨_, rfl⟩
  have FI : Hid (∀ i, f i = K.getD (64 + i) 0) := Lib.hid fun i => by
    rw [hf]
    show (List.drop 64 K).getD i 0 = _
    rw [List.getD_eq_getElem?_getD, List.getElem?_drop, ← List.getD_eq_getElem?_getD]
  have FA : Hid ((List.range 8).map f = ShaD.start) := Lib.hid (by rw [hf]; exact all_getD start_len)
  have F0 : fil f 8 0 = List.replicate 8 0 := fil_zero _ _
  rw [← F0] at hz
  obtain ⟨Z, hZ⟩ : ∃ Z, Z = List.replicate 64 0 := ⟨_, rfl⟩
  have ZL : Hid (Z.length = 64) := Lib.hid (by rw [hZ, List.length_replicate])
  rw [← hZ] at hz ⊢
  have N0 : Hid (Hsh ((w.alloc (.cells (hcells (fil f 8 0) Z 0) 98)).alloc (.cells (hcells (fil f 8 0) Z 0) 98)) w.heap.size (fil f 8 0) Z 0) := Lib.hid ((Blk.new w _ _).alloc _)
  have N1 : Hid (Hsh ((w.alloc (.cells (hcells (fil f 8 0) Z 0) 98)).alloc (.cells (hcells (fil f 8 0) Z 0) 98)) (w.heap.size + 1) (fil f 8 0) Z 0) := Lib.hid (by
    have := Blk.new (w.alloc (.cells (hcells (fil f 8 0) Z 0) 98)) 98 (hcells (fil f 8 0) Z 0)
    rwa [show (w.alloc (.cells (hcells (fil f 8 0) Z 0) 98)).heap.size = w.heap.size + 1 by simp] at this)
  have B0 := Lib.hid (((Below.refl w.heap.size w).alloc (Nat.le_refl _) (.cells (hcells (fil f 8 0) Z 0) 98)).alloc (by simp) (.cells (hcells (fil f 8 0) Z 0) 98))
  have T0 := Lib.hid (hT.up B0.out)
  have TL := Lib.hid hT.lt
  have HZ : ((hcells (fil f 8 0) Z 0) = #[]) = False := eq_false fun e => by
    have := congrArg Array.size e
    rw [hcells_size] at this
    simp at this
  have SZ : (hcells (fil f 8 0) Z 0).size = 73 := by rw [hcells_size, fil_len, ZL.out]
  obtain ⟨cZ, hcZ⟩ : ∃ cZ, cZ = hcells (fil f 8 0) Z 0 := ⟨_, rfl⟩
  rw [← hcZ] at hz N0 N1 B0 T0 HZ SZ
  have CZ := Lib.hid hcZ
  have N0' : Hid (Blk ((w.alloc (.cells cZ 98)).alloc (.cells cZ 98)) w.heap.size 98 cZ) := Lib.hid (by have := N0.out; unfold Hsh at this; rwa [← hcZ] at this)
  clear hf F0 hZ hT hcZ N0
  go_enter Tryd.func49, Tryd.ntmps49
  go_wp2_with fail
  clear hz HZ
  generalize (w.alloc (.cells cZ 98)).alloc (.cells cZ 98) = w1 at *
  go_loopw [3] (fun kv wr => ∃ j : Nat, kv = .int .i64 (j : Int) ∧ j ≤ 8 ∧ Hid (Hsh wr (w.heap.size + 1) (fil f 8 j) Z 0) ∧ Hid (Blk wr w.heap.size 98 cZ) ∧ Hid (Tab wr) ∧ Hid (Below w.heap.size w wr)) (fun kv _ => 8 - (intOf kv).toNat)
  case atStart => exact ⟨0, rfl, by omega, N1, N0', T0, B0⟩
  case round =>
    obtain ⟨j, rfl, hj, HH, HN, HT, HB⟩ := hrel
    clear N1 N0' T0 B0
    by_cases hlt : j < 8
    · have kc := HT.out.cell (64 + j) (by omega)
      rw [← FI.out] at kc
      have c0 : wr.cell? ⟨w.heap.size + 1, j, none⟩ = some (.int .u32 (((fil f 8 j).getD j 0 : Nat) : Int)) := (Blk.cell HH.out j).trans (hcells_s (fil_len _ _ _) hlt)
      have f0 := Blk.frozen HH.out j
      have H2 : Hid (Hsh (wr.setCell ⟨w.heap.size + 1, j, none⟩ (.int .u32 ((f j : Nat) : Int))) (w.heap.size + 1) (fil f 8 (j + 1)) Z 0) := Lib.hid (by
        have := Blk.put HH.out j (.int .u32 ((f j : Nat) : Int))
        rw [hcells_set (fil_len _ _ _) hlt, fil_set] at this
        exact this)
      have N2 : Hid (Blk (wr.setCell ⟨w.heap.size + 1, j, none⟩ (.int .u32 ((f j : Nat) : Int))) w.heap.size 98 cZ) := Lib.hid (Blk.far HN.out (p := ⟨w.heap.size + 1, j, none⟩) (by simp) _)
      have B2 : Hid (Below w.heap.size w (wr.setCell ⟨w.heap.size + 1, j, none⟩ (.int .u32 ((f j : Nat) : Int)))) := Lib.hid (HB.out.setCell (p := ⟨w.heap.size + 1, j, none⟩) (by simp) _)
      have T2 : Hid (Tab (wr.setCell ⟨w.heap.size + 1, j, none⟩ (.int .u32 ((f j : Nat) : Int)))) := Lib.hid (HT.out.below ((Below.refl w.heap.size wr).setCell (p := ⟨w.heap.size + 1, j, none⟩) (by simp) _) TL.out)
      generalize (fil f 8 j).getD j 0 = old at *
      generalize f j = y at *
      obtain ⟨i, hi⟩ : ∃ i, i = 64 + j := ⟨_, rfl⟩
      rw [← hi] at kc
      have f1 : IntKind.i64.wrap (64 + (j : Int)) = (i : Int) := by rw [IntWalk.i64_in _ (by omega)]; omega
      have il : i < 72 := by omega
      clear hi HH HN HT HB
      go_wp2_with fail
      go_roundw
      case rel => exact ⟨j + 1, by go_num, by omega, H2, N2, T2, B2⟩
      case measure => simp [intOf]; omega
    · obtain rfl : j = 8 := by omega
      have RH : Hid (Hsh wr (w.heap.size + 1) ShaD.start Z 0) := Lib.hid (by have := HH.out; rwa [fil_full, FA.out] at this)
      obtain ⟨cR, hcR⟩ : ∃ cR, cR = hcells ShaD.start Z 0 := ⟨_, rfl⟩
      have CE := Lib.hid hcR
      have RR := RH.out
      have SF := HN.out
      have sz : cR.size = 73 := by rw [hcR, hcells_size, start_len, ZL.out]
      have one : cR.all (·.oneCell') = true := by rw [hcR]; exact hcells_one _ _ _
      have BF := Lib.hid HB.out
      unfold Hsh at RR
      unfold Blk at RR SF
      rw [← hcR] at RR
      clear HH HN HT HB hlt hj RH FA FI hcR CZ ZL
      go_wp2_with (first
        | (refine wpList_load_row rfl _ _ rfl (w.heap.size + 1) rfl 98 cR (0, 0) _ RR (Tryd.underlying98) rfl (by rw [sz]; kernel_rfl) ?_)
        | (refine wpList_store_row rfl _ _ _ rfl w.heap.size cR rfl rfl 98 _ SF (by rw [sz]; kernel_rfl) (by rw [sz, SZ]) one ?_))
      exact bodyPost_ret (results_cell_row rfl _ _ w.heap.size 98 cR (0, 0) _ rfl (setRow_heap _ _ _ _ _ _ SF) Tryd.underlying98 rfl (by rw [sz]; kernel_rfl)) rfl ⟨by rw [CE.out], below_setRow BF.out (Nat.le_refl _)⟩
end Go.Proofs.YtdnkbefpbehllaaDoor.Dig6

