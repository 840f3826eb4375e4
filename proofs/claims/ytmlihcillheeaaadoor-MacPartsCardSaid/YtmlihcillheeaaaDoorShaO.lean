/- The contract of the document's Of: the digest of bytes. -/
import Derived.Test.YtmlihcillheeaaaDoorShaQ
import Derived.Test.YtmlihcillheeaaaDoorBoth
import Derived.Test.YtmlihcillheeaaaDoorCutA
set_option linter.unusedVariables false
namespace Go.Proofs.YtmlihcillheeaaaDoor.ShaO
open Go.RowKit Go.Proofs.YtmlihcillheeaaaDoor.Sums Go.Proofs.YtmlihcillheeaaaDoor.Mem Go.Proofs.YtmlihcillheeaaaDoor.Blk Go.Proofs.YtmlihcillheeaaaDoor.Bits Go.Proofs.YtmlihcillheeaaaDoor.Bits3 Go.Proofs.YtmlihcillheeaaaDoor.Ints Go.Proofs.YtmlihcillheeaaaDoor.IntsO Go.Proofs.YtmlihcillheeaaaDoor.Steps Go.Proofs.YtmlihcillheeaaaDoor.Ops Go.Proofs.YtmlihcillheeaaaDoor.CutA Go.Proofs.YtmlihcillheeaaaDoor.ShaD Go.Proofs.YtmlihcillheeaaaDoor.ShaR1 Go.Proofs.YtmlihcillheeaaaDoor.ShaC Go.Proofs.YtmlihcillheeaaaDoor.ShaW Go.Proofs.YtmlihcillheeaaaDoor.ShaQ

theorem four_any (z : Int) (w : World) (z0 : 0 ≤ z) (z1 : z ≤ 4294967295) :
    Calls Tryd.prog 22 #[.int .i64 z] w fun e w' => ∃ A, e = .returned (.slice A 4 4) ∧ Holds w' w'.heap.size A 4 4 [z / 16777216, z / 65536 % 256, z / 256 % 256, z % 256] ∧ Below w.heap.size w w' := by
  have e1 : z.tdiv 16777216 = z / 16777216 := Int.tdiv_eq_ediv_of_nonneg z0
  have e2 : z.tdiv 65536 = z / 65536 := Int.tdiv_eq_ediv_of_nonneg z0
  have e3 : z.tdiv 256 = z / 256 := Int.tdiv_eq_ediv_of_nonneg z0
  have e4 : z.tmod 256 = z % 256 := Int.tmod_eq_emod_of_nonneg z0
  have e5 : (z / 65536).tmod 256 = z / 65536 % 256 := Int.tmod_eq_emod_of_nonneg (by omega)
  have e6 : (z / 256).tmod 256 = z / 256 % 256 := Int.tmod_eq_emod_of_nonneg (by omega)
  have f1 : IntKind.u8.wrap (z / 16777216) = z / 16777216 := by rw [IntKind.wrap_u8]; omega
  have f2 : IntKind.u8.wrap (z / 65536 % 256) = z / 65536 % 256 := by rw [IntKind.wrap_u8]; omega
  have f3 : IntKind.u8.wrap (z / 256 % 256) = z / 256 % 256 := by rw [IntKind.wrap_u8]; omega
  have f4 : IntKind.u8.wrap (z % 256) = z % 256 := by rw [IntKind.wrap_u8]; omega
  have HL := Lib.hid (Holds.lit w [z / 16777216, z / 65536 % 256, z / 256 % 256, z % 256] #[.int .u8 (z / 16777216), .int .u8 (z / 65536 % 256), .int .u8 (z / 256 % 256), .int .u8 (z % 256)] rfl (by simp [maxLen]) (fun y hy => by simp at hy; omega))
  go_enter Tryd.func22, Tryd.ntmps22
  go_wp2_with fail
  go_ret
  exact ⟨_, rfl, by simpa using HL.out, (Below.refl _ _).alloc (Nat.le_refl _) _⟩
theorem four_nat (n : Nat) : [(n : Int) / 16777216, (n : Int) / 65536 % 256, (n : Int) / 256 % 256, (n : Int) % 256] = ints (four n) := by
  simp [ints, four]
theorem four_ref (n : Nat) (hn : n < 4294967296) (w : World) :
    Calls Tryd.prog 22 #[.int .i64 (n : Int)] w fun e w' => ∃ A, e = .returned (.slice A 4 4) ∧ Holds w' w'.heap.size A 4 4 (ints (four n)) ∧ Below w.heap.size w w' := by
  have := four_any (n : Int) w (by omega) (by omega)
  rw [four_nat] at this
  exact this
theorem ints_app (a b : List Nat) : ints (a ++ b) = ints a ++ ints b := by simp [ints]
theorem ints_len (a : List Nat) : (ints a).length = a.length := by simp [ints]
theorem ints_drop (a : List Nat) (k : Nat) : ints (a.drop k) = (ints a).drop k := by simp [ints, List.map_drop]
theorem ints_take (a : List Nat) (k : Nat) : ints (a.take k) = (ints a).take k := by simp [ints, List.map_take]
theorem ints_zeros (k : Nat) : ints (List.replicate (k + 1) 0) = ints (List.replicate k 0) ++ [0] := by
  rw [List.replicate_succ', ints_app]; rfl
theorem zeros_stop {n k : Nat} (h : k ≤ zeros n) : ((n + 1 + k) % 64 = 56) ↔ k = zeros n := by
  unfold zeros at *; omega
theorem run_cut_k (g : Nat) (w : World) : (Instr.sliceAt 50 (.slice (some ⟨g, 0, none⟩) 72 72) (some (.int .i64 64)) none none).run Tryd.prog w = .ok (.slice (some ⟨g, 64, none⟩) 8 8) w := by
  have he : (sizeOf (Tryd.prog.elem 50)).run Tryd.prog w = .ok 1 w := by kernel_rfl
  have e := run_slice_l (P := Tryd.prog) (w := w) (t := 50) (a := some ⟨g, 0, none⟩) (len := 72) (cap := 72) (ht := (by kernel_rfl)) .i64 64 (by omega) (by omega)
  rw [run_sliceAt_slice (P := Tryd.prog) (h := (by kernel_rfl)), e, he]
  rfl
theorem start_ok : stI (ints ShaD.start) = true := by decide +kernel
theorem start_len : ShaD.start.length = 8 := by decide
theorem start_lt : W32 ShaD.start := fun x hx => K_lt x (List.mem_of_mem_drop hx)
theorem start_get (j : Nat) : (ints ShaD.start).getD j 0 = ((K.getD (64 + j) 0 : Nat) : Int) := by
  rw [ints_getD, ShaD.start, List.getD_eq_getElem?_getD, List.getElem?_drop, ← List.getD_eq_getElem?_getD]
theorem stI_of {S : List Nat} (h : S.length = 8) (hl : W32 S) : stI (ints S) = true := by
  simp only [stI, okI, Bool.and_eq_true, List.all_eq_true, decide_eq_true_eq]
  refine ⟨fun z hz => ?_, by rw [ints_len]; exact h⟩
  obtain ⟨x, hx, rfl⟩ := List.mem_map.1 hz
  have := hl x hx
  unfold M at this
  omega
theorem row_next (B : List Nat) (k : Nat) : ints (B ++ 128 :: List.replicate k 0) ++ [0] = ints (B ++ 128 :: List.replicate (k + 1) 0) := by
  rw [List.replicate_succ']; simp [ints]
theorem row_pad {B : List Nat} {n : Nat} (h : B.length = n) : ints (B ++ 128 :: List.replicate (zeros n) 0) ++ (ints (four (8 * n / M)) ++ (ints (four (8 * n % M)) ++ [])) = ints (pad B) := by
  subst h
  simp only [pad, ints, List.map_append, List.map_cons, List.append_nil, List.append_assoc, List.cons_append]
theorem flat_next {F : List Nat} {j : Nat} (h : j < F.length) : (F.take (j + 1)).flatMap four = (F.take j).flatMap four ++ four (F.getD j 0) := by
  rw [List.take_add_one, List.flatMap_append, List.getD_eq_getElem?_getD, List.getElem?_eq_getElem h]
  simp
def lenOf : Value → Nat
  | .slice _ m _ => m
  | _ => 0

set_option maxHeartbeats 2000000 in
set_option maxRecDepth 100000 in
theorem of_ref (A : Option Addr) (n c : Nat) (bs : List Int) (w : World) (B : Nat) (h : Holds w B A n c bs) (hB : B ≤ w.heap.size) (hn : n ≤ 1000000) :
    Calls Tryd.prog 16 #[.slice A n c] w fun e w' => ∃ v, e = .returned v ∧ Owns w' w.heap.size v 32 (ints (digest (nats bs))) ∧ Below w.heap.size w w' := by
  have H1 : Hid (Holds (w.alloc (.cells #[.int .u8 128] 5)) (w.heap.size + 1) A n c bs) := Lib.hid ((h.below ((Below.refl _ w).alloc hB _)).more (by omega))
  have H2 : Hid (Holds (w.alloc (.cells #[.int .u8 128] 5)) (w.heap.size + 1) (some ⟨w.heap.size, 0, none⟩) 1 1 [128]) := Lib.hid (Holds.lit w [128] _ rfl (by simp [maxLen]) (fun z hz => by simp at hz; omega))
  have BA : Hid (Below w.heap.size w (w.alloc (.cells #[.int .u8 128] 5))) := Lib.hid ((Below.refl _ w).alloc (Nat.le_refl _) _)
  have BI : Hid (ints (nats bs) = bs) := Lib.hid (ints_nats fun z hz => h.2.2.2.1 z hz)
  have BL : Hid ((nats bs).length = n) := Lib.hid ((nats_len bs).trans h.1)
  obtain ⟨BN, hBN⟩ : ∃ BN, BN = nats bs := ⟨_, rfl⟩
  rw [← hBN] at BI BL ⊢
  obtain ⟨D, hD⟩ : ∃ D, D = digest BN := ⟨_, rfl⟩
  rw [← hD]
  have DN := Lib.hid hD
  clear h hB hBN hD
  go_enter Tryd.func16, Tryd.ntmps16
  go_wp2_with fail
  refine (Both.both_lit (w := w.alloc (.cells #[.int .u8 128] 5)) (B := w.heap.size + 1) (by simp) [⟨A, n, c, bs⟩, ⟨some ⟨w.heap.size, 0, none⟩, 1, 1, [128]⟩] _ _ rfl (Both.mem2 H1.out H2.out) _ 2 (by simp) rfl (by decide) (by show n + (1 + 0) ≤ 1048576; omega)).mono ?_
  rintro e w1 ⟨A1, c1, rfl, _, o1, hb⟩
  have e1 : Both.flat [⟨A, n, c, bs⟩, ⟨some ⟨w.heap.size, 0, none⟩, 1, 1, [128]⟩] = ints (BN ++ 128 :: List.replicate 0 0) := by
    rw [ints_app, BI.out]; rfl
  have e0 : Both.total [⟨A, n, c, bs⟩, ⟨some ⟨w.heap.size, 0, none⟩, 1, 1, [128]⟩] = n + 1 := rfl
  rw [e1, e0] at o1
  rw [e0]
  have O1 : Hid (Owns w1 w.heap.size (.slice A1 (n + 1) c1) (n + 1) (ints (BN ++ 128 :: List.replicate 0 0))) := Lib.hid (o1.mono (by simp))
  have B1 : Hid (Below w.heap.size w w1) := Lib.hid (BA.out.trans (hb.mono BA.out.size))
  clear o1 hb e1 e0 H1 H2 BA BI
  go_wp2_with fail
  go_loopw [3] (fun mv wr => ∃ (k N : Nat), Hid (N = n + 1 + k) ∧ Hid (k ≤ zeros n) ∧ Hid (Owns wr w.heap.size mv N (ints (BN ++ 128 :: List.replicate k 0))) ∧ Hid (Below w.heap.size w wr)) (fun mv _ => n + 200 - lenOf mv)
  case atStart => exact ⟨0, n + 1, Lib.hid rfl, Lib.hid (Nat.zero_le _), O1, B1⟩
  case round =>
    obtain ⟨k, N, HN, HK, HO, HB⟩ := hrel
    clear O1 B1
    obtain ⟨Am, cm, rfl, _⟩ := HO.out.slice
    have nb : N ≤ 1000100 := by have := HN.out; have := HK.out; unfold zeros at this; omega
    have nlt : Hid (N ≤ n + 65) := Lib.hid (by have := HN.out; have := HK.out; unfold zeros at this; omega)
    obtain ⟨r, hr⟩ : ∃ r, r = N % 64 := ⟨_, rfl⟩
    have em : (N : Int).tmod 64 = (r : Int) := by rw [Int.tmod_eq_emod_of_nonneg (by omega)]; omega
    have ZS : Hid (r = 56 ↔ k = zeros n) := Lib.hid (by rw [hr, HN.out]; exact zeros_stop HK.out)
    clear hr
    by_cases hz : k = zeros n
    · have g : ((r : Int) != 56) = false := by have := ZS.out.2 hz; subst this; rfl
      have HO2 : Hid (Owns wr w.heap.size (.slice Am N cm) N (ints (BN ++ 128 :: List.replicate (zeros n) 0))) := Lib.hid (by rw [← hz]; exact HO.out)
      have NE : Hid (N = n + 1 + zeros n) := Lib.hid (by rw [← hz]; exact HN.out)
      obtain ⟨m8, hm8⟩ : ∃ m8, m8 = 8 * n := ⟨_, rfl⟩
      have f1 : IntKind.i64.wrap (8 * (n : Int)) = (m8 : Int) := by rw [IntWalk.i64_in _ (by omega)]; omega
      obtain ⟨hi, hhi⟩ : ∃ hi, hi = m8 / 4294967296 := ⟨_, rfl⟩
      obtain ⟨lo, hlo⟩ : ∃ lo, lo = m8 % 4294967296 := ⟨_, rfl⟩
      have f2 : (m8 : Int).tdiv 4294967296 = (hi : Int) := by rw [Int.tdiv_eq_ediv_of_nonneg (by omega)]; omega
      have f3 : (m8 : Int).tmod 4294967296 = (lo : Int) := by rw [Int.tmod_eq_emod_of_nonneg (by omega)]; omega
      have f4 : IntKind.i64.wrap (hi : Int) = (hi : Int) := IntWalk.i64_in _ (by omega)
      have PD := Lib.hid (row_pad BL.out)
      unfold M at PD
      rw [← hm8, ← hhi, ← hlo] at PD
      have C1 := Lib.hid (fun W => four_ref hi (by omega) W)
      have C2 := Lib.hid (fun W => four_ref lo (by omega) W)
      generalize wr = wo at *
      clear ZS hz HK HN HO hm8 hhi hlo nlt
      go_wp2_with fail
      refine (C1.out _).mono ?_
      rintro e w5 ⟨A4, rfl, h4, hb⟩
      have B5 := Lib.hid hb
      have H4 := Lib.hid h4
      clear hb h4
      go_wp2_with fail
      refine (C2.out _).mono ?_
      rintro e w6 ⟨A5, rfl, h5, hb⟩
      have H5 := Lib.hid h5
      have H46 := Lib.hid ((H4.out.below hb).more hb.size)
      have B6 := Lib.hid (B5.out.trans (hb.mono B5.out.size))
      have HM6 := Lib.hid ((HO2.out.holds.below B6.out).more B6.out.size)
      clear hb h5 H4 B5 f1 f2 f3 f4 em g
      go_wp2_with fail
      refine (Both.both_lit (B := w6.heap.size) (Nat.le_refl _) [⟨Am, N, cm, ints (BN ++ 128 :: List.replicate (zeros n) 0)⟩, ⟨A4, 4, 4, ints (four hi)⟩, ⟨A5, 4, 4, ints (four lo)⟩] _ _ rfl (Both.mem3 HM6.out H46.out H5.out) _ 3 rfl rfl (by decide) (by show N + (4 + (4 + 0)) ≤ 1048576; omega)).mono ?_
      rintro e w7 ⟨A7, c7, rfl, h7, _, hb⟩
      obtain ⟨L, hL⟩ : ∃ L, L = N + 8 := ⟨_, rfl⟩
      have e0 : Both.total [⟨Am, N, cm, ints (BN ++ 128 :: List.replicate (zeros n) 0)⟩, ⟨A4, 4, 4, ints (four hi)⟩, ⟨A5, 4, 4, ints (four lo)⟩] = L := by rw [hL]; rfl
      have e1 : Both.flat [⟨Am, N, cm, ints (BN ++ 128 :: List.replicate (zeros n) 0)⟩, ⟨A4, 4, 4, ints (four hi)⟩, ⟨A5, 4, 4, ints (four lo)⟩] = ints (pad BN) := PD.out
      rw [e0, e1] at h7
      rw [e0]
      have H7 := Lib.hid h7
      have B7 := Lib.hid (HB.out.trans ((B6.out.trans (hb.mono B6.out.size)).mono HB.out.size))
      have PL : Hid ((pad BN).length = L ∧ L % 64 = 0) := Lib.hid (by
        have q := pad_len BN
        have e : (pad BN).length = L := by rw [q.2, BL.out, hL, NE.out]; omega
        exact ⟨e, by rw [← e]; exact q.1⟩)
      have lb : L ≤ 1000200 := by omega
      have DG : Hid (D = (bgo (L / 64) ShaD.start (pad BN)).flatMap four) := Lib.hid (by rw [DN.out]; unfold digest final; rw [PL.out.1])
      obtain ⟨P, hP⟩ : ∃ P, P = pad BN := ⟨_, rfl⟩
      rw [← hP] at H7 PL DG
      obtain ⟨gm, pm, rfl, _, _⟩ := H7.out.2.2.2.2 (by omega)
      obtain ⟨T, hT⟩ : ∃ T, T = L / 64 := ⟨_, rfl⟩
      have HT : Hid (L = 64 * T) := Lib.hid (by have := PL.out.2; omega)
      rw [← hT] at DG
      clear hb h7 e0 e1 hL PD hP hT DN H46 H5 HM6 B6 HO2 NE HB BL
      go_wp2_with fail
      refine (constants_ref w7).mono ?_
      rintro e w8 ⟨rfl, rk, hb⟩
      obtain ⟨gk, hgk⟩ : ∃ gk, gk = w7.heap.size := ⟨_, rfl⟩
      rw [← hgk] at rk ⊢
      have slk : ∀ W : World, (Instr.sliceAt 50 (.slice (some ⟨gk, 0, none⟩) 72 72) (some (.int .i64 64)) none none).run Tryd.prog W = .ok (.slice (some ⟨gk, 64, none⟩) 8 8) W := fun W => run_cut_k gk W
      have S8 : Hid (HoldsI w8 w8.heap.size (some ⟨gk, 64, none⟩) 8 8 (ints ShaD.start)) := Lib.hid ⟨by rw [ints_len, start_len], by decide, fun z hz => by
          obtain ⟨x, hx, rfl⟩ := List.mem_map.1 hz
          have := start_lt x hx
          unfold M at this
          omega, fun _ => ⟨gk, 64, rfl, rk.lt, fun j hj => by
          rw [start_get]
          exact rk.cell (64 + j) (by rw [K_len]; omega)⟩⟩
      have H8 := Lib.hid ((H7.out.below hb).more hb.size)
      have B8 := Lib.hid (B7.out.trans (hb.mono B7.out.size))
      clear hb rk hgk H7 B7
      go_wp2_with fail
      clear slk
      go_loopw [4, 5] (fun sv iv wr => ∃ (k i : Nat) (S : List Nat) (As : Option Addr) (cs : Nat), sv = .slice As 8 cs ∧ iv = .int .i64 (i : Int) ∧ Hid (i = 64 * k) ∧ Hid (k ≤ T) ∧ Hid (S.length = 8 ∧ W32 S) ∧ Hid (HoldsI wr wr.heap.size As 8 cs (ints S)) ∧ Hid (bgo (T - k) S (P.drop i) = bgo T ShaD.start P) ∧ Hid (Below w8.heap.size w8 wr)) (fun _ iv _ => L + 64 - (intOf iv).toNat)
      case atStart => exact ⟨0, 0, ShaD.start, _, _, rfl, rfl, Lib.hid rfl, Lib.hid (Nat.zero_le _), Lib.hid ⟨start_len, start_lt⟩, S8, Lib.hid rfl, Lib.hid (Below.refl _ _)⟩
      case round =>
        obtain ⟨k, i, S, As, cs, rfl, rfl, HI, HKT, HSL, HS, HE, HB⟩ := hrel
        clear S8
        have lT := HT.out
        have li := HI.out
        have lk := HKT.out
        by_cases hlt : k < T
        · obtain ⟨i2, hi2⟩ : ∃ i2, i2 = i + 64 := ⟨_, rfl⟩
          have f : IntKind.i64.wrap ((i : Int) + 64) = (i2 : Int) := by rw [IntWalk.i64_in _ (by omega)]; omega
          have g1 : decide ((i : Int) < (L : Int)) = true := decide_eq_true (by omega)
          have g2 : ((i : Int) < (L : Int)) = True := eq_true (by omega)
          have hnc := H8.out.2.1
          have slc : ∀ W : World, (Instr.sliceAt 22 (.slice (some ⟨gm, pm, none⟩) L c7) (some (.int .i64 (i : Int))) (some (.int .i64 (i2 : Int))) none).run Tryd.prog W = .ok (.slice (some (adr gm pm c7 i)) 64 (c7 - i)) W := fun W => by
            have := cutA_lh gm pm L c7 i i2 W (by omega) (by omega)
            rwa [show i2 - i = 64 by omega] at this
          have HC : Hid (Holds wr w8.heap.size (some (adr gm pm c7 i)) 64 (c7 - i) (ints ((P.drop i).take 64))) := Lib.hid (by
            have := cutA_holds (H8.out.below HB.out) (show i ≤ i2 by omega) (by omega)
            rw [show i2 - i = 64 by omega] at this
            rw [ints_take, ints_drop]
            exact this)
          have RR := Lib.hid (round_ref As cs (ints S) (some (adr gm pm c7 i)) (c7 - i) (ints ((P.drop i).take 64)) wr wr.heap.size w8.heap.size HS.out (Nat.le_refl _) HC.out HB.out.size (stI_of HSL.out.1 HSL.out.2))
          rw [nats_ints, nats_ints] at RR
          have HE2 : Hid (bgo (T - (k + 1)) (round S ((P.drop i).take 64)) (P.drop i2) = bgo T ShaD.start P) := Lib.hid (by
            have := HE.out
            rw [show T - k = (T - (k + 1)) + 1 by omega, bgo, List.drop_drop] at this
            rw [hi2]
            exact this)
          have HI2 : Hid (i2 = 64 * (k + 1) ∧ k + 1 ≤ T) := Lib.hid (by omega)
          have MS : Hid (i < L) := Lib.hid (by omega)
          have I2 := Lib.hid hi2
          clear lT li lk hi2 hlt HC HE HI HKT hnc
          go_wp2_with fail
          refine RR.out.mono ?_
          rintro e w9 ⟨v, rfl, ow, hb⟩
          obtain ⟨g9, c9, rfl, _, _, _, _⟩ := ow.form (by rw [round_len]; decide)
          have HS9 := HoldsI.of_own ow (round_lt _ _) (by rw [round_len]; decide)
          rw [round_len] at HS9 ⊢
          have HS2 := Lib.hid HS9
          have HB2 := Lib.hid (HB.out.trans (hb.mono HB.out.size))
          have SL2 : Hid ((round S ((P.drop i).take 64)).length = 8 ∧ W32 (round S ((P.drop i).take 64))) := Lib.hid ⟨round_len _ _, round_lt _ _⟩
          obtain ⟨S2, hS2⟩ : ∃ S2, S2 = round S ((P.drop i).take 64) := ⟨_, rfl⟩
          rw [← hS2] at HS2 HE2 SL2
          clear ow hb HS9 hS2 RR HS HB slc g1 g2
          go_wp2_with fail
          go_roundw
          case rel => exact ⟨k + 1, i2, S2, _, _, rfl, by go_num, Lib.hid HI2.out.1, Lib.hid HI2.out.2, SL2, HS2, HE2, HB2⟩
          case measure => have := MS.out; have := I2.out; simp [intOf]; omega
        · obtain rfl : k = T := by omega
          have SF : Hid (S.flatMap four = D) := Lib.hid (by
            have := HE.out
            rw [Nat.sub_self, bgo] at this
            rw [DG.out, this])
          have g1 : decide ((i : Int) < (L : Int)) = false := decide_eq_false (by omega)
          have g2 : ((i : Int) < (L : Int)) = False := eq_false (by omega)
          have BW := Lib.hid (B8.out.trans (HB.out.mono B8.out.size))
          obtain ⟨b, o, rfl, _, _⟩ := HS.out.2.2.2 (by decide)
          generalize wr = wp at *
          clear lT li lk hlt HE HB B8 H8 HT HI HKT DG PL
          go_wp2_with fail
          clear g1 g2
          go_loopw [8, 9] (fun ov kv wr => ∃ (j q : Nat), kv = .int .i64 (j : Int) ∧ j ≤ 8 ∧ Hid (q = 4 * j) ∧ Hid (Owns wr wp.heap.size ov q (ints ((S.take j).flatMap four))) ∧ Hid (Below wp.heap.size wp wr)) (fun _ kv _ => 8 - (intOf kv).toNat)
          case atStart => exact ⟨0, 0, rfl, by omega, Lib.hid rfl, Lib.hid (Owns.nil _ _), Lib.hid (Below.refl _ _)⟩
          case round =>
            obtain ⟨j, q, rfl, hj, HQ, HO, HB⟩ := hrel
            by_cases hlt : j < 8
            · obtain ⟨b', o', eb, _, hc⟩ := (HS.out.below HB.out).2.2.2 (by decide)
              injection eb with eb
              injection eb with eb1 eb2
              subst eb1 eb2
              have c1 := hc j hlt
              rw [ints_getD] at c1
              have xb := HSL.out.2.get j
              have FN := Lib.hid (flat_next (F := S) (j := j) (by rw [HSL.out.1]; exact hlt))
              generalize S.getD j 0 = x at *
              have C4 := Lib.hid (fun W => four_ref x xb W)
              have QB : q ≤ 32 := by have := HQ.out; omega
              have HQ2 : Hid (q + 4 = 4 * (j + 1)) := Lib.hid (by have := HQ.out; omega)
              unfold M at xb
              clear hc
              go_wp2_with fail
              refine (C4.out _).mono ?_
              rintro e w9 ⟨A4, rfl, h4, hb⟩
              have O9 := Lib.hid (HO.out.below hb (Nat.le_refl _))
              have B9 := Lib.hid (HB.out.trans (hb.mono HB.out.size))
              have H9 := Lib.hid h4
              clear hb h4 c1
              go_wp2_with (at_builtin
                           refine wpList_append_bytes rfl (.tmp 57) (.tmp 62) rfl wp.heap.size _ q _ rfl O9.out w9.heap.size A4 4 4 _ rfl H9.out (by omega) B9.out.size ?_
                           intro v1 w10 o10 g10 hat10)
              have OX : Hid (Owns w10 wp.heap.size v1 (q + 4) (ints ((S.take (j + 1)).flatMap four))) := Lib.hid (by rw [FN.out, ints_app]; exact o10)
              have BX := Lib.hid (B9.out.grown g10 B9.out.size fun g hg => (O9.out.lt g hg).1)
              clear o10 g10 hat10 O9 B9 H9 HO HB
              go_roundw
              case rel => exact ⟨j + 1, q + 4, by go_num, by omega, HQ2, OX, BX⟩
              case measure => simp [intOf]; omega
            · obtain rfl : j = 8 := by omega
              have OF : Hid (Owns wr w.heap.size _ 32 (ints D)) := Lib.hid (by
                have := HO.out.mono BW.out.size
                rw [List.take_of_length_le (by rw [HSL.out.1]; exact Nat.le_refl _), SF.out, HQ.out] at this
                exact this)
              have BF := Lib.hid (BW.out.trans (HB.out.mono BW.out.size))
              clear HO HB
              go_wp2_with fail
              go_ret
              exact ⟨_, rfl, OF.out, BF.out⟩
    · have g : ((r : Int) != 56) = true := by
        rw [bne_iff_ne]
        intro q
        exact hz (ZS.out.1 (by omega))
      have zb : Bytes [0] := fun z hz => by simp at hz; omega
      have HK2 : Hid (k + 1 ≤ zeros n) := Lib.hid (by have := HK.out; omega)
      have HBS := HB.out.size
      clear ZS hz
      go_wp2_with (at_builtin
                   refine wpList_append_bytes rfl (.tmp 18) (.tmp 19) rfl w.heap.size _ N _ rfl (HO.out.alloc _) _ _ 1 1 [0] rfl (Holds.lit wr [0] _ rfl (by simp [maxLen]) zb) (by omega) (by simp; omega) ?_
                   intro v1 w9 o9 g9 hat9)
      rw [row_next] at o9
      have OX := Lib.hid o9
      have BX := Lib.hid ((HB.out.alloc HBS _).grown g9 (by simp; omega) fun g hg => (HO.out.lt g hg).1)
      have VX : Hid (lenOf v1 = N + 1) := Lib.hid (by
        obtain ⟨A', c', e, _⟩ := o9.slice
        rw [e]; rfl)
      have HN2 : Hid (N + 1 = n + 1 + (k + 1)) := Lib.hid (by have := HN.out; omega)
      clear o9 g9 hat9 HO HB HBS
      go_roundw
      case rel => exact ⟨k + 1, N + 1, HN2, HK2, OX, BX⟩
      case measure =>
        have := nlt.out
        rw [VX.out]
        show n + 200 - (N + 1) < n + 200 - N
        omega
end Go.Proofs.YtmlihcillheeaaaDoor.ShaO
