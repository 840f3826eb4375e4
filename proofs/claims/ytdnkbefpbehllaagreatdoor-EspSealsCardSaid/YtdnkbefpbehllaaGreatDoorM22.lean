/- Contracts of the document: with, Full, Tag. -/
import Derived.Test.YtdnkbefpbehllaaGreatDoorM21
import Derived.Test.YtdnkbefpbehllaaGreatDoorM11
import Derived.Test.YtdnkbefpbehllaaGreatDoorM18
import Derived.Test.YtdnkbefpbehllaaGreatDoorM19
import Derived.BigQuiet
set_option linter.unusedVariables false
namespace Go.Proofs.YtdnkbefpbehllaaGreatDoor.MacR
open Go.RowKit Go.Proofs.YtdnkbefpbehllaaGreatDoor.Sums Go.Proofs.YtdnkbefpbehllaaGreatDoor.Mem Go.Proofs.YtdnkbefpbehllaaGreatDoor.Blk Go.Proofs.YtdnkbefpbehllaaGreatDoor.Bits3 Go.Proofs.YtdnkbefpbehllaaGreatDoor.Ints Go.Proofs.YtdnkbefpbehllaaGreatDoor.ShaD Go.Proofs.YtdnkbefpbehllaaGreatDoor.ShaO Go.Proofs.YtdnkbefpbehllaaGreatDoor.MacD

theorem all_range (L : List Nat) (n : Nat) (h : L.length = n) : (List.range n).map (fun i => L.getD i 0) = L := by
  subst h
  apply List.ext_getElem
  · simp
  · intro i h1 h2
    simp only [List.getElem_map, List.getElem_range]
    rw [List.getD_eq_getElem?_getD, List.getElem?_eq_getElem h2]
    rfl
theorem withK_get (key : List Nat) (x : Nat) {i : Nat} (h : i < 64) : (withK key x).getD i 0 = if i < key.length then x ^^^ key.getD i 0 else x := by
  unfold withK
  rw [List.getD_eq_getElem?_getD, List.getElem?_map, List.getElem?_range h]
  rfl
set_option maxHeartbeats 1000000 in
theorem with_ref (A : Option Addr) (n c : Nat) (ks : List Int) (x : Nat) (hx : x < 256) (w : World) (B : Nat) (h : Holds w B A n c ks) (hB : B ≤ w.heap.size) :
    Calls Tryz.prog 71 #[.slice A n c, .int .u8 (x : Int)] w fun e w' => ∃ v, e = .returned v ∧ Owns w' w.heap.size v 64 (ints (withK (nats ks) x)) ∧ Below w.heap.size w w' := by
  have mk : ∀ W : World, (Instr.makeSlice 25 (.int .i64 64) (.int .i64 64)).run Tryz.prog W = .ok (.slice (some ⟨W.heap.size, 0, none⟩) 64 64) (W.alloc (.cells (bcells (List.replicate 64 0)) 5)) := fun W => make_b 64 (by decide) W
  obtain ⟨key, hkey⟩ : ∃ key, key = nats ks := ⟨_, rfl⟩
  have KL : Hid (key.length = n) := Lib.hid (by rw [hkey, nats_len, h.1])
  have KB : Hid (Byt key) := Lib.hid (by rw [hkey]; exact nats_lt fun z hz => h.2.2.2.1 z hz)
  have KN : Hid (∀ i, ks.getD i 0 = ((key.getD i 0 : Nat) : Int)) := Lib.hid fun i => by rw [hkey]; exact nats_getD h.2.2.2.1 i
  rw [← hkey]
  obtain ⟨R, hR⟩ : ∃ R, R = withK key x := ⟨_, rfl⟩
  have RL : Hid (R.length = 64) := Lib.hid (by rw [hR, withK_len])
  have RB : Hid (Byt R) := Lib.hid (by rw [hR]; exact withK_byt KB.out hx)
  have RG : Hid (∀ i, i < 64 → R.getD i 0 = if i < key.length then x ^^^ key.getD i 0 else x) := Lib.hid fun i hi => by rw [hR]; exact withK_get key x hi
  rw [← hR]
  obtain ⟨f, hf⟩ : ∃ f : Nat → Nat, f = fun i => R.getD i 0 := ⟨_, rfl⟩
  have FI := Lib.hid (fun i => congrFun hf i)
  have FA : Hid ((List.range 64).map f = R) := Lib.hid (by rw [hf]; exact all_range R 64 RL.out)
  have N0 : Hid (BRow (w.alloc (.cells (bcells (List.replicate 64 0)) 5)) w.heap.size (fil f 64 0)) := Lib.hid (by rw [fil_zero]; exact BRow.new w _)
  have B0 : Hid (Below w.heap.size w (w.alloc (.cells (bcells (List.replicate 64 0)) 5))) := Lib.hid ((Below.refl _ _).alloc (Nat.le_refl _) _)
  have HK := Lib.hid h
  have XB := Lib.hid hx
  generalize bcells (List.replicate 64 0) = Z at *
  clear hkey hR hf h hx
  go_enter Tryz.func71, Tryz.ntmps71
  go_wp2_with fail
  clear mk
  generalize w.alloc (.cells Z 5) = w1 at *
  go_loopw [6] (fun kv wr => ∃ j : Nat, kv = .int .i64 (j : Int) ∧ j ≤ 64 ∧ Hid (BRow wr w.heap.size (fil f 64 j)) ∧ Hid (Below w.heap.size w wr)) (fun kv _ => 64 - (intOf kv).toNat)
  case atStart => exact ⟨0, rfl, by omega, N0, B0⟩
  case round =>
    obtain ⟨j, rfl, hj, HR, HB⟩ := hrel
    clear N0 B0
    by_cases hlt : j < 64
    · have c0 := HR.out.cell j (by rw [fil_len]; exact hlt)
      have f0 := HR.out.free j
      have R1 : BRow (wr.setCell ⟨w.heap.size, j, none⟩ (.int .u8 (x : Int))) w.heap.size ((fil f 64 j).set j x) := HR.out.put j x
      have B1 := HB.out.setCell (p := ⟨w.heap.size, j, none⟩) (Nat.le_refl _) (.int .u8 (x : Int))
      have FJ := FI.out j
      rw [RG.out j hlt] at FJ
      by_cases hk : j < n
      · rw [if_pos (by rw [KL.out]; exact hk)] at FJ
        have hbl := HK.out.below (B1.mono hB)
        obtain ⟨b, o, rfl, hbB, _⟩ := HK.out.2.2.2.2 (by omega)
        have ck := cell_getD hbl j hk
        rw [KN.out] at ck
        have kb := getD_byt KB.out j
        have c1 := R1.cell j (by rw [List.length_set, fil_len]; exact hlt)
        have f1 := R1.free j
        have R2 : Hid (BRow ((wr.setCell ⟨w.heap.size, j, none⟩ (.int .u8 (x : Int))).setCell ⟨w.heap.size, j, none⟩ (.int .u8 ((f j : Nat) : Int))) w.heap.size (fil f 64 (j + 1))) := Lib.hid (by
          have := R1.put j (f j)
          rw [List.set_set, fil_set] at this
          exact this)
        have B2 := Lib.hid (B1.setCell (p := ⟨w.heap.size, j, none⟩) (Nat.le_refl _) (.int .u8 ((f j : Nat) : Int)))
        have e1 : bits .xor .u8 (x : Int) ((key.getD j 0 : Nat) : Int) = ((f j : Nat) : Int) := by rw [Bits3.u8_xor XB.out kb, FJ]
        have gk : decide ((j : Int) < (n : Int)) = true := decide_eq_true (by omega)
        generalize f j = y at *
        generalize key.getD j 0 = k at *
        generalize (fil f 64 j).getD j 0 = old at *
        generalize ((fil f 64 j).set j x).getD j 0 = old2 at *
        generalize hW : wr.setCell ⟨w.heap.size, j, none⟩ (.int .u8 (x : Int)) = W1 at *
        clear FJ R1 HR HB hbl
        go_wp2_with fail
        go_roundw
        case rel => exact ⟨j + 1, by go_num, by omega, R2, B2⟩
        case measure => simp [intOf]; omega
      · rw [if_neg (by rw [KL.out]; exact hk)] at FJ
        have R2 : Hid (BRow (wr.setCell ⟨w.heap.size, j, none⟩ (.int .u8 (x : Int))) w.heap.size (fil f 64 (j + 1))) := Lib.hid (by rw [← FJ, fil_set] at R1; rw [← FJ]; exact R1)
        have B2 := Lib.hid B1
        have gk : decide ((j : Int) < (n : Int)) = false := decide_eq_false (by omega)
        generalize (fil f 64 j).getD j 0 = old at *
        clear FJ R1 HR HB B1
        go_wp2_with fail
        go_roundw
        case rel => exact ⟨j + 1, by go_num, by omega, R2, B2⟩
        case measure => simp [intOf]; omega
    · obtain rfl : j = 64 := by omega
      have OF : Hid (Owns wr w.heap.size (.slice (some ⟨w.heap.size, 0, none⟩) 64 64) 64 (ints R)) := Lib.hid (by
        have q := HR.out
        rw [fil_full, FA.out] at q
        have := q.owns RB.out (by rw [RL.out]; decide) (Nat.le_refl w.heap.size)
        rwa [RL.out] at this)
      have BF := HB
      clear HR HB
      go_wp2_with fail
      go_ret
      exact ⟨_, rfl, OF.out, BF.out⟩

set_option maxHeartbeats 2000000 in
theorem full_ref (A : Option Addr) (n c : Nat) (ks : List Int) (A2 : Option Addr) (n2 c2 : Nat) (bs : List Int) (w : World) (B : Nat) (h : Holds w B A n c ks) (h2 : Holds w B A2 n2 c2 bs) (hB : B ≤ w.heap.size) (hn : n ≤ 1000000) (hn2 : n2 ≤ 900000) :
    Calls Tryz.prog 59 #[.slice A n c, .slice A2 n2 c2] w fun e w' => ∃ v, e = .returned v ∧ Owns w' w.heap.size v 32 (ints (full (nats ks) (nats bs))) ∧ Below w.heap.size w w' := by
  have H2 := Lib.hid h2
  have BI : Hid (ints (nats bs) = bs) := Lib.hid (ints_nats fun z hz => h2.2.2.2.1 z hz)
  have BL : Hid ((nats bs).length = n2) := Lib.hid ((nats_len bs).trans h2.1)
  -- what stands behind the key, whatever key it is
  have REST : Hid (∀ (Ak : Option Addr) (nk ck : Nat) (kk : List Nat) (V : World), Below w.heap.size w V → Holds V V.heap.size Ak nk ck (ints kk) → kk = kOf (nats ks) → Calls Tryz.prog 71 #[.slice Ak nk ck, .int .u8 54] V fun e w' => ∃ A1 c1, e = .returned (.slice A1 64 c1) ∧ Holds w' w'.heap.size A1 64 c1 (ints (withK kk 54)) ∧ Below V.heap.size V w') := Lib.hid fun Ak nk ck kk V hV hk _ => by
    have q := with_ref Ak nk ck (ints kk) 54 (by decide) V V.heap.size hk (Nat.le_refl _)
    rw [nats_ints] at q
    exact q.mono fun e w' ⟨v, he, ho, hb⟩ => by
      obtain ⟨A1, c1, rfl, hh⟩ := ho.slice
      exact ⟨A1, c1, he, hh, hb⟩
  have REST2 : Hid (∀ (Ak : Option Addr) (nk ck : Nat) (kk : List Nat) (V : World), Holds V V.heap.size Ak nk ck (ints kk) → Calls Tryz.prog 71 #[.slice Ak nk ck, .int .u8 92] V fun e w' => ∃ A1 c1, e = .returned (.slice A1 64 c1) ∧ Holds w' w'.heap.size A1 64 c1 (ints (withK kk 92)) ∧ Below V.heap.size V w') := Lib.hid fun Ak nk ck kk V hk => by
    have q := with_ref Ak nk ck (ints kk) 92 (by decide) V V.heap.size hk (Nat.le_refl _)
    rw [nats_ints] at q
    exact q.mono fun e w' ⟨v, he, ho, hb⟩ => by
      obtain ⟨A1, c1, rfl, hh⟩ := ho.slice
      exact ⟨A1, c1, he, hh, hb⟩
  have FE : Hid (full (nats ks) (nats bs) = digest (withK (kOf (nats ks)) 92 ++ digest (withK (kOf (nats ks)) 54 ++ nats bs))) := Lib.hid rfl
  obtain ⟨F, hF⟩ : ∃ F, F = full (nats ks) (nats bs) := ⟨_, rfl⟩
  rw [← hF] at FE ⊢
  obtain ⟨BN, hBN⟩ : ∃ BN, BN = nats bs := ⟨_, rfl⟩
  rw [← hBN] at BI BL FE
  have KI : Hid (ints (nats ks) = ks) := Lib.hid (ints_nats fun z hz => h.2.2.2.1 z hz)
  have KL : (nats ks).length = n := (nats_len ks).trans h.1
  by_cases hk : 64 < n
  · have KE : Hid (kOf (nats ks) = digest (nats ks)) := Lib.hid (by unfold kOf; rw [if_pos (by rw [KL]; exact hk)])
    rw [KE.out] at FE REST
    have C := Lib.hid (of_ref A n c ks w B h hB hn)
    have gk : decide ((64 : Int) < (n : Int)) = true := decide_eq_true (by omega)
    obtain ⟨D, hD⟩ : ∃ D, D = digest (nats ks) := ⟨_, rfl⟩
    rw [← hD] at FE REST C
    have DL : Hid (D.length = 32) := Lib.hid (by rw [hD, digest_len])
    clear h h2 hF hBN KE KI KL hD hk
    go_enter Tryz.func59, Tryz.ntmps59
    go_wp2_with fail
    refine C.out.mono ?_
    rintro e w1 ⟨v1, rfl, o1, hb⟩
    obtain ⟨Ak, ck, rfl, hk⟩ := o1.slice
    have B1 := Lib.hid hb
    have HK := Lib.hid hk
    clear o1 hk hb C gk
    go_wp2_with fail
    refine (REST.out Ak 32 ck D w1 B1.out HK.out rfl).mono ?_
    rintro e w2 ⟨A1, c1, rfl, h1, hb⟩
    have H1 := Lib.hid h1
    have B2 := Lib.hid (B1.out.trans (hb.mono B1.out.size))
    have HK2 := Lib.hid ((HK.out.below hb).more hb.size)
    have HB2 := Lib.hid (((H2.out.below (B2.out.mono hB)).more (Nat.le_trans hB B2.out.size)))
    clear h1 hb REST
    go_wp2_with fail
    refine (Both.both_lit (w := w2) (B := w2.heap.size) (Nat.le_refl _) [⟨A1, 64, c1, ints (withK D 54)⟩, ⟨A2, n2, c2, bs⟩] _ _ rfl (Both.mem2 H1.out HB2.out) _ 2 rfl rfl (by decide) (by show 64 + (n2 + 0) ≤ 1048576; omega)).mono ?_
    rintro e w3 ⟨A3, c3, rfl, h3, _, hb⟩
    have e1 : Both.flat [⟨A1, 64, c1, ints (withK D 54)⟩, ⟨A2, n2, c2, bs⟩] = ints (withK D 54 ++ BN) := by rw [ShaO.ints_app, BI.out]; simp [Both.flat]
    have e0 : Both.total [⟨A1, 64, c1, ints (withK D 54)⟩, ⟨A2, n2, c2, bs⟩] = 64 + n2 := rfl
    rw [e1, e0] at h3
    rw [e0]
    have B3 := Lib.hid (B2.out.trans (hb.mono B2.out.size))
    have HK3 := Lib.hid ((HK2.out.below hb).more hb.size)
    have C3 := Lib.hid (of_ref A3 (64 + n2) c3 _ w3 w3.heap.size h3 (Nat.le_refl _) (by omega))
    rw [nats_ints] at C3
    clear h3 hb e1 e0 H1 HB2 HK2
    go_wp2_with fail
    refine C3.out.mono ?_
    rintro e w4 ⟨v4, rfl, o4, hb⟩
    obtain ⟨A4, c4, rfl, h4⟩ := o4.slice
    have H4 := Lib.hid h4
    have B4 := Lib.hid (B3.out.trans (hb.mono B3.out.size))
    have HK4 := Lib.hid ((HK3.out.below hb).more hb.size)
    obtain ⟨I, hI⟩ : ∃ I, I = digest (withK D 54 ++ BN) := ⟨_, rfl⟩
    rw [← hI] at H4 FE
    clear o4 h4 hb C3 HK3 hI
    go_wp2_with fail
    refine (REST2.out Ak 32 ck D w4 HK4.out).mono ?_
    rintro e w5 ⟨A5, c5, rfl, h5, hb⟩
    have H5 := Lib.hid h5
    have B5 := Lib.hid (B4.out.trans (hb.mono B4.out.size))
    have H45 := Lib.hid ((H4.out.below hb).more hb.size)
    clear h5 hb REST2 H4 HK4
    go_wp2_with fail
    refine (Both.both_lit (w := w5) (B := w5.heap.size) (Nat.le_refl _) [⟨A5, 64, c5, ints (withK D 92)⟩, ⟨A4, 32, c4, ints I⟩] _ _ rfl (Both.mem2 H5.out H45.out) _ 2 rfl rfl (by decide) (by show 64 + (32 + 0) ≤ 1048576; omega)).mono ?_
    rintro e w6 ⟨A6, c6, rfl, h6, _, hb⟩
    have e1 : Both.flat [⟨A5, 64, c5, ints (withK D 92)⟩, ⟨A4, 32, c4, ints I⟩] = ints (withK D 92 ++ I) := by rw [ShaO.ints_app]; simp [Both.flat]
    have e0 : Both.total [⟨A5, 64, c5, ints (withK D 92)⟩, ⟨A4, 32, c4, ints I⟩] = 96 := rfl
    rw [e1, e0] at h6
    rw [e0]
    have B6 := Lib.hid (B5.out.trans (hb.mono B5.out.size))
    have C6 := Lib.hid (of_ref A6 96 c6 _ w6 w6.heap.size h6 (Nat.le_refl _) (by omega))
    rw [nats_ints, ← FE.out] at C6
    clear h6 hb e1 e0 H5 H45
    go_wp2_with fail
    refine C6.out.mono ?_
    rintro e w7 ⟨v7, rfl, o7, hb⟩
    have O7 := Lib.hid (o7.mono B6.out.size)
    have B7 := Lib.hid (B6.out.trans (hb.mono B6.out.size))
    clear o7 hb C6
    go_wp2_with fail
    go_ret
    exact ⟨_, rfl, O7.out, B7.out⟩
  · have KE : Hid (kOf (nats ks) = nats ks) := Lib.hid (by unfold kOf; rw [if_neg (by rw [KL]; exact hk)])
    rw [KE.out] at FE REST
    have gk : decide ((64 : Int) < (n : Int)) = false := decide_eq_false (by omega)
    obtain ⟨D, hD⟩ : ∃ D, D = nats ks := ⟨_, rfl⟩
    rw [← hD] at FE REST KI
    have B1 := Lib.hid (Below.refl w.heap.size w)
    have HK : Hid (Holds w w.heap.size A n c (ints D)) := Lib.hid (by rw [KI.out]; exact h.more hB)
    clear h h2 hF hBN KE KI KL hD
    go_enter Tryz.func59, Tryz.ntmps59
    go_wp2_with fail
    refine (REST.out A n c D w B1.out HK.out rfl).mono ?_
    rintro e w2 ⟨A1, c1, rfl, h1, hb⟩
    have H1 := Lib.hid h1
    have B2 := Lib.hid (B1.out.trans (hb.mono B1.out.size))
    have HK2 := Lib.hid ((HK.out.below hb).more hb.size)
    have HB2 := Lib.hid (((H2.out.below (B2.out.mono hB)).more (Nat.le_trans hB B2.out.size)))
    clear h1 hb REST
    go_wp2_with fail
    refine (Both.both_lit (w := w2) (B := w2.heap.size) (Nat.le_refl _) [⟨A1, 64, c1, ints (withK D 54)⟩, ⟨A2, n2, c2, bs⟩] _ _ rfl (Both.mem2 H1.out HB2.out) _ 2 rfl rfl (by decide) (by show 64 + (n2 + 0) ≤ 1048576; omega)).mono ?_
    rintro e w3 ⟨A3, c3, rfl, h3, _, hb⟩
    have e1 : Both.flat [⟨A1, 64, c1, ints (withK D 54)⟩, ⟨A2, n2, c2, bs⟩] = ints (withK D 54 ++ BN) := by rw [ShaO.ints_app, BI.out]; simp [Both.flat]
    have e0 : Both.total [⟨A1, 64, c1, ints (withK D 54)⟩, ⟨A2, n2, c2, bs⟩] = 64 + n2 := rfl
    rw [e1, e0] at h3
    rw [e0]
    have B3 := Lib.hid (B2.out.trans (hb.mono B2.out.size))
    have HK3 := Lib.hid ((HK2.out.below hb).more hb.size)
    have C3 := Lib.hid (of_ref A3 (64 + n2) c3 _ w3 w3.heap.size h3 (Nat.le_refl _) (by omega))
    rw [nats_ints] at C3
    clear h3 hb e1 e0 H1 HB2 HK2
    go_wp2_with fail
    refine C3.out.mono ?_
    rintro e w4 ⟨v4, rfl, o4, hb⟩
    obtain ⟨A4, c4, rfl, h4⟩ := o4.slice
    have H4 := Lib.hid h4
    have B4 := Lib.hid (B3.out.trans (hb.mono B3.out.size))
    have HK4 := Lib.hid ((HK3.out.below hb).more hb.size)
    obtain ⟨I, hI⟩ : ∃ I, I = digest (withK D 54 ++ BN) := ⟨_, rfl⟩
    rw [← hI] at H4 FE
    clear o4 h4 hb C3 HK3 hI
    go_wp2_with fail
    refine (REST2.out A n c D w4 HK4.out).mono ?_
    rintro e w5 ⟨A5, c5, rfl, h5, hb⟩
    have H5 := Lib.hid h5
    have B5 := Lib.hid (B4.out.trans (hb.mono B4.out.size))
    have H45 := Lib.hid ((H4.out.below hb).more hb.size)
    clear h5 hb REST2 H4 HK4
    go_wp2_with fail
    refine (Both.both_lit (w := w5) (B := w5.heap.size) (Nat.le_refl _) [⟨A5, 64, c5, ints (withK D 92)⟩, ⟨A4, 32, c4, ints I⟩] _ _ rfl (Both.mem2 H5.out H45.out) _ 2 rfl rfl (by decide) (by show 64 + (32 + 0) ≤ 1048576; omega)).mono ?_
    rintro e w6 ⟨A6, c6, rfl, h6, _, hb⟩
    have e1 : Both.flat [⟨A5, 64, c5, ints (withK D 92)⟩, ⟨A4, 32, c4, ints I⟩] = ints (withK D 92 ++ I) := by rw [ShaO.ints_app]; simp [Both.flat]
    have e0 : Both.total [⟨A5, 64, c5, ints (withK D 92)⟩, ⟨A4, 32, c4, ints I⟩] = 96 := rfl
    rw [e1, e0] at h6
    rw [e0]
    have B6 := Lib.hid (B5.out.trans (hb.mono B5.out.size))
    have C6 := Lib.hid (of_ref A6 96 c6 _ w6 w6.heap.size h6 (Nat.le_refl _) (by omega))
    rw [nats_ints, ← FE.out] at C6
    clear h6 hb e1 e0 H5 H45
    go_wp2_with fail
    refine C6.out.mono ?_
    rintro e w7 ⟨v7, rfl, o7, hb⟩
    have O7 := Lib.hid (o7.mono B6.out.size)
    have B7 := Lib.hid (B6.out.trans (hb.mono B6.out.size))
    clear o7 hb C6
    go_wp2_with fail
    go_ret
    exact ⟨_, rfl, O7.out, B7.out⟩

theorem tag_no (A : Option Addr) (n c : Nat) (A2 : Option Addr) (n2 c2 : Nat) (w : World) (hn : n ≠ 32) (h3 : n ≤ 140737488355328) :
    Calls Tryz.prog 47 #[.slice A n c, .slice A2 n2 c2] w fun e w' => e = .returned (.tuple #[.slice none 0 0, .int .i64 1]) ∧ w = w' := by
  have g : ((n : Int) != 32) = true := by rw [bne_iff_ne]; omega
  clear hn
  go_enter Tryz.func47, Tryz.ntmps47
  go_wp2_with fail
  go_ret2
  exact ⟨rfl, rfl⟩
set_option maxHeartbeats 1000000 in
theorem tag_ref (A : Option Addr) (c : Nat) (ks : List Int) (A2 : Option Addr) (n2 c2 : Nat) (bs : List Int) (w : World) (B : Nat) (h : Holds w B A 32 c ks) (h2 : Holds w B A2 n2 c2 bs) (hB : B ≤ w.heap.size) (hn2 : n2 ≤ 900000) :
    Calls Tryz.prog 47 #[.slice A 32 c, .slice A2 n2 c2] w fun e w' => ∃ A' c', e = .returned (.tuple #[.slice A' 16 c', .int .i64 0]) ∧ Holds w' w'.heap.size A' 16 c' (ints ((full (nats ks) (nats bs)).take 16)) ∧ Below w.heap.size w w' := by
  have C := Lib.hid (full_ref A 32 c ks A2 n2 c2 bs w B h h2 hB (by decide) hn2)
  generalize full (nats ks) (nats bs) = F at *
  clear h h2
  go_enter Tryz.func47, Tryz.ntmps47
  go_wp2_with fail
  refine C.out.mono ?_
  rintro e w1 ⟨v, rfl, o, hb⟩
  obtain ⟨A1, c1, rfl, h1⟩ := o.slice
  obtain ⟨g, rfl, _, _⟩ := o.form (by decide)
  have hc := h1.2.1
  have HU := Lib.hid (h1.upto (k := 16) (by decide))
  have BF := Lib.hid hb
  clear o h1 hb C
  go_wp2_with fail
  go_ret2
  exact ⟨_, _, rfl, by rw [ShaO.ints_take]; exact HU.out, BF.out⟩
end Go.Proofs.YtdnkbefpbehllaaGreatDoor.MacR

/- The document's four, Peek, tag. -/
set_option linter.unusedVariables false
namespace Go.Proofs.YtdnkbefpbehllaaGreatDoor.EspR2
open Go.RowKit Go.Proofs.YtdnkbefpbehllaaGreatDoor.Sums Go.Proofs.YtdnkbefpbehllaaGreatDoor.Mem Go.Proofs.YtdnkbefpbehllaaGreatDoor.Blk Go.Proofs.YtdnkbefpbehllaaGreatDoor.Free Go.Proofs.YtdnkbefpbehllaaGreatDoor.Steps Go.Proofs.YtdnkbefpbehllaaGreatDoor.Regs Go.Proofs.YtdnkbefpbehllaaGreatDoor.Bits3 Go.Proofs.YtdnkbefpbehllaaGreatDoor.Ints Go.Proofs.YtdnkbefpbehllaaGreatDoor.AesB Go.Proofs.YtdnkbefpbehllaaGreatDoor.PadR Go.Proofs.YtdnkbefpbehllaaGreatDoor.EspD Go.Proofs.YtdnkbefpbehllaaGreatDoor.EspR1
open Go.Proofs.YtdnkbefpbehllaaGreatDoor.CtrD (four four_byt)

theorem nums_str {l : List Int} (h : Bytes l) : nums (strOfNums l) = l := by
  simp only [strOfNums, nums, List.map_map]
  refine (List.map_congr_left fun z hz => ?_).trans (List.map_id l)
  have := h z hz
  simp only [Function.comp, id]
  rw [UInt8.toNat_ofNat_of_lt' (by simp [UInt8.size]; omega)]
  omega
theorem str_inj {a b : List Int} (ha : Bytes a) (hb : Bytes b) (h : strOfNums a = strOfNums b) : a = b := by rw [← nums_str ha, ← nums_str hb, h]
theorem toList_eq (a b : ByteArray) : (a.toList == b.toList) = decide (a = b) := by
  by_cases h : a = b
  · subst h; simp
  · have : a.toList ≠ b.toList := fun e => h (by
      cases a; cases b
      rw [ByteArray.toList_eq, ByteArray.toList_eq] at e
      simp at e
      rw [e])
    simp [h, this]
theorem str_eq {a b : List Int} (ha : Bytes a) (hb : Bytes b) : ((strOfNums a).toList == (strOfNums b).toList) = decide (a = b) := by
  rw [toList_eq, decide_eq_decide]
  exact ⟨fun h => str_inj ha hb h, fun h => by rw [h]⟩
theorem st_extract {o : Oper} {a : Act} {w : World} {K : Act → World → Prop} {Q : Exit → Act → World → Prop} (x : Operand) (k : Nat) (ho : o.op = .extract x k) (vs : Array Value) (v : Value) (hx : a.eval x = .tuple vs) (hv : vs[k]? = some v) (hK : K (a.put o.dst v) w) : Step Tryz.prog o a w K Q :=
  wp_value v (by simp [execOp, ho, hx, Instr.extract, hv]) hK
theorem list2 {f : Operand → Value} {x y : Operand} {u v : Value} (h1 : f x = u) (h2 : f y = v) : [x, y].map f = [u, v] := by simp [h1, h2]
theorem ints_bytes {l : List Nat} (h : Byt l) : Bytes (ints l) := fun z hz => by
  obtain ⟨x, hx, rfl⟩ := List.mem_map.1 hz
  have := h x hx
  omega
theorem fld0 (g : Nat) (w : World) : (Instr.fieldAt 23 (.pointer (some ⟨g, 0, none⟩)) 0).run Tryz.prog w = .ok (.pointer (some ⟨g, 0, none⟩)) w := by kernel_rfl
theorem fld1 (g : Nat) (w : World) : (Instr.fieldAt 23 (.pointer (some ⟨g, 0, none⟩)) 1).run Tryz.prog w = .ok (.pointer (some ⟨g, 1, none⟩)) w := by kernel_rfl
theorem fld2 (g : Nat) (w : World) : (Instr.fieldAt 23 (.pointer (some ⟨g, 0, none⟩)) 2).run Tryz.prog w = .ok (.pointer (some ⟨g, 2, none⟩)) w := by kernel_rfl
theorem fld3 (g : Nat) (w : World) : (Instr.fieldAt 23 (.pointer (some ⟨g, 0, none⟩)) 3).run Tryz.prog w = .ok (.pointer (some ⟨g, 3, none⟩)) w := by kernel_rfl
theorem fld4 (g : Nat) (w : World) : (Instr.fieldAt 23 (.pointer (some ⟨g, 0, none⟩)) 4).run Tryz.prog w = .ok (.pointer (some ⟨g, 4, none⟩)) w := by kernel_rfl
theorem fld5 (g : Nat) (w : World) : (Instr.fieldAt 23 (.pointer (some ⟨g, 0, none⟩)) 5).run Tryz.prog w = .ok (.pointer (some ⟨g, 5, none⟩)) w := by kernel_rfl
theorem ent_both : Enters Tryz.prog 7 := enters_of Tryz.func7 (by kernel_rfl) rfl
theorem ent_tag11 : Enters Tryz.prog 47 := enters_of Tryz.func47 (by kernel_rfl) rfl

set_option maxHeartbeats 1000000 in
theorem four_num (b p n c : Nat) (l : List Int) (w : World) (B : Nat) (h : Holds w B (some ⟨b, p, none⟩) n c l) (hn : 4 ≤ n) : Calls Tryz.prog 39 #[.slice (some ⟨b, p, none⟩) n c] w fun e w' => e = .returned (.int .i64 (num4 l 0)) ∧ ∃ k, w' = w.drewN k := by
  have c0 := Ints.cell_getD h 0 (by omega)
  have c1 := Ints.cell_getD h 1 (by omega)
  have c2 := Ints.cell_getD h 2 (by omega)
  have c3 := Ints.cell_getD h 3 (by omega)
  have d0 := getD_in h.2.2.2.1 0
  have d1 := getD_in h.2.2.2.1 1
  have d2 := getD_in h.2.2.2.1 2
  have d3 := getD_in h.2.2.2.1 3
  have E : Hid (num4 l 0 = 16777216 * l.getD 0 0 + 65536 * l.getD 1 0 + 256 * l.getD 2 0 + l.getD 3 0) := Lib.hid rfl
  generalize num4 l 0 = r at *
  generalize l.getD 0 0 = z0 at *
  generalize l.getD 1 0 = z1 at *
  generalize l.getD 2 0 = z2 at *
  generalize l.getD 3 0 = z3 at *
  rw [Nat.add_zero] at c0
  have i0 : IntKind.i64.wrap z0 = z0 := IntWalk.i64_in _ (by omega)
  have i1 : IntKind.i64.wrap z1 = z1 := IntWalk.i64_in _ (by omega)
  have i2 : IntKind.i64.wrap z2 = z2 := IntWalk.i64_in _ (by omega)
  have i3 : IntKind.i64.wrap z3 = z3 := IntWalk.i64_in _ (by omega)
  obtain ⟨m0, hm0⟩ : ∃ m, m = 16777216 * z0 := ⟨_, rfl⟩
  obtain ⟨m1, hm1⟩ : ∃ m, m = 65536 * z1 := ⟨_, rfl⟩
  obtain ⟨m2, hm2⟩ : ∃ m, m = 256 * z2 := ⟨_, rfl⟩
  obtain ⟨s1, hs1⟩ : ∃ m, m = m0 + m1 := ⟨_, rfl⟩
  obtain ⟨s2, hs2⟩ : ∃ m, m = s1 + m2 := ⟨_, rfl⟩
  obtain ⟨s3, hs3⟩ : ∃ m, m = s2 + z3 := ⟨_, rfl⟩
  have e0 : IntKind.i64.wrap (16777216 * z0) = m0 := by rw [IntWalk.i64_in _ (by omega), hm0]
  have e1 : IntKind.i64.wrap (65536 * z1) = m1 := by rw [IntWalk.i64_in _ (by omega), hm1]
  have e2 : IntKind.i64.wrap (256 * z2) = m2 := by rw [IntWalk.i64_in _ (by omega), hm2]
  have e3 : IntKind.i64.wrap (m0 + m1) = s1 := by rw [IntWalk.i64_in _ (by omega), hs1]
  have e4 : IntKind.i64.wrap (s1 + m2) = s2 := by rw [IntWalk.i64_in _ (by omega), hs2]
  have e5 : IntKind.i64.wrap (s2 + z3) = s3 := by rw [IntWalk.i64_in _ (by omega), hs3]
  have RE : Hid (r = s3) := Lib.hid (by rw [E.out, hs3, hs2, hs1, hm0, hm1, hm2])
  clear hm0 hm1 hm2 hs1 hs2 hs3 d0 d1 d2 d3 E h
  go_enter Tryz.func39, Tryz.ntmps39
  go_wp2_with fail
  go_quiet (fail)
  clear c0 c1 c2 c3 i0 i1 i2 i3 e0 e1 e2 e3 e4 e5
  go_wp2_with fail
  go_ret
  exact ⟨by rw [RE.out]; rfl, _, rfl⟩
theorem num4_drop (l : List Int) (k : Nat) : num4 (l.drop k) 0 = num4 l k := by
  have g : ∀ i, (l.drop k).getD i 0 = l.getD (k + i) 0 := fun i => by rw [List.getD_eq_getElem?_getD, List.getElem?_drop, List.getD_eq_getElem?_getD]
  unfold num4
  rw [g, g, g, g]
  rfl

def peekX (l : List Int) : Int := if l.length < 8 then 0 else num4 l 0
def peekY (l : List Int) : Int := if l.length < 8 then 0 else num4 l 4
def peekE (l : List Int) : Int := if l.length < 8 then 8 else 0
theorem peek_ref (A : Option Addr) (n c : Nat) (l : List Int) (w : World) (B : Nat) (h : Holds w B A n c l) : Calls Tryz.prog 17 #[.slice A n c] w fun e w' => e = .returned (.tuple #[.int .i64 (peekX l), .int .i64 (peekY l), .int .i64 (peekE l)]) ∧ Below w.heap.size w w' := by
  have hl := h.1
  by_cases q : n < 8
  · have E : Hid (peekX l = 0 ∧ peekY l = 0 ∧ peekE l = 8) := Lib.hid (by unfold peekX peekY peekE; rw [hl, if_pos q, if_pos q, if_pos q]; exact ⟨rfl, rfl, rfl⟩)
    have g : decide ((n : Int) < 8) = true := decide_eq_true (by omega)
    clear h hl
    go_enter Tryz.func17, Tryz.ntmps17
    go_wp2_with fail
    go_ret3
    exact ⟨by rw [E.out.1, E.out.2.1, E.out.2.2]; rfl, Below.refl _ _⟩
  · have E : Hid (peekX l = num4 l 0 ∧ peekY l = num4 l 4 ∧ peekE l = 0) := Lib.hid (by unfold peekX peekY peekE; rw [hl, if_neg q, if_neg q, if_neg q]; exact ⟨rfl, rfl, rfl⟩)
    have g : decide ((n : Int) < 8) = false := decide_eq_false (by omega)
    obtain ⟨b, p, rfl, _⟩ := h.2.2.2.2 (by omega)
    obtain ⟨b', p', e, h4⟩ := h.from_ (k := 4) (by omega)
    injection e with e
    injection e with e1 e2
    subst e1 e2
    have C0 : Hid (∀ k, Calls Tryz.prog 39 #[.slice (some ⟨b, p, none⟩) n c] (w.drewN k) fun e w' => e = .returned (.int .i64 (num4 l 0)) ∧ ∃ m, w' = (w.drewN k).drewN m) := Lib.hid fun k => four_num b p n c l _ B (h.keep fun _ _ _ => rfl) (by omega)
    have C4 : Hid (∀ k, Calls Tryz.prog 39 #[.slice (some ⟨b, p + 4, none⟩) (n - 4) (c - 4)] (w.drewN k) fun e w' => e = .returned (.int .i64 (num4 l 4)) ∧ ∃ m, w' = (w.drewN k).drewN m) := Lib.hid fun k => by
      have := four_num b (p + 4) (n - 4) (c - 4) (l.drop 4) (w.drewN k) B (h4.keep fun _ _ _ => rfl) (by omega)
      rw [num4_drop] at this
      exact this
    have cu : ∀ W, (Instr.sliceAt 25 (.slice (some ⟨b, p, none⟩) n c) (some (.int .i64 4)) none none).run Tryz.prog W = .ok (.slice (some ⟨b, p + 4, none⟩) (n - 4) (c - 4)) W := fun W => Cut.cut_l b p n c 4 W (by omega) h.2.1 (by have := h.2.1; omega)
    generalize num4 l 0 = x0 at *
    generalize num4 l 4 = x4 at *
    clear h h4 hl
    go_enter Tryz.func17, Tryz.ntmps17
    go_wp2_with fail
    go_quiet (first | with_reducible exact Calls.quiet_of (C0.out _) | with_reducible exact Calls.quiet_of (C4.out _))
    go_wp2_with fail
    go_ret3
    exact ⟨by rw [E.out.1, E.out.2.1, E.out.2.2]; rfl, below_drewN (Below.refl _ _) _⟩

set_option maxRecDepth 100000 in
set_option maxHeartbeats 2000000 in
theorem tag_ref14 (sp : Int) (ky sl mc : ByteArray) (es : Bool) (wn : Int) (q : Nat) (hq : q < 18446744073709551616) (A : Option Addr) (n c : Nat) (l : List Int) (w : World) (B : Nat) (h : Holds w B A n c l) (hB : B ≤ w.heap.size) (hn : n ≤ 70000) (hm : mc.size = 32) :
    Calls Tryz.prog 31 #[.agg #[.int .i64 sp, .string ky, .string sl, .string mc, .bool es, .int .i64 wn], .int .u64 (q : Int), .slice A n c] w fun e w' => e = .returned (.string (strOfNums (ints (tagL mc es q (nats l))))) ∧ Below w.heap.size w w' := by
  have B0 := Lib.hid ((Below.refl w.heap.size w).alloc (Nat.le_refl _) (.cells #[.int .i64 sp, .string ky, .string sl, .string mc, .bool es, .int .i64 wn] 23))
  have K0 := Blk.new w 23 #[.int .i64 sp, .string ky, .string sl, .string mc, .bool es, .int .i64 wn]
  have k0 := K0.cell 0
  have k1 := K0.cell 1
  have k2 := K0.cell 2
  have k3 := K0.cell 3
  have k4 := K0.cell 4
  have k5 := K0.cell 5
  clear K0
  have K1 := Lib.hid (Blk.new w 23 #[.int .i64 sp, .string ky, .string sl, .string mc, .bool es, .int .i64 wn])
  obtain ⟨g, hg⟩ : ∃ g, g = w.heap.size := ⟨_, rfl⟩
  have GE := Lib.hid hg
  rw [← hg] at k0 k1 k2 k3 k4 k5 K1
  obtain ⟨W, hW⟩ : ∃ W, W = w.alloc (.cells #[.int .i64 sp, .string ky, .string sl, .string mc, .bool es, .int .i64 wn] 23) := ⟨_, rfl⟩
  rw [← hW] at B0 k0 k1 k2 k3 k4 k5 K1
  have WE := Lib.hid hW
  have TE : Hid (tagL mc es q (nats l) = (MacD.full (nats (nums mc)) (nats (l ++ ints (upL es q)))).take 16) := Lib.hid (by
    unfold tagL
    have : nats (l ++ ints (upL es q)) = nats l ++ upL es q := by
      rw [show nats (l ++ ints (upL es q)) = nats l ++ nats (ints (upL es q)) by simp [nats], nats_ints]
    rw [this])
  have TB : Hid (Byt (tagL mc es q (nats l))) := Lib.hid (tagL_byt _ _ _ _)
  have TN := Lib.hid (tagL_len mc es q (nats l))
  have C := Lib.hid (halves_ref q hq W)
  have HH := Lib.hid (h.below (B0.out.mono hB))
  have WB := Lib.hid (show B ≤ W.heap.size by have := B0.out.size; omega)
  have HM := Lib.hid hm
  have HN := Lib.hid hn
  generalize tagL mc es q (nats l) = TT at *
  obtain ⟨sx, hsx⟩ : ∃ sx, sx = strOfNums (ints TT) := ⟨_, rfl⟩
  rw [← hsx]
  have SX := Lib.hid hsx
  clear h hB hm hn hg hW k0 k1 k2 k3 k4 k5 hsx
  have KW : Hid (∀ V, Below W.heap.size W V → V.cell? ⟨g, 3, none⟩ = some (.string mc)) := Lib.hid fun V hV => (Blk.below K1.out hV (Blk.lt K1.out)).cell 3
  cases es
  · have UN : Hid (upL false q = []) := Lib.hid rfl
    rw [UN.out] at TE
    have EW : Hid (w.alloc (.cells #[.int .i64 sp, .string ky, .string sl, .string mc, .bool false, .int .i64 wn] 23) = W) := Lib.hid WE.out.symm
    go_enter Tryz.func31, Tryz.ntmps31
    go_wp2_with fail
    rw [EW.out]
    refine C.out.mono ?_
    rintro e w2 ⟨A1, A2, rfl, h1, _, hb⟩
    have H1 := Lib.hid h1
    have KK := Lib.hid (KW.out w2 hb)
    have k4' : w2.cell? ⟨g, 4, none⟩ = some (.bool false) := (Blk.below K1.out hb (Blk.lt K1.out)).cell 4
    have HH2 := Lib.hid (HH.out.below (hb.mono WB.out))
    have B2 := Lib.hid (B0.out.trans (hb.mono B0.out.size))
    have WB2 := Lib.hid (show B ≤ w2.heap.size by have := hb.size; have := WB.out; omega)
    clear h1 hb
    rw [← GE.out]
    go_wp2_with fail
    have X : Hid (∀ V, Below w2.drew.heap.size w2.drew V → V.cell? ⟨g, 3, none⟩ = some (.string mc) ∧ Holds V V.heap.size A n c l ∧ Holds V V.heap.size (none) 0 0 ([])) := Lib.hid fun V hV => ⟨keep_cell (w := w2.drew) KK.out hV, (((show Holds w2.drew B A n c l from HH2.out.keep fun _ _ _ => rfl)).below (hV.mono WB2.out)).more (Nat.le_trans WB2.out hV.size), Holds.nil _ _ _⟩
    -- REGION 4
    refine wp_region_free [0, 1, 2, 3, 4, 5, 6, 7, 8, 9, 10, 11] 12 [] (fun w1 w2 => Below w1.heap.size w1 w2) (fun k' w' v => match k' with
      | 0 => v = .pointer (some ⟨g, 3, none⟩)
      | 1 => v = .string mc
      | 2 => Lies w' v 32 (nums mc)
      | 3 => v = .slice A n c
      | 4 => v = .slice none 0 0
      | 5 => ∃ g5, v = .slice (some ⟨g5, 0, none⟩) 2 2 ∧ Both.All w' w'.heap.size g5 [⟨A, n, c, l⟩, ⟨none, 0, 0, (ints [])⟩]
      | 6 => Lies w' v (n + 0) (l ++ (ints []))
      | 7 => ∃ A' c', v = .tuple #[.slice A' 16 c', .int .i64 0] ∧ Holds w' w'.heap.size A' 16 c' (ints TT)
      | 8 => ∃ A' c', v = .tuple #[.slice A' 16 c', .int .i64 0] ∧ Holds w' w'.heap.size A' 16 c' (ints TT)
      | 9 => Lies w' v 16 (ints TT)
      | 10 => v = .int .i64 0
      | _ => Lies w' v 16 (ints TT)) (by kernel_rfl) (by kernel_rfl) (Below.refl _ _) (fun _ _ _ h k => h.trans (k.mono h.size)) (fun k' w1 w2 v h => match k' with
      | 0 => fun x => x
      | 1 => fun x => x
      | 2 => fun q => q.below h
      | 3 => fun x => x
      | 4 => fun x => x
      | 5 => fun ⟨g5, e, q⟩ => ⟨g5, e, all_below q h⟩
      | 6 => fun q => q.below h
      | 7 => fun ⟨A', c', e, q⟩ => ⟨A', c', e, (q.below h).more h.size⟩
      | 8 => fun ⟨A', c', e, q⟩ => ⟨A', c', e, (q.below h).more h.size⟩
      | 9 => fun q => q.below h
      | 10 => fun x => x
      | _ + 11 => fun q => q.below h) (fun _ _ _ _ _ h => h) ?_ _ (by rfl) ?_
    · refine obs_cons (by rfl) (fun vals w' hgr hdep K hK => ?_) (obs_cons (by rfl) (fun vals w' hgr hdep K hK => ?_) (obs_cons (by rfl) (fun vals w' hgr hdep K hK => ?_) (obs_cons (by rfl) (fun vals w' hgr hdep K hK => ?_) (obs_cons (by rfl) (fun vals w' hgr hdep K hK => ?_) (obs_cons (by rfl) (fun vals w' hgr hdep K hK => ?_) (obs_cons (by rfl) (fun vals w' hgr hdep K hK => ?_) (obs_cons (by rfl) (fun vals w' hgr hdep K hK => ?_) (obs_cons (by rfl) (fun vals w' hgr hdep K hK => ?_) (obs_cons (by rfl) (fun vals w' hgr hdep K hK => ?_) (obs_cons (by rfl) (fun vals w' hgr hdep K hK => ?_) (obs_cons (by rfl) (fun vals w' hgr hdep K hK => ?_) (obs_nil))))))))))))
      · exact wp_field (.tmp 3) rfl _ _ (at_out _ (by kernel_rfl) rfl) (fld3 _ _) (hK _ _ (Below.refl _ _) rfl)
      · exact wp_load1 (.tmp 20) rfl ⟨g, 3, none⟩ ((at_dst 0 (by kernel_rfl)).trans (hdep 0 (by simp) (by kernel_rfl))) Tryz.underlying9 rfl _ ((X.out w' hgr).1) (hK _ _ (Below.refl _ _) rfl)
      · exact st_nums (.tmp 21) rfl mc ((at_dst 1 (by kernel_rfl)).trans (hdep 1 (by simp) (by kernel_rfl))) (by rw [HM.out]; decide) (fun v w'' q hb => hK _ _ hb (by rw [HM.out] at q; exact q))
      · exact wp_move (.tmp 2) rfl _ (at_out _ (by kernel_rfl) rfl) (hK _ _ (Below.refl _ _) rfl)
      · exact wp_move (.tmp 7) rfl _ (at_out _ (by kernel_rfl) rfl) (hK _ _ (Below.refl _ _) rfl)
      · exact st_slice2 (.tmp 23) (.tmp 24) rfl _ _ _ _ _ _ ((at_dst 3 (by kernel_rfl)).trans (hdep 3 (by simp) (by kernel_rfl))) ((at_dst 4 (by kernel_rfl)).trans (hdep 4 (by simp) (by kernel_rfl))) (hK _ _ ((Below.refl _ _).alloc (Nat.le_refl _) _) ⟨_, rfl, all_lit w' [⟨A, n, c, l⟩, ⟨none, 0, 0, (ints [])⟩] _ _ rfl (Both.mem2 (X.out w' hgr).2.1 (X.out w' hgr).2.2)⟩)
      · obtain ⟨g5, e5, q5⟩ := hdep 5 (by simp) (by kernel_rfl)
        exact wp_call 7 [.tmp 25] _ rfl ent_both [.slice (some ⟨g5, 0, none⟩) 2 2] (congrArg (fun z => [z]) ((at_dst 5 (by kernel_rfl)).trans e5)) (fun v w'' => Lies w'' v (n + 0) (l ++ (ints [])) ∧ Below w'.heap.size w' w'') ((Both.both_any g5 2 2 [⟨A, n, c, l⟩, ⟨none, 0, 0, (ints [])⟩] w' q5 rfl (by decide) (by show n + (0 + 0) ≤ 1048576; have := HN.out; omega)).mono fun e w'' ⟨v, h1, h2, h3⟩ => ⟨v, h1, by obtain ⟨A', c', e', hh⟩ := h2.slice; exact ⟨A', c', e', by have := hh; simp only [Both.flat, List.append_nil] at this; exact this⟩, h3⟩) (fun v w'' ⟨h1, h2⟩ => hK _ _ h2 h1)
      · obtain ⟨Ak, ck, ek, hk⟩ := hdep 2 (by simp) (by kernel_rfl)
        obtain ⟨Ab, cb, eb, hb⟩ := hdep 6 (by simp) (by kernel_rfl)
        exact wp_call 47 [.tmp 22, .tmp 26] _ rfl ent_tag11 [.slice Ak 32 ck, .slice Ab (n + 0) cb] (list2 ((at_dst 2 (by kernel_rfl)).trans ek) ((at_dst 6 (by kernel_rfl)).trans eb)) (fun v w'' => (∃ A' c', v = .tuple #[.slice A' 16 c', .int .i64 0] ∧ Holds w'' w''.heap.size A' 16 c' (ints TT)) ∧ Below w'.heap.size w' w'') ((MacR.tag_ref Ak ck (nums mc) Ab (n + 0) cb (l ++ (ints [])) w' w'.heap.size hk hb (Nat.le_refl _) (by have := HN.out; omega)).mono fun e w'' ⟨A', c', h1, h2, h3⟩ => ⟨_, h1, ⟨A', c', rfl, by rw [TE.out]; exact h2⟩, h3⟩) (fun v w'' ⟨h1, h2⟩ => hK _ _ h2 h1)
      · obtain ⟨A', c', e, q⟩ := hdep 7 (by simp) (by kernel_rfl)
        exact wp_move (.tmp 27) rfl _ ((at_dst 7 (by kernel_rfl)).trans e) (hK _ _ (Below.refl _ _) ⟨A', c', rfl, q⟩)
      · obtain ⟨A', c', e, q⟩ := hdep 8 (by simp) (by kernel_rfl)
        exact st_extract (.tmp 19) 0 rfl _ _ ((at_dst 8 (by kernel_rfl)).trans e) rfl (hK _ _ (Below.refl _ _) ⟨A', c', rfl, q⟩)
      · obtain ⟨A', c', e, q⟩ := hdep 8 (by simp) (by kernel_rfl)
        exact st_extract (.tmp 19) 1 rfl _ _ ((at_dst 8 (by kernel_rfl)).trans e) rfl (hK _ _ (Below.refl _ _) rfl)
      · obtain ⟨A', c', e, q⟩ := hdep 9 (by simp) (by kernel_rfl)
        exact st_assign (.tmp 28) _ rfl ((at_dst 9 (by kernel_rfl)).trans e) (hK _ _ (Below.refl _ _) ⟨A', c', rfl, q⟩)
    · intro vals w' hgr hG
      obtain ⟨A9, c9, e9, h9⟩ := hG 11 (by simp)
      refine st_assign (.tmp 29) _ rfl ((at_dst 10 (by kernel_rfl)).trans (hG 10 (by simp))) (wpAnyH_done (by kernel_rfl) ?_ _)
      have BX := Lib.hid (B2.out.trans (((below_drewN (Below.refl w2.heap.size w2) 1).trans hgr).mono B2.out.size))
      have cv := run_string_bytes h9
      rw [← SX.out] at cv
      clear hG hgr h9
      simp only [fill, dstAt, List.getElem?_cons_zero, List.getElem?_cons_succ, Option.bind_some, Act.put, List.setIfInBounds_toArray, List.set_cons_zero, List.set_cons_succ]
      rw [e9]
      clear e9
      generalize vals 0 = z0, vals 1 = z1, vals 2 = z2, vals 3 = z3, vals 4 = z4, vals 5 = z5, vals 6 = z6, vals 7 = z7, vals 8 = z8, vals 9 = z9, vals 10 = z10 at *
      generalize w' = w9 at *
      go_wp2_with fail
      go_ret
      exact ⟨rfl, BX.out⟩
  · have UN : Hid (upL true q = four (hiN q)) := Lib.hid rfl
    rw [UN.out] at TE
    have EW : Hid (w.alloc (.cells #[.int .i64 sp, .string ky, .string sl, .string mc, .bool true, .int .i64 wn] 23) = W) := Lib.hid WE.out.symm
    go_enter Tryz.func31, Tryz.ntmps31
    go_wp2_with fail
    rw [EW.out]
    refine C.out.mono ?_
    rintro e w2 ⟨A1, A2, rfl, h1, _, hb⟩
    have H1 := Lib.hid h1
    have KK := Lib.hid (KW.out w2 hb)
    have k4' : w2.cell? ⟨g, 4, none⟩ = some (.bool true) := (Blk.below K1.out hb (Blk.lt K1.out)).cell 4
    have HH2 := Lib.hid (HH.out.below (hb.mono WB.out))
    have B2 := Lib.hid (B0.out.trans (hb.mono B0.out.size))
    have WB2 := Lib.hid (show B ≤ w2.heap.size by have := hb.size; have := WB.out; omega)
    clear h1 hb
    rw [← GE.out]
    go_wp2_with fail
    have X : Hid (∀ V, Below w2.drew.heap.size w2.drew V → V.cell? ⟨g, 3, none⟩ = some (.string mc) ∧ Holds V V.heap.size A n c l ∧ Holds V V.heap.size (A1) 4 4 (ints (four (hiN q)))) := Lib.hid fun V hV => ⟨keep_cell (w := w2.drew) KK.out hV, (((show Holds w2.drew B A n c l from HH2.out.keep fun _ _ _ => rfl)).below (hV.mono WB2.out)).more (Nat.le_trans WB2.out hV.size), ((show Holds w2.drew w2.drew.heap.size A1 4 4 (ints (four (hiN q))) from H1.out.keep fun _ _ _ => rfl).below hV).more hV.size⟩
    -- REGION 4
    refine wp_region_free [0, 1, 2, 3, 4, 5, 6, 7, 8, 9, 10, 11] 12 [] (fun w1 w2 => Below w1.heap.size w1 w2) (fun k' w' v => match k' with
      | 0 => v = .pointer (some ⟨g, 3, none⟩)
      | 1 => v = .string mc
      | 2 => Lies w' v 32 (nums mc)
      | 3 => v = .slice A n c
      | 4 => v = .slice A1 4 4
      | 5 => ∃ g5, v = .slice (some ⟨g5, 0, none⟩) 2 2 ∧ Both.All w' w'.heap.size g5 [⟨A, n, c, l⟩, ⟨A1, 4, 4, (ints (four (hiN q)))⟩]
      | 6 => Lies w' v (n + 4) (l ++ (ints (four (hiN q))))
      | 7 => ∃ A' c', v = .tuple #[.slice A' 16 c', .int .i64 0] ∧ Holds w' w'.heap.size A' 16 c' (ints TT)
      | 8 => ∃ A' c', v = .tuple #[.slice A' 16 c', .int .i64 0] ∧ Holds w' w'.heap.size A' 16 c' (ints TT)
      | 9 => Lies w' v 16 (ints TT)
      | 10 => v = .int .i64 0
      | _ => Lies w' v 16 (ints TT)) (by kernel_rfl) (by kernel_rfl) (Below.refl _ _) (fun _ _ _ h k => h.trans (k.mono h.size)) (fun k' w1 w2 v h => match k' with
      | 0 => fun x => x
      | 1 => fun x => x
      | 2 => fun q => q.below h
      | 3 => fun x => x
      | 4 => fun x => x
      | 5 => fun ⟨g5, e, q⟩ => ⟨g5, e, all_below q h⟩
      | 6 => fun q => q.below h
      | 7 => fun ⟨A', c', e, q⟩ => ⟨A', c', e, (q.below h).more h.size⟩
      | 8 => fun ⟨A', c', e, q⟩ => ⟨A', c', e, (q.below h).more h.size⟩
      | 9 => fun q => q.below h
      | 10 => fun x => x
      | _ + 11 => fun q => q.below h) (fun _ _ _ _ _ h => h) ?_ _ (by rfl) ?_
    · refine obs_cons (by rfl) (fun vals w' hgr hdep K hK => ?_) (obs_cons (by rfl) (fun vals w' hgr hdep K hK => ?_) (obs_cons (by rfl) (fun vals w' hgr hdep K hK => ?_) (obs_cons (by rfl) (fun vals w' hgr hdep K hK => ?_) (obs_cons (by rfl) (fun vals w' hgr hdep K hK => ?_) (obs_cons (by rfl) (fun vals w' hgr hdep K hK => ?_) (obs_cons (by rfl) (fun vals w' hgr hdep K hK => ?_) (obs_cons (by rfl) (fun vals w' hgr hdep K hK => ?_) (obs_cons (by rfl) (fun vals w' hgr hdep K hK => ?_) (obs_cons (by rfl) (fun vals w' hgr hdep K hK => ?_) (obs_cons (by rfl) (fun vals w' hgr hdep K hK => ?_) (obs_cons (by rfl) (fun vals w' hgr hdep K hK => ?_) (obs_nil))))))))))))
      · exact wp_field (.tmp 3) rfl _ _ (at_out _ (by kernel_rfl) rfl) (fld3 _ _) (hK _ _ (Below.refl _ _) rfl)
      · exact wp_load1 (.tmp 20) rfl ⟨g, 3, none⟩ ((at_dst 0 (by kernel_rfl)).trans (hdep 0 (by simp) (by kernel_rfl))) Tryz.underlying9 rfl _ ((X.out w' hgr).1) (hK _ _ (Below.refl _ _) rfl)
      · exact st_nums (.tmp 21) rfl mc ((at_dst 1 (by kernel_rfl)).trans (hdep 1 (by simp) (by kernel_rfl))) (by rw [HM.out]; decide) (fun v w'' q hb => hK _ _ hb (by rw [HM.out] at q; exact q))
      · exact wp_move (.tmp 2) rfl _ (at_out _ (by kernel_rfl) rfl) (hK _ _ (Below.refl _ _) rfl)
      · exact wp_move (.tmp 7) rfl _ (at_out _ (by kernel_rfl) rfl) (hK _ _ (Below.refl _ _) rfl)
      · exact st_slice2 (.tmp 23) (.tmp 24) rfl _ _ _ _ _ _ ((at_dst 3 (by kernel_rfl)).trans (hdep 3 (by simp) (by kernel_rfl))) ((at_dst 4 (by kernel_rfl)).trans (hdep 4 (by simp) (by kernel_rfl))) (hK _ _ ((Below.refl _ _).alloc (Nat.le_refl _) _) ⟨_, rfl, all_lit w' [⟨A, n, c, l⟩, ⟨A1, 4, 4, (ints (four (hiN q)))⟩] _ _ rfl (Both.mem2 (X.out w' hgr).2.1 (X.out w' hgr).2.2)⟩)
      · obtain ⟨g5, e5, q5⟩ := hdep 5 (by simp) (by kernel_rfl)
        exact wp_call 7 [.tmp 25] _ rfl ent_both [.slice (some ⟨g5, 0, none⟩) 2 2] (congrArg (fun z => [z]) ((at_dst 5 (by kernel_rfl)).trans e5)) (fun v w'' => Lies w'' v (n + 4) (l ++ (ints (four (hiN q)))) ∧ Below w'.heap.size w' w'') ((Both.both_any g5 2 2 [⟨A, n, c, l⟩, ⟨A1, 4, 4, (ints (four (hiN q)))⟩] w' q5 rfl (by decide) (by show n + (4 + 0) ≤ 1048576; have := HN.out; omega)).mono fun e w'' ⟨v, h1, h2, h3⟩ => ⟨v, h1, by obtain ⟨A', c', e', hh⟩ := h2.slice; exact ⟨A', c', e', by have := hh; simp only [Both.flat, List.append_nil] at this; exact this⟩, h3⟩) (fun v w'' ⟨h1, h2⟩ => hK _ _ h2 h1)
      · obtain ⟨Ak, ck, ek, hk⟩ := hdep 2 (by simp) (by kernel_rfl)
        obtain ⟨Ab, cb, eb, hb⟩ := hdep 6 (by simp) (by kernel_rfl)
        exact wp_call 47 [.tmp 22, .tmp 26] _ rfl ent_tag11 [.slice Ak 32 ck, .slice Ab (n + 4) cb] (list2 ((at_dst 2 (by kernel_rfl)).trans ek) ((at_dst 6 (by kernel_rfl)).trans eb)) (fun v w'' => (∃ A' c', v = .tuple #[.slice A' 16 c', .int .i64 0] ∧ Holds w'' w''.heap.size A' 16 c' (ints TT)) ∧ Below w'.heap.size w' w'') ((MacR.tag_ref Ak ck (nums mc) Ab (n + 4) cb (l ++ (ints (four (hiN q)))) w' w'.heap.size hk hb (Nat.le_refl _) (by have := HN.out; omega)).mono fun e w'' ⟨A', c', h1, h2, h3⟩ => ⟨_, h1, ⟨A', c', rfl, by rw [TE.out]; exact h2⟩, h3⟩) (fun v w'' ⟨h1, h2⟩ => hK _ _ h2 h1)
      · obtain ⟨A', c', e, q⟩ := hdep 7 (by simp) (by kernel_rfl)
        exact wp_move (.tmp 27) rfl _ ((at_dst 7 (by kernel_rfl)).trans e) (hK _ _ (Below.refl _ _) ⟨A', c', rfl, q⟩)
      · obtain ⟨A', c', e, q⟩ := hdep 8 (by simp) (by kernel_rfl)
        exact st_extract (.tmp 19) 0 rfl _ _ ((at_dst 8 (by kernel_rfl)).trans e) rfl (hK _ _ (Below.refl _ _) ⟨A', c', rfl, q⟩)
      · obtain ⟨A', c', e, q⟩ := hdep 8 (by simp) (by kernel_rfl)
        exact st_extract (.tmp 19) 1 rfl _ _ ((at_dst 8 (by kernel_rfl)).trans e) rfl (hK _ _ (Below.refl _ _) rfl)
      · obtain ⟨A', c', e, q⟩ := hdep 9 (by simp) (by kernel_rfl)
        exact st_assign (.tmp 28) _ rfl ((at_dst 9 (by kernel_rfl)).trans e) (hK _ _ (Below.refl _ _) ⟨A', c', rfl, q⟩)
    · intro vals w' hgr hG
      obtain ⟨A9, c9, e9, h9⟩ := hG 11 (by simp)
      refine st_assign (.tmp 29) _ rfl ((at_dst 10 (by kernel_rfl)).trans (hG 10 (by simp))) (wpAnyH_done (by kernel_rfl) ?_ _)
      have BX := Lib.hid (B2.out.trans (((below_drewN (Below.refl w2.heap.size w2) 1).trans hgr).mono B2.out.size))
      have cv := run_string_bytes h9
      rw [← SX.out] at cv
      clear hG hgr h9
      simp only [fill, dstAt, List.getElem?_cons_zero, List.getElem?_cons_succ, Option.bind_some, Act.put, List.setIfInBounds_toArray, List.set_cons_zero, List.set_cons_succ]
      rw [e9]
      clear e9
      generalize vals 0 = z0, vals 1 = z1, vals 2 = z2, vals 3 = z3, vals 4 = z4, vals 5 = z5, vals 6 = z6, vals 7 = z7, vals 8 = z8, vals 9 = z9, vals 10 = z10 at *
      generalize w' = w9 at *
      go_wp2_with fail
      go_ret
      exact ⟨rfl, BX.out⟩
end Go.Proofs.YtdnkbefpbehllaaGreatDoor.EspR2

