/- Contracts of the document: with, Full, Tag. -/
import Derived.Test.YtmlihcillheeaaaDoorShaO
import Derived.Test.YtmlihcillheeaaaDoorMacD
set_option linter.unusedVariables false
namespace Go.Proofs.YtmlihcillheeaaaDoor.MacR
open Go.RowKit Go.Proofs.YtmlihcillheeaaaDoor.Sums Go.Proofs.YtmlihcillheeaaaDoor.Mem Go.Proofs.YtmlihcillheeaaaDoor.Blk Go.Proofs.YtmlihcillheeaaaDoor.Bits3 Go.Proofs.YtmlihcillheeaaaDoor.Ints Go.Proofs.YtmlihcillheeaaaDoor.ShaD Go.Proofs.YtmlihcillheeaaaDoor.ShaO Go.Proofs.YtmlihcillheeaaaDoor.MacD

theorem all_range (L : List Nat) (n : Nat) (h : L.length = n) : (List.range n).map (fun i => L.getD i 0) = L := by
  subst h
  apply List.ext_getElem
  · simp
  · intro i h1 h2
    simp only [List.getElem_map, List.getElem_range]
    rw [List.getD_eq_getElem?_getD, List.getElem?_eq_getElem h2]
    rfl
theorem withK_get (key : List Nat) (x : Nat) {i : Nat} (h : i < 64) : (withK key x).getD i 0 = if i < key.length then x ^^^ key.getD i 0 else x := by
  unfold withK
  rw [List.getD_eq_getElem?_getD, List.getElem?_map, List.getElem?_range h]
  rfl
set_option maxHeartbeats 1000000 in
theorem with_ref (A : Option Addr) (n c : Nat) (ks : List Int) (x : Nat) (hx : x < 256) (w : World) (B : Nat) (h : Holds w B A n c ks) (hB : B ≤ w.heap.size) :
    Calls Tryd.prog 17 #[.slice A n c, .int .u8 (x : Int)] w fun e w' => ∃ v, e = .returned v ∧ Owns w' w.heap.size v 64 (ints (withK (nats ks) x)) ∧ Below w.heap.size w w' := by
  have mk : ∀ W : World, (Instr.makeSlice 22 (.int .i64 64) (.int .i64 64)).run Tryd.prog W = .ok (.slice (some ⟨W.heap.size, 0, none⟩) 64 64) (W.alloc (.cells (bcells (List.replicate 64 0)) 5)) := fun W => make_b 64 (by decide) W
  obtain ⟨key, hkey⟩ : ∃ key, key = nats ks := ⟨_, rfl⟩
  have KL : Hid (key.length = n) := Lib.hid (by rw [hkey, nats_len, h.1])
  have KB : Hid (Byt key) := Lib.hid (by rw [hkey]; exact nats_lt fun z hz => h.2.2.2.1 z hz)
  have KN : Hid (∀ i, ks.getD i 0 = ((key.getD i 0 : Nat) : Int)) := Lib.hid fun i => by rw [hkey]; exact nats_getD h.2.2.2.1 i
  rw [← hkey]
  obtain ⟨R, hR⟩ : ∃ R, R = withK key x := ⟨_, rfl⟩
  have RL : Hid (R.length = 64) := Lib.hid (by rw [hR, withK_len])
  have RB : Hid (Byt R) := Lib.hid (by rw [hR]; exact withK_byt KB.out hx)
  have RG : Hid (∀ i, i < 64 → R.getD i 0 = if i < key.length then x ^^^ key.getD i 0 else x) := Lib.hid fun i hi => by rw [hR]; exact withK_get key x hi
  rw [← hR]
  obtain ⟨f, hf⟩ : ∃ f : Nat → Nat, f = fun i => R.getD i 0 := ⟨_, rfl⟩
  have FI := Lib.hid (fun i => congrFun hf i)
  have FA : Hid ((List.range 64).map f = R) := Lib.hid (by rw [hf]; exact all_range R 64 RL.out)
  have N0 : Hid (BRow (w.alloc (.cells (bcells (List.replicate 64 0)) 5)) w.heap.size (fil f 64 0)) := Lib.hid (by rw [fil_zero]; exact BRow.new w _)
  have B0 : Hid (Below w.heap.size w (w.alloc (.cells (bcells (List.replicate 64 0)) 5))) := Lib.hid ((Below.refl _ _).alloc (Nat.le_refl _) _)
  have HK := Lib.hid h
  have XB := Lib.hid hx
  generalize bcells (List.replicate 64 0) = Z at *
  clear hkey hR hf h hx
  go_enter Tryd.func17, Tryd.ntmps17
  go_wp2_with fail
  clear mk
  generalize w.alloc (.cells Z 5) = w1 at *
  go_loopw [6] (fun kv wr => ∃ j : Nat, kv = .int .i64 (j : Int) ∧ j ≤ 64 ∧ Hid (BRow wr w.heap.size (fil f 64 j)) ∧ Hid (Below w.heap.size w wr)) (fun kv _ => 64 - (intOf kv).toNat)
  case atStart => exact ⟨0, rfl, by omega, N0, B0⟩
  case round =>
    obtain ⟨j, rfl, hj, HR, HB⟩ := hrel
    clear N0 B0
    by_cases hlt : j < 64
    · have c0 := HR.out.cell j (by rw [fil_len]; exact hlt)
      have f0 := HR.out.free j
      have R1 : BRow (wr.setCell ⟨w.heap.size, j, none⟩ (.int .u8 (x : Int))) w.heap.size ((fil f 64 j).set j x) := HR.out.put j x
      have B1 := HB.out.setCell (p := ⟨w.heap.size, j, none⟩) (Nat.le_refl _) (.int .u8 (x : Int))
      have FJ := FI.out j
      rw [RG.out j hlt] at FJ
      by_cases hk : j < n
      · rw [if_pos (by rw [KL.out]; exact hk)] at FJ
        have hbl := HK.out.below (B1.mono hB)
        obtain ⟨b, o, rfl, hbB, _⟩ := HK.out.2.2.2.2 (by omega)
        have ck := cell_getD hbl j hk
        rw [KN.out] at ck
        have kb := getD_byt KB.out j
        have c1 := R1.cell j (by rw [List.length_set, fil_len]; exact hlt)
        have f1 := R1.free j
        have R2 : Hid (BRow ((wr.setCell ⟨w.heap.size, j, none⟩ (.int .u8 (x : Int))).setCell ⟨w.heap.size, j, none⟩ (.int .u8 ((f j : Nat) : Int))) w.heap.size (fil f 64 (j + 1))) := Lib.hid (by
          have := R1.put j (f j)
          rw [List.set_set, fil_set] at this
          exact this)
        have B2 := Lib.hid (B1.setCell (p := ⟨w.heap.size, j, none⟩) (Nat.le_refl _) (.int .u8 ((f j : Nat) : Int)))
        have e1 : bits .xor .u8 (x : Int) ((key.getD j 0 : Nat) : Int) = ((f j : Nat) : Int) := by rw [Bits3.u8_xor XB.out kb, FJ]
        have gk : decide ((j : Int) < (n : Int)) = true := decide_eq_true (by omega)
        generalize f j = y at *
        generalize key.getD j 0 = k at *
        generalize (fil f 64 j).getD j 0 = old at *
        generalize ((fil f 64 j).set j x).getD j 0 = old2 at *
        generalize hW : wr.setCell ⟨w.heap.size, j, none⟩ (.int .u8 (x : Int)) = W1 at *
        clear FJ R1 HR HB hbl
        go_wp2_with fail
        go_roundw
        case rel => exact ⟨j + 1, by go_num, by omega, R2, B2⟩
        case measure => simp [intOf]; omega
      · rw [if_neg (by rw [KL.out]; exact hk)] at FJ
        have R2 : Hid (BRow (wr.setCell ⟨w.heap.size, j, none⟩ (.int .u8 (x : Int))) w.heap.size (fil f 64 (j + 1))) := Lib.hid (by rw [← FJ, fil_set] at R1; rw [← FJ]; exact R1)
        have B2 := Lib.hid B1
        have gk : decide ((j : Int) < (n : Int)) = false := decide_eq_false (by omega)
        generalize (fil f 64 j).getD j 0 = old at *
        clear FJ R1 HR HB B1
        go_wp2_with fail
        go_roundw
        case rel => exact ⟨j + 1, by go_num, by omega, R2, B2⟩
        case measure => simp [intOf]; omega
    · obtain rfl : j = 64 := by omega
      have OF : Hid (Owns wr w.heap.size (.slice (some ⟨w.heap.size, 0, none⟩) 64 64) 64 (ints R)) := Lib.hid (by
        have q := HR.out
        rw [fil_full, FA.out] at q
        have := q.owns RB.out (by rw [RL.out]; decide) (Nat.le_refl w.heap.size)
        rwa [RL.out] at this)
      have BF := HB
      clear HR HB
      go_wp2_with fail
      go_ret
      exact ⟨_, rfl, OF.out, BF.out⟩

set_option maxHeartbeats 2000000 in
theorem full_ref (A : Option Addr) (n c : Nat) (ks : List Int) (A2 : Option Addr) (n2 c2 : Nat) (bs : List Int) (w : World) (B : Nat) (h : Holds w B A n c ks) (h2 : Holds w B A2 n2 c2 bs) (hB : B ≤ w.heap.size) (hn : n ≤ 1000000) (hn2 : n2 ≤ 900000) :
    Calls Tryd.prog 12 #[.slice A n c, .slice A2 n2 c2] w fun e w' => ∃ v, e = .returned v ∧ Owns w' w.heap.size v 32 (ints (full (nats ks) (nats bs))) ∧ Below w.heap.size w w' := by
  have H2 := Lib.hid h2
  have BI : Hid (ints (nats bs) = bs) := Lib.hid (ints_nats fun z hz => h2.2.2.2.1 z hz)
  have BL : Hid ((nats bs).length = n2) := Lib.hid ((nats_len bs).trans h2.1)
  -- what stands behind the key, whatever key it is
  have REST : Hid (∀ (Ak : Option Addr) (nk ck : Nat) (kk : List Nat) (V : World), Below w.heap.size w V → Holds V V.heap.size Ak nk ck (ints kk) → kk = kOf (nats ks) → Calls Tryd.prog 17 #[.slice Ak nk ck, .int .u8 54] V fun e w' => ∃ A1 c1, e = .returned (.slice A1 64 c1) ∧ Holds w' w'.heap.size A1 64 c1 (ints (withK kk 54)) ∧ Below V.heap.size V w') := Lib.hid fun Ak nk ck kk V hV hk _ => by
    have q := with_ref Ak nk ck (ints kk) 54 (by decide) V V.heap.size hk (Nat.le_refl _)
    rw [nats_ints] at q
    exact q.mono fun e w' ⟨v, he, ho, hb⟩ => by
      obtain ⟨A1, c1, rfl, hh⟩ := ho.slice
      exact ⟨A1, c1, he, hh, hb⟩
  have REST2 : Hid (∀ (Ak : Option Addr) (nk ck : Nat) (kk : List Nat) (V : World), Holds V V.heap.size Ak nk ck (ints kk) → Calls Tryd.prog 17 #[.slice Ak nk ck, .int .u8 92] V fun e w' => ∃ A1 c1, e = .returned (.slice A1 64 c1) ∧ Holds w' w'.heap.size A1 64 c1 (ints (withK kk 92)) ∧ Below V.heap.size V w') := Lib.hid fun Ak nk ck kk V hk => by
    have q := with_ref Ak nk ck (ints kk) 92 (by decide) V V.heap.size hk (Nat.le_refl _)
    rw [nats_ints] at q
    exact q.mono fun e w' ⟨v, he, ho, hb⟩ => by
      obtain ⟨A1, c1, rfl, hh⟩ := ho.slice
      exact ⟨A1, c1, he, hh, hb⟩
  have FE : Hid (full (nats ks) (nats bs) = digest (withK (kOf (nats ks)) 92 ++ digest (withK (kOf (nats ks)) 54 ++ nats bs))) := Lib.hid rfl
  obtain ⟨F, hF⟩ : ∃ F, F = full (nats ks) (nats bs) := ⟨_, rfl⟩
  rw [← hF] at FE ⊢
  obtain ⟨BN, hBN⟩ : ∃ BN, BN = nats bs := ⟨_, rfl⟩
  rw [← hBN] at BI BL FE
  have KI : Hid (ints (nats ks) = ks) := Lib.hid (ints_nats fun z hz => h.2.2.2.1 z hz)
  have KL : (nats ks).length = n := (nats_len ks).trans h.1
  by_cases hk : 64 < n
  · have KE : Hid (kOf (nats ks) = digest (nats ks)) := Lib.hid (by unfold kOf; rw [if_pos (by rw [KL]; exact hk)])
    rw [KE.out] at FE REST
    have C := Lib.hid (of_ref A n c ks w B h hB hn)
    have gk : decide ((64 : Int) < (n : Int)) = true := decide_eq_true (by omega)
    obtain ⟨D, hD⟩ : ∃ D, D = digest (nats ks) := ⟨_, rfl⟩
    rw [← hD] at FE REST C
    have DL : Hid (D.length = 32) := Lib.hid (by rw [hD, digest_len])
    clear h h2 hF hBN KE KI KL hD hk
    go_enter Tryd.func12, Tryd.ntmps12
    go_wp2_with fail
    refine C.out.mono ?_
    rintro e w1 ⟨v1, rfl, o1, hb⟩
    obtain ⟨Ak, ck, rfl, hk⟩ := o1.slice
    have B1 := Lib.hid hb
    have HK := Lib.hid hk
    clear o1 hk hb C gk
    go_wp2_with fail
    refine (REST.out Ak 32 ck D w1 B1.out HK.out rfl).mono ?_
    rintro e w2 ⟨A1, c1, rfl, h1, hb⟩
    have H1 := Lib.hid h1
    have B2 := Lib.hid (B1.out.trans (hb.mono B1.out.size))
    have HK2 := Lib.hid ((HK.out.below hb).more hb.size)
    have HB2 := Lib.hid (((H2.out.below (B2.out.mono hB)).more (Nat.le_trans hB B2.out.size)))
    clear h1 hb REST
    go_wp2_with fail
    refine (Both.both_lit (w := w2) (B := w2.heap.size) (Nat.le_refl _) [⟨A1, 64, c1, ints (withK D 54)⟩, ⟨A2, n2, c2, bs⟩] _ _ rfl (Both.mem2 H1.out HB2.out) _ 2 rfl rfl (by decide) (by show 64 + (n2 + 0) ≤ 1048576; omega)).mono ?_
    rintro e w3 ⟨A3, c3, rfl, h3, _, hb⟩
    have e1 : Both.flat [⟨A1, 64, c1, ints (withK D 54)⟩, ⟨A2, n2, c2, bs⟩] = ints (withK D 54 ++ BN) := by rw [ShaO.ints_app, BI.out]; simp [Both.flat]
    have e0 : Both.total [⟨A1, 64, c1, ints (withK D 54)⟩, ⟨A2, n2, c2, bs⟩] = 64 + n2 := rfl
    rw [e1, e0] at h3
    rw [e0]
    have B3 := Lib.hid (B2.out.trans (hb.mono B2.out.size))
    have HK3 := Lib.hid ((HK2.out.below hb).more hb.size)
    have C3 := Lib.hid (of_ref A3 (64 + n2) c3 _ w3 w3.heap.size h3 (Nat.le_refl _) (by omega))
    rw [nats_ints] at C3
    clear h3 hb e1 e0 H1 HB2 HK2
    go_wp2_with fail
    refine C3.out.mono ?_
    rintro e w4 ⟨v4, rfl, o4, hb⟩
    obtain ⟨A4, c4, rfl, h4⟩ := o4.slice
    have H4 := Lib.hid h4
    have B4 := Lib.hid (B3.out.trans (hb.mono B3.out.size))
    have HK4 := Lib.hid ((HK3.out.below hb).more hb.size)
    obtain ⟨I, hI⟩ : ∃ I, I = digest (withK D 54 ++ BN) := ⟨_, rfl⟩
    rw [← hI] at H4 FE
    clear o4 h4 hb C3 HK3 hI
    go_wp2_with fail
    refine (REST2.out Ak 32 ck D w4 HK4.out).mono ?_
    rintro e w5 ⟨A5, c5, rfl, h5, hb⟩
    have H5 := Lib.hid h5
    have B5 := Lib.hid (B4.out.trans (hb.mono B4.out.size))
    have H45 := Lib.hid ((H4.out.below hb).more hb.size)
    clear h5 hb REST2 H4 HK4
    go_wp2_with fail
    refine (Both.both_lit (w := w5) (B := w5.heap.size) (Nat.le_refl _) [⟨A5, 64, c5, ints (withK D 92)⟩, ⟨A4, 32, c4, ints I⟩] _ _ rfl (Both.mem2 H5.out H45.out) _ 2 rfl rfl (by decide) (by show 64 + (32 + 0) ≤ 1048576; omega)).mono ?_
    rintro e w6 ⟨A6, c6, rfl, h6, _, hb⟩
    have e1 : Both.flat [⟨A5, 64, c5, ints (withK D 92)⟩, ⟨A4, 32, c4, ints I⟩] = ints (withK D 92 ++ I) := by rw [ShaO.ints_app]; simp [Both.flat]
    have e0 : Both.total [⟨A5, 64, c5, ints (withK D 92)⟩, ⟨A4, 32, c4, ints I⟩] = 96 := rfl
    rw [e1, e0] at h6
    rw [e0]
    have B6 := Lib.hid (B5.out.trans (hb.mono B5.out.size))
    have C6 := Lib.hid (of_ref A6 96 c6 _ w6 w6.heap.size h6 (Nat.le_refl _) (by omega))
    rw [nats_ints, ← FE.out] at C6
    clear h6 hb e1 e0 H5 H45
    go_wp2_with fail
    refine C6.out.mono ?_
    rintro e w7 ⟨v7, rfl, o7, hb⟩
    have O7 := Lib.hid (o7.mono B6.out.size)
    have B7 := Lib.hid (B6.out.trans (hb.mono B6.out.size))
    clear o7 hb C6
    go_wp2_with fail
    go_ret
    exact ⟨_, rfl, O7.out, B7.out⟩
  · have KE : Hid (kOf (nats ks) = nats ks) := Lib.hid (by unfold kOf; rw [if_neg (by rw [KL]; exact hk)])
    rw [KE.out] at FE REST
    have gk : decide ((64 : Int) < (n : Int)) = false := decide_eq_false (by omega)
    obtain ⟨D, hD⟩ : ∃ D, D = nats ks := ⟨_, rfl⟩
    rw [← hD] at FE REST KI
    have B1 := Lib.hid (Below.refl w.heap.size w)
    have HK : Hid (Holds w w.heap.size A n c (ints D)) := Lib.hid (by rw [KI.out]; exact h.more hB)
    clear h h2 hF hBN KE KI KL hD
    go_enter Tryd.func12, Tryd.ntmps12
    go_wp2_with fail
    refine (REST.out A n c D w B1.out HK.out rfl).mono ?_
    rintro e w2 ⟨A1, c1, rfl, h1, hb⟩
    have H1 := Lib.hid h1
    have B2 := Lib.hid (B1.out.trans (hb.mono B1.out.size))
    have HK2 := Lib.hid ((HK.out.below hb).more hb.size)
    have HB2 := Lib.hid (((H2.out.below (B2.out.mono hB)).more (Nat.le_trans hB B2.out.size)))
    clear h1 hb REST
    go_wp2_with fail
    refine (Both.both_lit (w := w2) (B := w2.heap.size) (Nat.le_refl _) [⟨A1, 64, c1, ints (withK D 54)⟩, ⟨A2, n2, c2, bs⟩] _ _ rfl (Both.mem2 H1.out HB2.out) _ 2 rfl rfl (by decide) (by show 64 + (n2 + 0) ≤ 1048576; omega)).mono ?_
    rintro e w3 ⟨A3, c3, rfl, h3, _, hb⟩
    have e1 : Both.flat [⟨A1, 64, c1, ints (withK D 54)⟩, ⟨A2, n2, c2, bs⟩] = ints (withK D 54 ++ BN) := by rw [ShaO.ints_app, BI.out]; simp [Both.flat]
    have e0 : Both.total [⟨A1, 64, c1, ints (withK D 54)⟩, ⟨A2, n2, c2, bs⟩] = 64 + n2 := rfl
    rw [e1, e0] at h3
    rw [e0]
    have B3 := Lib.hid (B2.out.trans (hb.mono B2.out.size))
    have HK3 := Lib.hid ((HK2.out.below hb).more hb.size)
    have C3 := Lib.hid (of_ref A3 (64 + n2) c3 _ w3 w3.heap.size h3 (Nat.le_refl _) (by omega))
    rw [nats_ints] at C3
    clear h3 hb e1 e0 H1 HB2 HK2
    go_wp2_with fail
    refine C3.out.mono ?_
    rintro e w4 ⟨v4, rfl, o4, hb⟩
    obtain ⟨A4, c4, rfl, h4⟩ := o4.slice
    have H4 := Lib.hid h4
    have B4 := Lib.hid (B3.out.trans (hb.mono B3.out.size))
    have HK4 := Lib.hid ((HK3.out.below hb).more hb.size)
    obtain ⟨I, hI⟩ : ∃ I, I = digest (withK D 54 ++ BN) := ⟨_, rfl⟩
    rw [← hI] at H4 FE
    clear o4 h4 hb C3 HK3 hI
    go_wp2_with fail
    refine (REST2.out A n c D w4 HK4.out).mono ?_
    rintro e w5 ⟨A5, c5, rfl, h5, hb⟩
    have H5 := Lib.hid h5
    have B5 := Lib.hid (B4.out.trans (hb.mono B4.out.size))
    have H45 := Lib.hid ((H4.out.below hb).more hb.size)
    clear h5 hb REST2 H4 HK4
    go_wp2_with fail
    refine (Both.both_lit (w := w5) (B := w5.heap.size) (Nat.le_refl _) [⟨A5, 64, c5, ints (withK D 92)⟩, ⟨A4, 32, c4, ints I⟩] _ _ rfl (Both.mem2 H5.out H45.out) _ 2 rfl rfl (by decide) (by show 64 + (32 + 0) ≤ 1048576; omega)).mono ?_
    rintro e w6 ⟨A6, c6, rfl, h6, _, hb⟩
    have e1 : Both.flat [⟨A5, 64, c5, ints (withK D 92)⟩, ⟨A4, 32, c4, ints I⟩] = ints (withK D 92 ++ I) := by rw [ShaO.ints_app]; simp [Both.flat]
    have e0 : Both.total [⟨A5, 64, c5, ints (withK D 92)⟩, ⟨A4, 32, c4, ints I⟩] = 96 := rfl
    rw [e1, e0] at h6
    rw [e0]
    have B6 := Lib.hid (B5.out.trans (hb.mono B5.out.size))
    have C6 := Lib.hid (of_ref A6 96 c6 _ w6 w6.heap.size h6 (Nat.le_refl _) (by omega))
    rw [nats_ints, ← FE.out] at C6
    clear h6 hb e1 e0 H5 H45
    go_wp2_with fail
    refine C6.out.mono ?_
    rintro e w7 ⟨v7, rfl, o7, hb⟩
    have O7 := Lib.hid (o7.mono B6.out.size)
    have B7 := Lib.hid (B6.out.trans (hb.mono B6.out.size))
    clear o7 hb C6
    go_wp2_with fail
    go_ret
    exact ⟨_, rfl, O7.out, B7.out⟩

theorem tag_no (A : Option Addr) (n c : Nat) (A2 : Option Addr) (n2 c2 : Nat) (w : World) (hn : n ≠ 32) (h3 : n ≤ 140737488355328) :
    Calls Tryd.prog 10 #[.slice A n c, .slice A2 n2 c2] w fun e w' => e = .returned (.tuple #[.slice none 0 0, .int .i64 1]) ∧ w = w' := by
  have g : ((n : Int) != 32) = true := by rw [bne_iff_ne]; omega
  clear hn
  go_enter Tryd.func10, Tryd.ntmps10
  go_wp2_with fail
  go_ret2
  exact ⟨rfl, rfl⟩
set_option maxHeartbeats 1000000 in
theorem tag_ref (A : Option Addr) (c : Nat) (ks : List Int) (A2 : Option Addr) (n2 c2 : Nat) (bs : List Int) (w : World) (B : Nat) (h : Holds w B A 32 c ks) (h2 : Holds w B A2 n2 c2 bs) (hB : B ≤ w.heap.size) (hn2 : n2 ≤ 900000) :
    Calls Tryd.prog 10 #[.slice A 32 c, .slice A2 n2 c2] w fun e w' => ∃ A' c', e = .returned (.tuple #[.slice A' 16 c', .int .i64 0]) ∧ Holds w' w'.heap.size A' 16 c' (ints ((full (nats ks) (nats bs)).take 16)) ∧ Below w.heap.size w w' := by
  have C := Lib.hid (full_ref A 32 c ks A2 n2 c2 bs w B h h2 hB (by decide) hn2)
  generalize full (nats ks) (nats bs) = F at *
  clear h h2
  go_enter Tryd.func10, Tryd.ntmps10
  go_wp2_with fail
  refine C.out.mono ?_
  rintro e w1 ⟨v, rfl, o, hb⟩
  obtain ⟨A1, c1, rfl, h1⟩ := o.slice
  obtain ⟨g, rfl, _, _⟩ := o.form (by decide)
  have hc := h1.2.1
  have HU := Lib.hid (h1.upto (k := 16) (by decide))
  have BF := Lib.hid hb
  clear o h1 hb C
  go_wp2_with fail
  go_ret2
  exact ⟨_, _, rfl, by rw [ShaO.ints_take]; exact HU.out, BF.out⟩
end Go.Proofs.YtmlihcillheeaaaDoor.MacR
