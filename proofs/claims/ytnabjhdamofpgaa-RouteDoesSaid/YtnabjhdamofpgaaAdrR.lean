/- The document's addresses: Is, Compare, Mask, In. -/
import Derived.Test.YtnabjhdamofpgaaAdrD
import Derived.Test.YtnabjhdamofpgaaFree
import Derived.WalkLawsBesides
set_option linter.unusedVariables false
namespace Go.Proofs.Ytnabjhdamofpgaa.AdrR
open Go.RowKit Go.PlainAid Go.Proofs.Ytnabjhdamofpgaa.Sums Go.Proofs.Ytnabjhdamofpgaa.Mem Go.Proofs.Ytnabjhdamofpgaa.Blk Go.Proofs.Ytnabjhdamofpgaa.Grp Go.Proofs.Ytnabjhdamofpgaa.AdrD

theorem is_yes (s : ByteArray) (h : s.size = 4 ∨ s.size = 16) (w : World) :
    Calls Try.prog 32 #[.string s] w fun e w' => e = .returned (.bool true) ∧ w = w' := by
  rcases h with h | h
  · have g4 : ((s.size : Int) == 4) = true := by rw [beq_iff_eq]; omega
    go_enter Try.func32, Try.ntmps32
    go_wp2_with fail
    go_ret
    exact ⟨rfl, rfl⟩
  · have g4 : ((s.size : Int) == 4) = false := by rw [beq_eq_false_iff_ne]; omega
    have g6 : ((s.size : Int) == 16) = true := by rw [beq_iff_eq]; omega
    go_enter Try.func32, Try.ntmps32
    go_wp2_with fail
    go_ret
    exact ⟨rfl, rfl⟩
theorem is_no (s : ByteArray) (h4 : s.size ≠ 4) (h6 : s.size ≠ 16) (w : World) :
    Calls Try.prog 32 #[.string s] w fun e w' => e = .returned (.bool false) ∧ w = w' := by
  have g4 : ((s.size : Int) == 4) = false := by rw [beq_eq_false_iff_ne]; omega
  have g6 : ((s.size : Int) == 16) = false := by rw [beq_eq_false_iff_ne]; omega
  go_enter Try.func32, Try.ntmps32
  go_wp2_with fail
  go_ret
  exact ⟨rfl, rfl⟩
theorem cmp_len (a b : ByteArray) (ha : a.size ≤ 300) (hb : b.size ≤ 300) (h : a.size ≠ b.size) (w : World) :
    Calls Try.prog 52 #[.string a, .string b] w fun e w' => e = .returned (.int .i64 (if a.size < b.size then -1 else 1)) ∧ w = w' := by
  have g : ((a.size : Int) != (b.size : Int)) = true := by simp; omega
  by_cases hl : a.size < b.size
  · have e := Lib.hid (show (if a.size < b.size then (-1 : Int) else 1) = -1 from if_pos hl)
    go_enter Try.func52, Try.ntmps52
    go_wp2_with fail
    go_ret
    exact ⟨rfl, rfl⟩
  · have e := Lib.hid (show (if a.size < b.size then (-1 : Int) else 1) = 1 from if_neg hl)
    go_enter Try.func52, Try.ntmps52
    go_wp2_with fail
    go_ret
    exact ⟨rfl, rfl⟩
theorem cmp_same (a b : ByteArray) (ha : a.size ≤ 300) (hb : b.size ≤ 300) (h : a.size = b.size) (w : World) :
    Calls Try.prog 52 #[.string a, .string b] w fun e w' => e = .returned (.int .i64 (Lib.compareBytes a.data.toList b.data.toList)) ∧ w = w' := by
  have g : ((a.size : Int) != (b.size : Int)) = false := by simp; omega
  have hl0 := less_iff a.toList b.toList
  have hz : (a.toList == b.toList) = decide (Lib.compareBytes a.data.toList b.data.toList = 0) := by
    rw [← ByteArray.toList_eq, ← ByteArray.toList_eq, Bool.eq_iff_iff, beq_iff_eq, decide_eq_true_eq]
    exact (cb_zero _ _).symm
  have hi := cb_in a.data.toList b.data.toList
  have hl : Op.bytesLess a.toList b.toList = decide (Lib.compareBytes a.data.toList b.data.toList = -1) := by rw [hl0, ByteArray.toList_eq, ByteArray.toList_eq]
  clear h hl0
  rcases hi with e | e | e
  all_goals
    rw [e] at hl hz ⊢
    clear e
    go_enter Try.func52, Try.ntmps52
    go_wp2_with fail
    go_ret
    exact ⟨rfl, rfl⟩
theorem ref_cmp (a b : ByteArray) (ha : a.size ≤ 300) (hb : b.size ≤ 300) (w : World) :
    Calls Try.prog 52 #[.string a, .string b] w fun e w' => e = .returned (.int .i64 (ordS a b)) ∧ w = w' := by
  rcases ord_cases a b with ⟨h, e⟩ | ⟨h, e⟩ | ⟨h, e⟩
  · have := cmp_len a b ha hb (by omega) w
    rw [if_pos h] at this
    rw [e]; exact this
  · have := cmp_len a b ha hb (by omega) w
    rw [if_neg (by omega)] at this
    rw [e]; exact this
  · rw [e]; exact cmp_same a b ha hb h w
theorem ref_no (s : ByteArray) (b : Int) (hs : s.size ≤ 300) (h : fitB s.size b = false) (w : World) :
    Calls Try.prog 45 #[.string s, .int .i64 b] w fun e w' => e = .returned (.tuple #[.string ⟨#[]⟩, .int .i64 1]) ∧ w = w' := by
  by_cases h46 : s.size = 4 ∨ s.size = 16
  · have C := Lib.hid (fun W => is_yes s h46 W)
    have hb : b < 0 ∨ (0 ≤ b ∧ 8 * (s.size : Int) < b) := by
      unfold fitB at h
      simp at h
      omega
    clear h h46
    rcases hb with hb | ⟨hb0, hb⟩
    all_goals
      go_enter Try.func45, Try.ntmps45
      go_wp2_with fail
      refine (C.out _).mono ?_; rintro e w' ⟨rfl, rfl⟩
      go_wp2_with fail
      go_ret2
      exact ⟨rfl, rfl⟩
  · have C := Lib.hid (fun W => is_no s (fun e => h46 (.inl e)) (fun e => h46 (.inr e)) W)
    clear h h46
    go_enter Try.func45, Try.ntmps45
    go_wp2_with fail
    refine (C.out _).mono ?_; rintro e w' ⟨rfl, rfl⟩
    go_wp2_with fail
    go_ret2
    exact ⟨rfl, rfl⟩
set_option maxRecDepth 100000 in
set_option maxHeartbeats 4000000 in
theorem ref_yes (s : ByteArray) (b : Nat) (h46 : s.size = 4 ∨ s.size = 16) (hb : b ≤ 8 * s.size) (w : World) :
    Calls Try.prog 45 #[.string s, .int .i64 b] w fun e w' => e = .returned (.tuple #[.string (maskS s b), .int .i64 0]) ∧ Below w.heap.size w w' := by
  have C := Lib.hid (fun W => is_yes s h46 W)
  obtain ⟨w1, v1, hr, ho, hbl⟩ := run_bytes_string w s (by simp only [maxLen]; omega)
  rw [nums_ints] at ho
  have hsz : s.size ≤ 16 := by omega
  have hs4 : 4 ≤ s.size := by omega
  obtain ⟨A, c, rfl, hh⟩ := ho.slice
  obtain ⟨g, rfl, hg, hg'⟩ := ho.form (by omega)
  have HO := Lib.hid ho
  have HBL := Lib.hid hbl
  clear ho hbl hh h46
  go_enter Try.func45, Try.ntmps45
  go_wp2_with fail
  refine (C.out _).mono ?_; rintro e w' ⟨rfl, rfl⟩
  go_wp2_with fail
  go_loopw [7, 8, 9] (fun i p j wr => ∃ k : Nat, i = .int .i64 k ∧ b ≤ k ∧ k ≤ 8 * s.size ∧ Owns wr w.heap.size (.slice (some ⟨g, 0, none⟩) s.size c) s.size (ints (cutB b k (bts s))) ∧ Below w.heap.size w wr) (fun i _ _ _ => 8 * s.size - (intOf i).toNat)
  case atStart => exact ⟨b, rfl, Nat.le_refl _, hb, by rw [cutB_start]; exact HO.out, HBL.out⟩
  case round =>
    obtain ⟨k, rfl, hbk, hk, hO, hN⟩ := hrel
    by_cases hlt : k < 8 * s.size
    · have hk8 : k / 8 < s.size := by omega
      obtain ⟨x, hx⟩ : ∃ x, (cutB b k (bts s))[k / 8]? = some x := ⟨_, List.getElem?_eq_getElem (by rw [cutB_len, bts_len]; exact hk8)⟩
      have hx1 := cutB_le _ _ _ (bts_le s) x (List.mem_of_getElem? hx)
      have hcell : wr.cell? ⟨g, k / 8, none⟩ = some (.int .u8 (x : Int)) := hO.cell (by simp [ints, hx])
      have hfree := hO.free (k / 8) hk8
      have HX := Lib.hid hx
      have HO2 := Lib.hid hO
      clear hx hO
      have e1 : ((k : Int) / 8).toNat = k / 8 := by omega
      go_wp2_with fail
      go_loop [8, 9] (fun p j => ∃ (m : Nat) (P : Nat), j = .int .i64 m ∧ k % 8 ≤ m ∧ m ≤ 7 ∧ p = .int .i64 P ∧ 1 ≤ P ∧ P ≤ 128 ∧ (m < 7 → P ≤ 64) ∧ Hid (P = 2 ^ (m - k % 8))) (fun _ j => 7 - (intOf j).toNat)
      case atStart => exact ⟨k % 8, 1, by simp, Nat.le_refl _, by omega, rfl, by omega, by omega, fun _ => by omega, by show 1 = 2 ^ (k % 8 - k % 8); simp⟩
      case round =>
        obtain ⟨m, P, rfl, hm0, hm7, rfl, hP1, hP2, hP3, hP⟩ := hrel
        by_cases hm : m < 7
        · have hP64 := hP3 hm
          have HP' : Hid (2 * P = 2 ^ (m + 1 - k % 8)) := Lib.hid (by rw [hP.out, show m + 1 - k % 8 = (m - k % 8) + 1 by omega, Nat.pow_succ, Nat.mul_comm])
          have HPm : Hid (m + 1 < 7 → 2 * P ≤ 64) := Lib.hid (fun h => by
            rw [HP'.out]
            exact Nat.le_trans (Nat.pow_le_pow_right (by omega) (show m + 1 - k % 8 ≤ 6 by omega)) (by decide))
          clear hP3 hP
          go_wp2_with fail
          go_round
          case rel => exact ⟨m + 1, 2 * P, by go_num, by omega, hm, by go_num, by omega, by omega, HPm.out, HP'⟩
          case measure => simp [intOf]; omega
        · have e : m = 7 := by omega
          subst e
          have HP := Lib.hid hP.out
          clear hP hP3 hm
          have hv := bit_val x P hx1
          by_cases hbit : x / P % 2 = 1
          · have hbv : ((wrap64 ((x : Int) / (P : Int))).tmod 2 == 1) = true := by rw [hv, hbit]; rfl
            have hPx : P ≤ x := by
              by_cases hh : P ≤ x
              · exact hh
              · rw [Nat.div_eq_of_lt (by omega)] at hbit; omega
            have em : ((x : Int) - (P : Int)) % 256 = ((x - P : Nat) : Int) := by omega
            have NX := Lib.hid (cutB_next_on (bts s) b k x hbk HX.out (by rw [← HP.out]; exact hbit))
            rw [← HP.out] at NX
            clear hv hbit
            go_wp2_with fail
            go_roundw
            case rel =>
              refine ⟨k + 1, by go_num, by omega, by omega, ?_, hN.setCell (p := ⟨g, k / 8, none⟩) (by simp; omega) _⟩
              have := HO2.out.set (k / 8) ((x - P : Nat) : Int) (by omega) (by omega)
              rw [show (x : Int) - (P : Int) = ((x - P : Nat) : Int) by omega, ← NX.out]
              have e4 : ints ((cutB b k (bts s)).set (k / 8) (x - P)) = (ints (cutB b k (bts s))).set (k / 8) ((x - P : Nat) : Int) := by simp [ints, List.map_set]
              rw [e4]
              exact this
            case measure => simp [intOf]; omega
          · have hbv : ((wrap64 ((x : Int) / (P : Int))).tmod 2 == 1) = false := by rw [hv, beq_eq_false_iff_ne]; omega
            have NX := Lib.hid (cutB_next_off (bts s) b k x hbk HX.out (by rw [← HP.out]; exact hbit))
            clear hv hbit
            go_wp2_with fail
            go_roundw
            case rel => exact ⟨k + 1, by go_num, by omega, by omega, by rw [← NX.out]; exact HO2.out, hN⟩
            case measure => simp [intOf]; omega
    · have e : k = 8 * s.size := by omega
      subst e
      rw [cutB_end _ _ _ hb (by rw [bts_len]; exact Nat.le_refl _)] at hO
      obtain ⟨A', c', hA, hh⟩ := hO.slice
      injection hA with hA1 hA2 hA3
      subst hA1 hA3
      have hcv := run_string_bytes hh
      rw [txt_of] at hcv
      clear hO hh
      go_wp2_with fail
      go_ret2
      exact ⟨rfl, hN⟩
theorem ref_mask (s : ByteArray) (b : Int) (hs : s.size ≤ 300) (w : World) :
    ∃ t c, (∀ W, Calls Try.prog 45 #[.string s, .int .i64 b] W fun e w' => e = .returned (.tuple #[.string t, .int .i64 c]) ∧ Below W.heap.size W w') ∧
      ((fitB s.size b = true ∧ t = maskS s b.toNat ∧ c = 0) ∨ (fitB s.size b = false ∧ t = ⟨#[]⟩ ∧ c = 1)) := by
  cases hf : fitB s.size b with
  | true =>
    have h := hf
    unfold fitB at h
    simp only [Bool.and_eq_true, Bool.or_eq_true, beq_iff_eq, decide_eq_true_eq] at h
    obtain ⟨k, rfl⟩ : ∃ k : Nat, b = k := ⟨b.toNat, by omega⟩
    exact ⟨_, _, fun W => ref_yes s k h.1.1 (by omega) W, .inl ⟨rfl, rfl, rfl⟩⟩
  | false =>
    exact ⟨_, _, fun W => (ref_no s b hs hf W).mono fun e w' ⟨h1, h2⟩ => ⟨h1, by subst h2; exact Below.refl _ _⟩, .inr ⟨rfl, rfl, rfl⟩⟩
set_option maxHeartbeats 2000000 in
theorem ref_in (s p : ByteArray) (b : Int) (hs : s.size ≤ 300) (hp : p.size ≤ 300) (w : World) :
    Calls Try.prog 33 #[.string s, .agg #[.string p, .int .i64 b]] w fun e w' => e = .returned (.bool (inB s p b)) ∧ Below w.heap.size w w' := by
  obtain ⟨t1, c1, R1, k1⟩ := ref_mask s b hs w
  obtain ⟨t2, c2, R2, k2⟩ := ref_mask p b hp w
  have M1 := Lib.hid R1
  have M2 := Lib.hid R2
  clear R1 R2
  have hN : Below w.heap.size w (w.alloc (.cells #[.string p, .int .i64 b] 31)) := (Below.refl _ _).alloc (Nat.le_refl _) _
  have hc0 : (w.alloc (.cells #[.string p, .int .i64 b] 31)).cell? ⟨w.heap.size, 0, none⟩ = some (.string p) := (Blk.new w 31 #[.string p, .int .i64 b]).cell 0
  have hc1 : (w.alloc (.cells #[.string p, .int .i64 b] 31)).cell? ⟨w.heap.size, 1, none⟩ = some (.int .i64 b) := (Blk.new w 31 #[.string p, .int .i64 b]).cell 1
  have way : (c1 = 1 ∧ Hid (inB s p b = false)) ∨ (c1 = 0 ∧ c2 = 1 ∧ Hid (inB s p b = false)) ∨ (c1 = 0 ∧ c2 = 0 ∧ ((s.size : Int) == (p.size : Int)) = false ∧ Hid (inB s p b = false)) ∨
      (c1 = 0 ∧ c2 = 0 ∧ ((s.size : Int) == (p.size : Int)) = true ∧ Hid (inB s p b = (t1.toList == t2.toList))) := by
    rcases k1 with ⟨f1, e1, g1⟩ | ⟨f1, e1, g1⟩
    · rcases k2 with ⟨f2, e2, g2⟩ | ⟨f2, e2, g2⟩
      · by_cases hl : s.size = p.size
        · refine .inr (.inr (.inr ⟨g1, g2, by rw [beq_iff_eq]; omega, ?_⟩))
          show inB s p b = _
          unfold inB
          rw [e1, e2, f2, mask_eq, beq_iff_eq.2 hl]
          simp
        · refine .inr (.inr (.inl ⟨g1, g2, by rw [beq_eq_false_iff_ne]; omega, ?_⟩))
          show inB s p b = false
          unfold inB
          simp [hl]
      · refine .inr (.inl ⟨g1, g2, ?_⟩)
        show inB s p b = false
        unfold inB
        simp [f2]
    · refine .inl ⟨g1, ?_⟩
      show inB s p b = false
      unfold inB
      by_cases hl : s.size = p.size
      · rw [← hl, f1]; simp
      · simp [hl]
  clear k1 k2
  rcases way with ⟨rfl, F⟩ | ⟨rfl, rfl, F⟩ | ⟨rfl, rfl, g, F⟩ | ⟨rfl, rfl, g, F⟩
  all_goals
    go_enter Try.func33, Try.ntmps33
    go_wp2_with fail
    generalize w.alloc (.cells #[.string p, .int .i64 b] 31) = W at hN hc0 hc1 ⊢
    go_wp2_with fail
    refine (M1.out _).mono ?_; rintro e1 w1 ⟨rfl, hb1⟩
    have n1 := hN.trans (hb1.mono hN.size)
    have a0 := keep_cell hc0 hb1
    have a1 := keep_cell hc1 hb1
    clear hc0 hc1
    go_wp2_with fail
    refine (M2.out _).mono ?_; rintro e2 w2 ⟨rfl, hb2⟩
    have n2 := n1.trans (hb2.mono n1.size)
    have b0 := keep_cell a0 hb2
    have b1 := keep_cell a1 hb2
    clear a0 a1
    go_wp2_with fail
    go_ret
    exact ⟨by rw [F.out]; rfl, n2⟩

end Go.Proofs.Ytnabjhdamofpgaa.AdrR
