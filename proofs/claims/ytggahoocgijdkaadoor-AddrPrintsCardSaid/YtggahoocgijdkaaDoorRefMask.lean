/- The reference: Mask, bit by bit. -/
import Derived.Test.YtggahoocgijdkaaDoorRefSmall
import Derived.Test.YtggahoocgijdkaaDoorMasks
set_option linter.unusedVariables false
namespace Go.Proofs.YtggahoocgijdkaaDoor.RefMask
open Go.RowKit Go.PlainAid Go.Proofs.YtggahoocgijdkaaDoor.Sums Go.Proofs.YtggahoocgijdkaaDoor.Mem Go.Proofs.YtggahoocgijdkaaDoor.Std Go.Proofs.YtggahoocgijdkaaDoor.Grp Go.Proofs.YtggahoocgijdkaaDoor.Arr Go.Proofs.YtggahoocgijdkaaDoor.Mask Go.Proofs.YtggahoocgijdkaaDoor.Masks Go.Proofs.YtggahoocgijdkaaDoor.RefSmall

/-- A byte with its bits a, .. b - 1 (the highest is 0) cleared. -/
def cut8 (a b x : Nat) : Nat := if a ≤ b then x / 2 ^ (8 - a) * 2 ^ (8 - a) + x % 2 ^ (8 - b) else x
/-- The bytes with the bits n, .. i - 1 cleared. -/
def cutB (n i : Nat) : List Nat → List Nat
  | [] => []
  | x :: r => cut8 (min n 8) (min i 8) x :: cutB (n - 8) (i - 8) r

theorem cut8_same (a x : Nat) : cut8 a a x = x := by
  unfold cut8
  rw [if_pos (Nat.le_refl _)]
  exact Nat.div_add_mod' _ _
theorem cutB_len : ∀ (l : List Nat) (n i : Nat), (cutB n i l).length = l.length
  | [], _, _ => rfl
  | x :: r, n, i => by simp [cutB, cutB_len r]
theorem cutB_start : ∀ (l : List Nat) (n : Nat), cutB n n l = l
  | [], _ => rfl
  | x :: r, n => by simp only [cutB, cut8_same, cutB_start r]
theorem cutB_end : ∀ (l : List Nat) (n i : Nat), n ≤ i → 8 * l.length ≤ i → cutB n i l = maskB n l
  | [], _, _, _, _ => rfl
  | x :: r, n, i, h, k => by
    simp only [List.length_cons] at k
    simp only [cutB, maskB, cutB_end r (n - 8) (i - 8) (by omega) (by omega)]
    congr 1
    unfold cut8 keep8
    rw [if_pos (by omega), show min i 8 = 8 by omega]
    simp [Nat.mod_one]
theorem cut8_le (a b x : Nat) : cut8 a b x ≤ x := by
  unfold cut8
  split
  · have h1 := Nat.div_add_mod' x (2 ^ (8 - a))
    have h2 : x % 2 ^ (8 - b) ≤ x % 2 ^ (8 - a) := by
      rename_i hab
      rw [show x % 2 ^ (8 - b) = (x % 2 ^ (8 - a)) % 2 ^ (8 - b) from (Nat.mod_mod_of_dvd _ (Nat.pow_dvd_pow 2 (by omega))).symm]
      exact Nat.mod_le _ _
    omega
  · exact Nat.le_refl _
theorem cutB_le : ∀ (l : List Nat) (n i : Nat), (∀ z ∈ l, z ≤ 255) → ∀ z ∈ cutB n i l, z ≤ 255
  | [], _, _, _, _, h => by simp [cutB] at h
  | x :: r, n, i, h, z, hz => by
    simp only [cutB, List.mem_cons] at hz
    rcases hz with rfl | hz
    · exact Nat.le_trans (cut8_le _ _ _) (h x (by simp))
    · exact cutB_le r _ _ (fun z hz => h z (by simp [hz])) z hz
theorem cutB_at : ∀ (l : List Nat) (n i k : Nat), (cutB n i l)[k]? = l[k]?.map (cut8 (min (n - 8 * k) 8) (min (i - 8 * k) 8))
  | [], _, _, _ => by simp [cutB]
  | x :: r, n, i, 0 => by simp [cutB]
  | x :: r, n, i, k + 1 => by
    simp only [cutB, List.getElem?_cons_succ]
    rw [cutB_at r, show n - 8 - 8 * k = n - 8 * (k + 1) by omega, show i - 8 - 8 * k = i - 8 * (k + 1) by omega]
/-- One bit more. -/
theorem cut8_next (a b x : Nat) (h : a ≤ b) (hb : b < 8) : (cut8 a b x / 2 ^ (7 - b) % 2 = 1 → cut8 a (b + 1) x = cut8 a b x - 2 ^ (7 - b)) ∧ (cut8 a b x / 2 ^ (7 - b) % 2 ≠ 1 → cut8 a (b + 1) x = cut8 a b x) := by
  have hp : (2 : Nat) ^ (8 - b) = 2 ^ (7 - b) * 2 := by rw [← Nat.pow_succ]; congr 1; omega
  obtain ⟨c, hc⟩ : ∃ c, 2 ^ (8 - a) = 2 ^ (8 - b) * c := ⟨2 ^ ((8 - a) - (8 - b)), by rw [← Nat.pow_add]; congr 1; omega⟩
  have hpos : 0 < (2 : Nat) ^ (7 - b) := Nat.two_pow_pos _
  unfold cut8
  rw [if_pos h, if_pos (by omega), show 8 - (b + 1) = 7 - b by omega]
  rw [hc, hp]
  generalize hP : 2 ^ (7 - b) = P at *
  have e1 : x / (P * 2 * c) * (P * 2 * c) = P * (2 * (x / (P * 2 * c) * c)) := by
    generalize x / (P * 2 * c) = q
    rw [Nat.mul_comm q, Nat.mul_assoc, Nat.mul_assoc, Nat.mul_comm c q]
  rw [e1]
  generalize x / (P * 2 * c) * c = m
  have e2 : x % P = x % (P * 2) % P := (Nat.mod_mul_right_mod x P 2).symm
  have e3 : x % (P * 2) < P * 2 := Nat.mod_lt _ (by omega)
  rw [e2]
  generalize x % (P * 2) = r at e3
  have e4 : (P * (2 * m) + r) / P = 2 * m + r / P := Nat.mul_add_div hpos _ _
  rw [e4]
  by_cases hr : r < P
  · rw [Nat.div_eq_of_lt hr, Nat.mod_eq_of_lt hr]
    exact ⟨fun h => by omega, fun _ => rfl⟩
  · have d1 : r / P = 1 := Nat.div_eq_of_lt_le (by omega) (by omega)
    have d2 : r % P = r - P := by rw [Nat.mod_eq_sub_mod (by omega), Nat.mod_eq_of_lt (by omega)]
    rw [d1, d2]
    exact ⟨fun _ => by omega, fun h => by omega⟩
theorem cutB_other (l : List Nat) (n i : Nat) (k : Nat) (h : n ≤ i) (hk : k ≠ i / 8) : (cutB n (i + 1) l)[k]? = (cutB n i l)[k]? := by
  rw [cutB_at, cutB_at]
  have : min (i + 1 - 8 * k) 8 = min (i - 8 * k) 8 := by omega
  rw [this]
theorem cutB_here (l : List Nat) (n i x : Nat) (h : n ≤ i) (hx : (cutB n i l)[i / 8]? = some x) :
    (x / 2 ^ (7 - i % 8) % 2 = 1 → (cutB n (i + 1) l)[i / 8]? = some (x - 2 ^ (7 - i % 8))) ∧ (x / 2 ^ (7 - i % 8) % 2 ≠ 1 → (cutB n (i + 1) l)[i / 8]? = some x) := by
  rw [cutB_at] at hx
  rw [cutB_at]
  cases hl : l[i / 8]? with
  | none => rw [hl] at hx; cases hx
  | some y =>
    rw [hl] at hx
    simp only [Option.map_some, Option.some.injEq] at hx ⊢
    have e1 : min (i - 8 * (i / 8)) 8 = i % 8 := by omega
    have e2 : min (i + 1 - 8 * (i / 8)) 8 = i % 8 + 1 := by omega
    rw [e1] at hx
    rw [e2]
    have := cut8_next (min (n - 8 * (i / 8)) 8) (i % 8) y (by omega) (by omega)
    rw [hx] at this
    exact this
theorem cutB_next_on (l : List Nat) (n i x : Nat) (h : n ≤ i) (hx : (cutB n i l)[i / 8]? = some x) (hb : x / 2 ^ (7 - i % 8) % 2 = 1) : (cutB n i l).set (i / 8) (x - 2 ^ (7 - i % 8)) = cutB n (i + 1) l := by
  apply List.ext_getElem?
  intro k
  by_cases hk : k = i / 8
  · subst hk
    rw [(cutB_here l n i x h hx).1 hb, List.getElem?_set_self (List.getElem?_eq_some_iff.1 hx).1]
  · rw [cutB_other l n i k h hk, List.getElem?_set_ne (fun e => hk e.symm)]
theorem cutB_next_off (l : List Nat) (n i x : Nat) (h : n ≤ i) (hx : (cutB n i l)[i / 8]? = some x) (hb : x / 2 ^ (7 - i % 8) % 2 ≠ 1) : cutB n i l = cutB n (i + 1) l := by
  apply List.ext_getElem?
  intro k
  by_cases hk : k = i / 8
  · subst hk
    rw [(cutB_here l n i x h hx).2 hb, hx]
  · rw [cutB_other l n i k h hk]

theorem ref_no (s : ByteArray) (b : Int) (hs : s.size ≤ 300) (h : fitB s.size b = false) (w : World) :
    Calls Tryd.prog 15 #[.string s, .int .i64 b] w fun e w' => e = .returned (.tuple #[.string ⟨#[]⟩, .int .i64 1]) ∧ w = w' := by
  by_cases h46 : s.size = 4 ∨ s.size = 16
  · have C := Lib.hid (fun W => is_yes s h46 W)
    have hb : b < 0 ∨ (0 ≤ b ∧ 8 * (s.size : Int) < b) := by
      unfold fitB at h
      simp at h
      omega
    clear h h46
    rcases hb with hb | ⟨hb0, hb⟩
    all_goals
      go_enter Tryd.func15, Tryd.ntmps15
      go_wp2_with fail
      refine (C.out _).mono ?_; rintro e w' ⟨rfl, rfl⟩
      go_wp2_with fail
      go_ret2
      exact ⟨rfl, rfl⟩
  · have C := Lib.hid (fun W => is_no s (fun e => h46 (.inl e)) (fun e => h46 (.inr e)) W)
    clear h h46
    go_enter Tryd.func15, Tryd.ntmps15
    go_wp2_with fail
    refine (C.out _).mono ?_; rintro e w' ⟨rfl, rfl⟩
    go_wp2_with fail
    go_ret2
    exact ⟨rfl, rfl⟩

theorem bit_val (x P : Nat) (hx : x ≤ 255) : (wrap64 ((x : Int) / (P : Int))).tmod 2 = ((x / P % 2 : Nat) : Int) := by
  have hq : x / P ≤ 255 := Nat.le_trans (Nat.div_le_self _ _) hx
  have e2 : (x : Int) / (P : Int) = ((x / P : Nat) : Int) := (Int.natCast_ediv x P).symm
  rw [e2]
  generalize x / P = q at hq
  rw [IntWalk.wrap64_in (q : Int) (by omega), Int.tmod_eq_emod_of_nonneg (by omega)]
  rfl
theorem nums_ints (s : ByteArray) : nums s = ints (bts s) := by
  unfold nums ints bts
  rw [List.map_map]
  rfl

set_option maxRecDepth 100000 in
set_option maxHeartbeats 4000000 in
theorem ref_yes (s : ByteArray) (b : Nat) (h46 : s.size = 4 ∨ s.size = 16) (hb : b ≤ 8 * s.size) (w : World) :
    Calls Tryd.prog 15 #[.string s, .int .i64 b] w fun e w' => e = .returned (.tuple #[.string (maskS s b), .int .i64 0]) ∧ Below w.heap.size w w' := by
  have C := Lib.hid (fun W => is_yes s h46 W)
  obtain ⟨w1, v1, hr, ho, hbl⟩ := run_bytes_string w s (by simp only [maxLen]; omega)
  rw [nums_ints] at ho
  have hsz : s.size ≤ 16 := by omega
  have hs4 : 4 ≤ s.size := by omega
  obtain ⟨A, c, rfl, hh⟩ := ho.slice
  obtain ⟨g, rfl, hg, hg'⟩ := ho.form (by omega)
  have HO := Lib.hid ho
  have HBL := Lib.hid hbl
  clear ho hbl hh h46
  go_enter Tryd.func15, Tryd.ntmps15
  go_wp2_with fail
  refine (C.out _).mono ?_; rintro e w' ⟨rfl, rfl⟩
  go_wp2_with fail
  go_loopw [7, 8, 9] (fun i p j wr => ∃ k : Nat, i = .int .i64 k ∧ b ≤ k ∧ k ≤ 8 * s.size ∧ Owns wr w.heap.size (.slice (some ⟨g, 0, none⟩) s.size c) s.size (ints (cutB b k (bts s))) ∧ Below w.heap.size w wr) (fun i _ _ _ => 8 * s.size - (intOf i).toNat)
  case atStart => exact ⟨b, rfl, Nat.le_refl _, hb, by rw [cutB_start]; exact HO.out, HBL.out⟩
  case round =>
    obtain ⟨k, rfl, hbk, hk, hO, hN⟩ := hrel
    by_cases hlt : k < 8 * s.size
    · have hk8 : k / 8 < s.size := by omega
      obtain ⟨x, hx⟩ : ∃ x, (cutB b k (bts s))[k / 8]? = some x := ⟨_, List.getElem?_eq_getElem (by rw [cutB_len, bts_len]; exact hk8)⟩
      have hx1 := cutB_le _ _ _ (bts_le s) x (List.mem_of_getElem? hx)
      have hcell : wr.cell? ⟨g, k / 8, none⟩ = some (.int .u8 (x : Int)) := hO.cell (by simp [ints, hx])
      have hfree := hO.free (k / 8) hk8
      have HX := Lib.hid hx
      have HO2 := Lib.hid hO
      clear hx hO
      have e1 : ((k : Int) / 8).toNat = k / 8 := by omega
      go_wp2_with fail
      go_loop [8, 9] (fun p j => ∃ (m : Nat) (P : Nat), j = .int .i64 m ∧ k % 8 ≤ m ∧ m ≤ 7 ∧ p = .int .i64 P ∧ 1 ≤ P ∧ P ≤ 128 ∧ (m < 7 → P ≤ 64) ∧ Hid (P = 2 ^ (m - k % 8))) (fun _ j => 7 - (intOf j).toNat)
      case atStart => exact ⟨k % 8, 1, by simp, Nat.le_refl _, by omega, rfl, by omega, by omega, fun _ => by omega, by show 1 = 2 ^ (k % 8 - k % 8); simp⟩
      case round =>
        obtain ⟨m, P, rfl, hm0, hm7, rfl, hP1, hP2, hP3, hP⟩ := hrel
        by_cases hm : m < 7
        · have hP64 := hP3 hm
          have HP' : Hid (2 * P = 2 ^ (m + 1 - k % 8)) := Lib.hid (by rw [hP.out, show m + 1 - k % 8 = (m - k % 8) + 1 by omega, Nat.pow_succ, Nat.mul_comm])
          have HPm : Hid (m + 1 < 7 → 2 * P ≤ 64) := Lib.hid (fun h => by
            rw [HP'.out]
            exact Nat.le_trans (Nat.pow_le_pow_right (by omega) (show m + 1 - k % 8 ≤ 6 by omega)) (by decide))
          clear hP3 hP
          go_wp2_with fail
          go_round
          case rel => exact ⟨m + 1, 2 * P, by go_num, by omega, hm, by go_num, by omega, by omega, HPm.out, HP'⟩
          case measure => simp [intOf]; omega
        · have e : m = 7 := by omega
          subst e
          have HP := Lib.hid hP.out
          clear hP hP3 hm
          have hv := bit_val x P hx1
          by_cases hbit : x / P % 2 = 1
          · have hbv : ((wrap64 ((x : Int) / (P : Int))).tmod 2 == 1) = true := by rw [hv, hbit]; rfl
            have hPx : P ≤ x := by
              by_cases hh : P ≤ x
              · exact hh
              · rw [Nat.div_eq_of_lt (by omega)] at hbit; omega
            have em : ((x : Int) - (P : Int)) % 256 = ((x - P : Nat) : Int) := by omega
            have NX := Lib.hid (cutB_next_on (bts s) b k x hbk HX.out (by rw [← HP.out]; exact hbit))
            rw [← HP.out] at NX
            clear hv hbit
            go_wp2_with fail
            go_roundw
            case rel =>
              refine ⟨k + 1, by go_num, by omega, by omega, ?_, hN.setCell (p := ⟨g, k / 8, none⟩) (by simp; omega) _⟩
              have := HO2.out.set (k / 8) ((x - P : Nat) : Int) (by omega) (by omega)
              rw [show (x : Int) - (P : Int) = ((x - P : Nat) : Int) by omega, ← NX.out]
              have e4 : ints ((cutB b k (bts s)).set (k / 8) (x - P)) = (ints (cutB b k (bts s))).set (k / 8) ((x - P : Nat) : Int) := by simp [ints, List.map_set]
              rw [e4]
              exact this
            case measure => simp [intOf]; omega
          · have hbv : ((wrap64 ((x : Int) / (P : Int))).tmod 2 == 1) = false := by rw [hv, beq_eq_false_iff_ne]; omega
            have NX := Lib.hid (cutB_next_off (bts s) b k x hbk HX.out (by rw [← HP.out]; exact hbit))
            clear hv hbit
            go_wp2_with fail
            go_roundw
            case rel => exact ⟨k + 1, by go_num, by omega, by omega, by rw [← NX.out]; exact HO2.out, hN⟩
            case measure => simp [intOf]; omega
    · have e : k = 8 * s.size := by omega
      subst e
      rw [cutB_end _ _ _ hb (by rw [bts_len]; exact Nat.le_refl _)] at hO
      obtain ⟨A', c', hA, hh⟩ := hO.slice
      injection hA with hA1 hA2 hA3
      subst hA1 hA3
      have hcv := run_string_bytes hh
      rw [txt_of] at hcv
      clear hO hh
      go_wp2_with fail
      go_ret2
      exact ⟨rfl, hN⟩

theorem ref_mask (s : ByteArray) (b : Int) (hs : s.size ≤ 300) (w : World) :
    ∃ t c, (∀ W, Calls Tryd.prog 14 #[.string s, .int .i64 b] W fun e w' => e = .returned (.tuple #[.string t, .int .i64 c]) ∧ Below W.heap.size W w') ∧
      (∀ W, Calls Tryd.prog 15 #[.string s, .int .i64 b] W fun e w' => e = .returned (.tuple #[.string t, .int .i64 c]) ∧ Below W.heap.size W w') ∧
      ((fitB s.size b = true ∧ t = maskS s b.toNat ∧ c = 0) ∨ (fitB s.size b = false ∧ t = ⟨#[]⟩ ∧ c = 1)) := by
  cases hf : fitB s.size b with
  | true =>
    have h := hf
    unfold fitB at h
    simp only [Bool.and_eq_true, Bool.or_eq_true, beq_iff_eq, decide_eq_true_eq] at h
    obtain ⟨k, rfl⟩ : ∃ k : Nat, b = k := ⟨b.toNat, by omega⟩
    exact ⟨_, _, fun W => mask_yes s k hf W, fun W => ref_yes s k h.1.1 (by omega) W, .inl ⟨rfl, rfl, rfl⟩⟩
  | false =>
    exact ⟨_, _, fun W => (mask_no s b (by simp only [maxLen]; omega) hf W).mono fun e w' ⟨h1, h2⟩ => ⟨h1, by subst h2; exact Below.refl _ _⟩,
      fun W => (ref_no s b hs hf W).mono fun e w' ⟨h1, h2⟩ => ⟨h1, by subst h2; exact Below.refl _ _⟩, .inr ⟨rfl, rfl, rfl⟩⟩

end Go.Proofs.YtggahoocgijdkaaDoor.RefMask
