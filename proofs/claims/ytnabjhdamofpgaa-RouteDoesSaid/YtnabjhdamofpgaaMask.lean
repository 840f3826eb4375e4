/- Groups laid down as bytes; Mask, In. -/
import Derived.Test.YtnabjhdamofpgaaArr
set_option linter.unusedVariables false
namespace Go.Proofs.Ytnabjhdamofpgaa.Mask
open Go.RowKit Go.PlainAid Go.Proofs.Ytnabjhdamofpgaa.Sums Go.Proofs.Ytnabjhdamofpgaa.Mem Go.Proofs.Ytnabjhdamofpgaa.Blk Go.Proofs.Ytnabjhdamofpgaa.AdrD Go.Proofs.Ytnabjhdamofpgaa.Grp Go.Proofs.Ytnabjhdamofpgaa.Arr

theorem ints_len (l : List Nat) : (ints l).length = l.length := by simp [ints]
set_option maxRecDepth 100000 in
theorem make_bytes (n : Nat) (hn : n ≤ 1048576) (w : World) :
    (Instr.makeSlice 84 (.int .i64 0) (.int .i64 (n : Int))).run Try.prog w = .ok (.slice (some ⟨w.heap.size, 0, none⟩) 0 n) (w.alloc (.cells (madeCells #[.int .u8 0] n) 5)) := by
  obtain ⟨i, hi, hz, hsz, hby⟩ := info_parts byte_info
  have hr := run_make (P := Try.prog) w 84 5 i (.int .u8 0) Try.underlying84 hi hz .i64 .i64 0 (n : Int) (by omega) (by omega) (by rw [hby]; omega) (by omega)
  simp only [Int.toNat_natCast, hsz, Nat.mul_one] at hr
  exact hr

theorem owns_made (w : World) (n base : Nat) (hb : base ≤ w.heap.size) (hn : n ≤ 1048576) :
    Owns (w.alloc (.cells (madeCells #[.int .u8 0] n) 5)) base (.slice (some ⟨w.heap.size, 0, none⟩) 0 n) 0 [] :=
  ⟨rfl, fun _ h => (by cases h), .inr ⟨w.heap.size, n, madeCells #[.int .u8 0] n, (0, 0), rfl, hb, heap_alloc_new w _, .inl rfl, Nat.zero_le _, by simp only [maxLen]; omega, by simp [madeCells], rfl⟩⟩

set_option maxRecDepth 100000 in
set_option maxHeartbeats 1000000 in
theorem bytes_any (l : List Nat) (hl : l.length = 8) (hz : ∀ z ∈ l, z ≤ 65535) (n m : Nat) (hm : n = 2 * m) (hn : m ≤ 8) (w : World) :
    Calls Try.prog 37 #[.agg (arr l), .int .i64 n] w fun e w' => e = .returned (.string (txt (ungrp (l.take m)))) ∧ Below w.heap.size w w' := by
  have HL := Lib.hid hl
  have HZ := Lib.hid hz
  have e1 : (n : Int) / 2 = m := by omega
  have HM := Lib.hid hm
  have hn16 : n ≤ 16 := by omega
  have hmk := make_bytes n (by omega)
  have hto := arr_to w.heap.size m hn
  clear hl hz hm
  go_enter Try.func37, Try.ntmps37
  go_wp2_with fail
  have hB : Blk ((w.alloc (.cells (arr l) 72)).alloc (.cells (madeCells #[.int .u8 0] n) 5)) w.heap.size 72 (arr l) := (Blk.new _ _ _).alloc _
  have hO : Owns ((w.alloc (.cells (arr l) 72)).alloc (.cells (madeCells #[.int .u8 0] n) 5)) (w.heap.size + 1) (.slice (some ⟨w.heap.size + 1, 0, none⟩) 0 n) 0 [] := by
    have := owns_made (w.alloc (.cells (arr l) 72)) n (w.heap.size + 1) (by simp) (by omega)
    rwa [show (w.alloc (.cells (arr l) 72)).heap.size = w.heap.size + 1 by simp] at this
  have hN : Below w.heap.size w ((w.alloc (.cells (arr l) 72)).alloc (.cells (madeCells #[.int .u8 0] n) 5)) := ((Below.refl _ _).alloc (Nat.le_refl _) _).alloc (by simp) _
  go_loopw [5, 14] (fun v i wr => ∃ k : Nat, i = .int .i64 k ∧ k ≤ m ∧ Blk wr w.heap.size 72 (arr l) ∧ Owns wr (w.heap.size + 1) v (2 * k) (ints (ungrp (l.take k))) ∧ Below w.heap.size w wr) (fun _ i _ => m - (intOf i).toNat)
  case atStart => exact ⟨0, rfl, Nat.zero_le _, hB, hO, hN⟩
  case round =>
    obtain ⟨k, rfl, hk, h0, ho, hn'⟩ := hrel
    clear hB hO hN
    by_cases hlt : k < m
    · obtain ⟨x, hx⟩ : ∃ x, l[k]? = some x := ⟨_, List.getElem?_eq_getElem (by rw [HL.out]; omega)⟩
      have hx1 := HZ.out x (List.mem_of_getElem? hx)
      have hcl : wr.cell? ⟨w.heap.size, k, none⟩ = some (.int .u16 (x : Int)) := by
        rw [h0.cell, arr_get, hx]
        rfl
      have E := Lib.hid hx
      have hsz := hn'.size
      have hxb : Bytes (ints [x / 256, x % 256]) := ints_bytes _ (by intro z hz; simp at hz; omega)
      clear hx
      go_wp2_with (first
        | (at_builtin
           refine wpList_append_bytes rfl (.tmp 18) (.tmp 24) rfl (w.heap.size + 1) _ _ _ rfl (ho.alloc _) _ _ 2 2 (ints [x / 256, x % 256]) rfl (Holds.lit wr (ints [x / 256, x % 256]) _ rfl (by simp [ints, maxLen]) hxb) (by omega) (by simp; omega) ?_
           intro v' w' ho' hg' hat))
      have hne : u5.ownBlock = none ∨ u5.ownBlock ≠ some w.heap.size := by
        cases ho5 : u5.ownBlock with
        | none => exact .inl rfl
        | some g => right; intro e; injection e with e; have := (ho.lt g ho5).1; omega
      have hl : ungrp (l.take (k + 1)) = ungrp (l.take k) ++ [x / 256, x % 256] := by
        rw [List.take_add_one, ungrp_append, E.out]
        rfl
      have hi : ints (ungrp (l.take k)) ++ ints [x / 256, x % 256] = ints (ungrp (l.take (k + 1))) := by rw [hl]; simp [ints]
      have hB' : Blk w' w.heap.size 72 (arr l) := (h0.alloc _).grown hg' (fun e => by
        rcases hne with h | h
        · change some w.heap.size = u5.ownBlock at e
          rw [h] at e
          cases e
        · exact h e.symm)
      have hN' : Below w.heap.size w w' := (hn'.alloc hsz _).grown hg' (by simp; omega) fun g hg => by have := (ho.lt g hg).1; omega
      rw [hi] at ho'
      clear hg' hat
      go_roundw
      case rel => exact ⟨k + 1, by go_num, hlt, hB', by rw [show 2 * (k + 1) = 2 * k + 2 by omega]; exact ho', hN'⟩
      case measure => simp [intOf]; omega
    · have e : k = m := by omega
      subst e
      obtain ⟨A, c, rfl, hh⟩ := ho.slice
      have hcv := run_string_bytes hh
      rw [txt_of] at hcv
      clear ho
      go_wp2_with fail
      go_ret
      exact ⟨rfl, hn'⟩

/-- Is it an address that has so many bits? -/
theorem fits_any (s : ByteArray) (b : Int) (h : s.size ≤ maxLen) (w : World) :
    Calls Try.prog 34 #[.string s, .int .i64 b] w fun e w' => e = .returned (.bool (fitB s.size b)) ∧ w = w' := by
  unfold maxLen at h
  by_cases h4 : s.size = 4
  · have g : ((s.size : Int) == 4) = true := by simp; omega
    have h16 : s.size ≤ 16 := by omega
    by_cases b0 : 0 ≤ b
    · by_cases b1 : b ≤ 8 * (s.size : Int)
      · have e : Hid (fitB s.size b = true) := Lib.hid (by unfold fitB; simp [h4]; omega)
        have b2 : decide (b ≤ 8 * (s.size : Int)) = true := by simp; omega
        clear h4
        go_enter Try.func34, Try.ntmps34
        go_wp2_with fail
        go_ret
        exact ⟨by rw [e.out]; rfl, rfl⟩
      · have e : Hid (fitB s.size b = false) := Lib.hid (by unfold fitB; simp [h4]; omega)
        have b2 : decide (b ≤ 8 * (s.size : Int)) = false := by simp; omega
        clear h4
        go_enter Try.func34, Try.ntmps34
        go_wp2_with fail
        go_ret
        exact ⟨by rw [e.out]; rfl, rfl⟩
    · have e : Hid (fitB s.size b = false) := Lib.hid (by unfold fitB; simp [h4]; omega)
      have b2 : decide (0 ≤ b) = false := by simp; omega
      clear h4
      go_enter Try.func34, Try.ntmps34
      go_wp2_with fail
      go_ret
      exact ⟨by rw [e.out]; rfl, rfl⟩
  · have g : ((s.size : Int) == 4) = false := by simp; omega
    by_cases h6 : s.size = 16
    · have g' : ((s.size : Int) == 16) = true := by simp; omega
      have h16 : s.size ≤ 16 := by omega
      by_cases b0 : 0 ≤ b
      · by_cases b1 : b ≤ 8 * (s.size : Int)
        · have e : Hid (fitB s.size b = true) := Lib.hid (by unfold fitB; simp [h6]; omega)
          have b2 : decide (b ≤ 8 * (s.size : Int)) = true := by simp; omega
          clear h4 h6
          go_enter Try.func34, Try.ntmps34
          go_wp2_with fail
          go_ret
          exact ⟨by rw [e.out]; rfl, rfl⟩
        · have e : Hid (fitB s.size b = false) := Lib.hid (by unfold fitB; simp [h6]; omega)
          have b2 : decide (b ≤ 8 * (s.size : Int)) = false := by simp; omega
          clear h4 h6
          go_enter Try.func34, Try.ntmps34
          go_wp2_with fail
          go_ret
          exact ⟨by rw [e.out]; rfl, rfl⟩
      · have e : Hid (fitB s.size b = false) := Lib.hid (by unfold fitB; simp [h6]; omega)
        have b2 : decide (0 ≤ b) = false := by simp; omega
        clear h4 h6
        go_enter Try.func34, Try.ntmps34
        go_wp2_with fail
        go_ret
        exact ⟨by rw [e.out]; rfl, rfl⟩
    · have g' : ((s.size : Int) == 16) = false := by simp; omega
      have e : Hid (fitB s.size b = false) := Lib.hid (by unfold fitB; simp [h4, h6])
      clear h4 h6
      go_enter Try.func34, Try.ntmps34
      go_wp2_with fail
      go_ret
      exact ⟨by rw [e.out]; rfl, rfl⟩

/-- The first bits of a text, the others cleared. -/
theorem size_even {s : ByteArray} {b : Int} (h : fitB s.size b = true) : ∃ n, s.size = 2 * n ∧ n ≤ 8 ∧ 0 ≤ b ∧ b.toNat ≤ 128 ∧ (s.size = 4 ∨ s.size = 16) := by
  unfold fitB at h
  simp only [Bool.and_eq_true, Bool.or_eq_true, beq_iff_eq, decide_eq_true_eq] at h
  obtain ⟨⟨h1 | h1, h2⟩, h3⟩ := h
  · exact ⟨2, h1, by omega, h2, by omega, .inl h1⟩
  · exact ⟨8, h1, by omega, h2, by omega, .inr h1⟩

theorem grps_len {s : ByteArray} {n : Nat} (h : s.size = 2 * n) (k : n ≤ 8) : (grps s).length = 8 := by
  unfold grps pad8
  rw [List.length_append, List.length_replicate, grp_len, bts_len]
  omega
theorem grps_le (s : ByteArray) : ∀ z ∈ grps s, z ≤ 65535 := by
  intro z hz
  unfold grps pad8 at hz
  rcases List.mem_append.1 hz with h | h
  · exact grp_le _ (bts_le s) z h
  · have := List.eq_of_mem_replicate h
    omega
theorem firstG_append : ∀ (l r : List Nat) (b : Nat), ∃ r', firstG b (l ++ r) = firstG b l ++ r'
  | [], r, b => ⟨_, rfl⟩
  | x :: l, r, b => by
    obtain ⟨r', h⟩ := firstG_append l r (b - 16)
    exact ⟨r', by simp [firstG, h]⟩
theorem mask_of {s : ByteArray} {n : Nat} (h : s.size = 2 * n) (b : Nat) : txt (ungrp ((firstG b (grps s)).take n)) = maskS s b := by
  unfold maskS
  congr 1
  obtain ⟨r, hr⟩ := firstG_append (grp (bts s)) (List.replicate (8 - (grp (bts s)).length) 0) b
  have e : (firstG b (grps s)).take n = firstG b (grp (bts s)) := by
    unfold grps pad8
    rw [hr, List.take_append_of_le_length (by rw [firstG_len, grp_len, bts_len]; omega), List.take_of_length_le (by rw [firstG_len, grp_len, bts_len]; omega)]
  rw [e]
  exact ungrp_first _ _ (bts_le s) (by rw [bts_len]; omega)

theorem mask_no (s : ByteArray) (b : Int) (hs : s.size ≤ maxLen) (h : fitB s.size b = false) (w : World) :
    Calls Try.prog 20 #[.string s, .int .i64 b] w fun e w' => e = .returned (.tuple #[.string ⟨#[]⟩, .int .i64 1]) ∧ w = w' := by
  have C := fits_any s b hs w
  rw [h] at C
  have C := Lib.hid C
  clear h
  go_enter Try.func20, Try.ntmps20
  go_wp2_with fail
  refine C.out.mono ?_; rintro e w' ⟨rfl, rfl⟩
  go_wp2_with fail
  go_ret2
  exact ⟨rfl, rfl⟩

theorem mask_yes (s : ByteArray) (b : Int) (h : fitB s.size b = true) (w : World) :
    Calls Try.prog 20 #[.string s, .int .i64 b] w fun e w' => e = .returned (.tuple #[.string (maskS s b.toNat), .int .i64 0]) ∧ Below w.heap.size w w' := by
  obtain ⟨n, hn, hn8, b0, b1, h46⟩ := size_even h
  have C := fits_any s b (by simp only [maxLen]; omega) w
  rw [h] at C
  have C := Lib.hid C
  obtain ⟨k, rfl⟩ : ∃ k : Nat, b = k := ⟨b.toNat, by omega⟩
  simp only [Int.toNat_natCast] at b1 ⊢
  have R := Lib.hid (read_any s n hn hn8 w)
  have F : Hid (∀ W, _) := Lib.hid (first_any (grps s) (grps_len hn hn8) (grps_le s) k b1)
  have B : Hid (∀ W, _) := Lib.hid (bytes_any (firstG k (grps s)) (by rw [firstG_len]; exact grps_len hn hn8) (firstG_le _ _ (grps_le s)) s.size n hn hn8)
  rw [mask_of hn] at B
  clear h hn h46
  go_enter Try.func20, Try.ntmps20
  go_wp2_with fail
  refine C.out.mono ?_; rintro e w' ⟨rfl, rfl⟩
  go_wp2_with fail
  refine R.out.mono ?_; rintro e w1 ⟨rfl, hb1⟩
  go_wp2_with fail
  refine (F.out _).mono ?_; rintro e w2 ⟨rfl, hb2⟩
  go_wp2_with fail
  refine (B.out _).mono ?_; rintro e w3 ⟨rfl, hb3⟩
  go_wp2_with fail
  go_ret2
  exact ⟨rfl, (hb1.trans (hb2.mono hb1.size)).trans (hb3.mono (Nat.le_trans hb1.size hb2.size))⟩

end Go.Proofs.Ytnabjhdamofpgaa.Mask
