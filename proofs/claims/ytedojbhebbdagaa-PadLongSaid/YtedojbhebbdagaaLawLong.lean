/- The law PadLong: its walk. -/
import Derived.Test.YtedojbhebbdagaaPadU
set_option linter.unusedVariables false
namespace Go.Proofs.Ytedojbhebbdagaa.LawLong
open Go.RowKit Go.Proofs.Ytedojbhebbdagaa.Sums Go.Proofs.Ytedojbhebbdagaa.Mem Go.Proofs.Ytedojbhebbdagaa.Blk Go.Proofs.Ytedojbhebbdagaa.Bits Go.Proofs.Ytedojbhebbdagaa.Bits3 Go.Proofs.Ytedojbhebbdagaa.Ints Go.Proofs.Ytedojbhebbdagaa.Cut Go.Proofs.Ytedojbhebbdagaa.PadR Go.Proofs.Ytedojbhebbdagaa.PadO Go.Proofs.Ytedojbhebbdagaa.Pad1 Go.Proofs.Ytedojbhebbdagaa.Pad2 Go.Proofs.Ytedojbhebbdagaa.PadU

set_option maxHeartbeats 1000000 in
set_option maxRecDepth 100000 in
theorem big (A0 : Option Addr) (n0 c0 : Nat) (l0 : List Int) (m x a c : Int) (w : World) (h0 : Holds w w.heap.size A0 n0 c0 l0) (m0 : n0 ≤ 140737488355328) (q : (3000 < n0) ∨ (n0 ≤ 3000 ∧ m < 0) ∨ (n0 ≤ 3000 ∧ 255 < m) ∨ (n0 ≤ 3000 ∧ 0 ≤ m ∧ m ≤ 255 ∧ x < 0) ∨ (n0 ≤ 3000 ∧ 0 ≤ m ∧ m ≤ 255 ∧ 255 < x)) :
    Calls Try.prog 5 #[.slice A0 n0 c0, .int .i64 m, .int .i64 x, .int .i64 a, .int .u8 c] w fun e w' => e = .returned (.bool true) ∧ Below w.heap.size w w' := by
  rcases q with q | q | q | q | q
  · have g0 : decide ((3000 : Int) < (n0 : Int)) = true := decide_eq_true (by omega)
    clear h0 m0 q
    go_enter Try.func5, Try.ntmps5
    go_wp2_with fail
    go_ret
    exact ⟨rfl, Below.refl _ _⟩
  · have g0 : decide ((3000 : Int) < (n0 : Int)) = false := decide_eq_false (by omega)
    have g1 : decide (m < 0) = true := decide_eq_true (by omega)
    clear h0 m0 q
    go_enter Try.func5, Try.ntmps5
    go_wp2_with fail
    go_ret
    exact ⟨rfl, Below.refl _ _⟩
  · have g0 : decide ((3000 : Int) < (n0 : Int)) = false := decide_eq_false (by omega)
    have g1 : decide (m < 0) = false := decide_eq_false (by omega)
    have g2 : decide (255 < m) = true := decide_eq_true (by omega)
    clear h0 m0 q
    go_enter Try.func5, Try.ntmps5
    go_wp2_with fail
    go_ret
    exact ⟨rfl, Below.refl _ _⟩
  · have g0 : decide ((3000 : Int) < (n0 : Int)) = false := decide_eq_false (by omega)
    have g1 : decide (m < 0) = false := decide_eq_false (by omega)
    have g2 : decide (255 < m) = false := decide_eq_false (by omega)
    have g3 : decide (x < 0) = true := decide_eq_true (by omega)
    clear h0 m0 q
    go_enter Try.func5, Try.ntmps5
    go_wp2_with fail
    go_ret
    exact ⟨rfl, Below.refl _ _⟩
  · have g0 : decide ((3000 : Int) < (n0 : Int)) = false := decide_eq_false (by omega)
    have g1 : decide (m < 0) = false := decide_eq_false (by omega)
    have g2 : decide (255 < m) = false := decide_eq_false (by omega)
    have g3 : decide (x < 0) = false := decide_eq_false (by omega)
    have g4 : decide (255 < x) = true := decide_eq_true (by omega)
    clear h0 m0 q
    go_enter Try.func5, Try.ntmps5
    go_wp2_with fail
    go_ret
    exact ⟨rfl, Below.refl _ _⟩

set_option maxHeartbeats 2000000 in
set_option maxRecDepth 100000 in
theorem away (A0 : Option Addr) (n0 c0 : Nat) (l0 : List Int) (m : Nat) (x a c : Int) (w : World) (h0 : Holds w w.heap.size A0 n0 c0 l0) (m0 : n0 ≤ 140737488355328) (q : n0 ≤ 3000) (q1 : m ≤ 255) (q2 : 0 ≤ x) (q3 : x ≤ 255) (q4 : a < 0 ∨ (m : Int) ≤ a) :
    Calls Try.prog 5 #[.slice A0 n0 c0, .int .i64 (m : Int), .int .i64 x, .int .i64 a, .int .u8 c] w fun e w' => e = .returned (.bool true) ∧ Below w.heap.size w w' := by
  rcases q4 with q4 | q4
  · have y0 : decide (a < 0) = true := decide_eq_true (by omega)
    clear q4
    have H0 := Lib.hid h0
    have HL := Lib.hid h0.1
    have NB : Hid (n0 ≤ 3000 ∧ m ≤ 255 ∧ 0 ≤ x ∧ x ≤ 255) := Lib.hid ⟨q, q1, q2, q3⟩
    have g0 : decide ((3000 : Int) < (n0 : Int)) = false := decide_eq_false (by omega)
    have g1 : decide ((m : Int) < 0) = false := decide_eq_false (by omega)
    have g2 : decide (255 < (m : Int)) = false := decide_eq_false (by omega)
    have g3 : decide (x < 0) = false := decide_eq_false (by omega)
    have g4 : decide (255 < x) = false := decide_eq_false (by omega)
    have XM := m0
    clear h0 m0 q q1 q2 q3 XM
    go_enter Try.func5, Try.ntmps5
    go_wp2_with fail
    refine (both_one A0 n0 c0 l0 w w.heap.size H0.out (Nat.le_refl _) (by have := NB.out; omega) _ rfl _ rfl).mono ?_
    rintro e w1 ⟨A1, c1, rfl, _, oo, hb⟩
    have O1 : Hid (Owns w1 w.heap.size (.slice A1 n0 c1) n0 (l0 ++ ups 0)) := Lib.hid (by simpa [ups] using oo)
    have B1 := Lib.hid hb
    clear hb oo
    go_wp2_with fail
    go_loopw [11, 12] (fun ov kv wr => ∃ k q j : Nat, kv = .int .i64 (j : Int) ∧ Hid (j = k + 1) ∧ Hid (q = n0 + k) ∧ Hid (k ≤ m) ∧ Hid (Owns wr w.heap.size ov q (l0 ++ ups k)) ∧ Hid (Below w.heap.size w wr)) (fun _ kv _ => m + 1 - (intOf kv).toNat)
    case atStart => exact ⟨0, n0, 1, rfl, Lib.hid rfl, Lib.hid rfl, Lib.hid (Nat.zero_le _), O1, B1⟩
    case round =>
      obtain ⟨k, q, j, rfl, HJ, HQ, HK, HO, HB⟩ := hrel
      clear O1 B1
      obtain ⟨Av, cv, rfl, _⟩ := HO.out.slice
      have qb : q ≤ 65540 := by have := HQ.out; have := HK.out; have := NB.out; omega
      have jb : j ≤ 256 := by have := HJ.out; have := HK.out; have := NB.out; omega
      have HBS := HB.out.size
      by_cases hlt : j ≤ m
      · have f2 : IntKind.i64.wrap ((j : Int) + 1) = (j : Int) + 1 := IntWalk.i64_in _ (by omega)
        have mb := NB.out.2.1
        have u1 : IntKind.u8.wrap (j : Int) = (j : Int) := by rw [IntKind.wrap_u8]; omega
        have HQ2 : Hid (q + 1 = n0 + (k + 1)) := Lib.hid (by have := HQ.out; omega)
        have HJ2 : Hid (j + 1 = (k + 1) + 1) := Lib.hid (by have := HJ.out; omega)
        have HK2 : Hid (k + 1 ≤ m) := Lib.hid (by have := HJ.out; omega)
        have zb : Bytes [(j : Int)] := fun z hz => by simp at hz; omega
        have UE : Hid (l0 ++ ups k ++ [(j : Int)] = l0 ++ ups (k + 1)) := Lib.hid (by rw [ups_next, ← List.append_assoc, HJ.out]; rfl)
        have g9 : decide ((j : Int) ≤ (m : Int)) = true := decide_eq_true (by omega)
        clear HQ HJ HK
        go_wp2_with (at_builtin
                     refine wpList_append_bytes rfl (.tmp 46) (.tmp 49) rfl w.heap.size _ q _ rfl (HO.out.alloc _) _ _ 1 1 [(j : Int)] rfl (Holds.lit wr [(j : Int)] _ rfl (by simp [maxLen]) zb) (by omega) (by simp; omega) ?_
                     intro v1 w9 o9 gw9 hat9)
        have OX : Hid (Owns w9 w.heap.size v1 (q + 1) (l0 ++ ups (k + 1))) := Lib.hid (by rw [← UE.out]; exact o9)
        have BX := Lib.hid ((HB.out.alloc HBS _).grown gw9 (by simp; omega) fun g hg => (HO.out.lt g hg).1)
        clear o9 gw9 hat9 HO HB HBS UE
        go_wp2_with fail
        go_roundw
        case rel => exact ⟨k + 1, q + 1, j + 1, by go_num, HJ2, HQ2, HK2, OX, BX⟩
        case measure => simp [intOf]; omega
      · obtain rfl : k = m := by have := HJ.out; have := HK.out; omega
        have g9 : decide (j ≤ k) = false := decide_eq_false hlt
        have hx := NB.out.2.2
        have hk := NB.out.2.1
        have u1 : IntKind.u8.wrap (k : Int) = (k : Int) := by rw [IntKind.wrap_u8]; omega
        have u2 : IntKind.u8.wrap x = x := by rw [IntKind.wrap_u8]; omega
        have zb : Bytes [(k : Int), x] := fun z hz => by simp at hz; omega
        have QE : Hid (q = n0 + k) := HQ
        generalize wr = wo at *
        clear HQ HJ HK hlt
        go_wp2_with (at_builtin
                     refine wpList_append_bytes rfl (.tmp 51) (.tmp 56) rfl w.heap.size _ q _ rfl (HO.out.alloc _) _ _ 2 2 [(k : Int), x] rfl (Holds.lit wo [(k : Int), x] _ rfl (by simp [maxLen]) zb) (by omega) (by simp; omega) ?_
                     intro v2 w2 o2 gw2 hat2)
        have BX := Lib.hid ((HB.out.alloc HBS _).grown gw2 (by simp; omega) fun g hg => (HO.out.lt g hg).1)
        obtain ⟨A2, c2, rfl, h2⟩ := o2.slice
        have O2 := Lib.hid o2
        have OR := open_row l0 k x
        have C := Lib.hid (open_u A2 (q + 2) c2 _ w2 w2.heap.size h2 (Nat.le_refl _) (by omega))
        rw [OR.1, OR.2.1, OR.2.2] at C
        unfold Ans3 at C
        rw [HL.out] at C
        replace H0 := Lib.hid ((H0.out.below BX.out).more BX.out.size)
        clear o2 gw2 hat2 HO HB HBS h2 OR u1 u2 zb
        go_wp2_with fail
        refine C.out.mono ?_
        rintro e w3 ⟨A3, c3, rfl, h3, hb⟩
        have B3 := Lib.hid (BX.out.trans (hb.mono BX.out.size))
        have O3 := Lib.hid (O2.out.below hb (Nat.le_refl _))
        replace H0 := Lib.hid ((H0.out.below hb).more hb.size)
        have s3 := run_string_bytes h3
        have s0 := run_string_bytes H0.out
        generalize strOfNums l0 = t0 at *
        clear hb C BX O2 h3
        go_wp2_with fail
        refine (awake_any w3).mono ?_
        rintro e wz ⟨rfl, hb⟩
        have BZ := Lib.hid (B3.out.trans (hb.mono B3.out.size))
        clear hb
        go_wp2_with fail
        go_ret
        exact ⟨rfl, BZ.out⟩
  · have y0 : decide (a < 0) = false := decide_eq_false (by omega)
    have y1 : decide ((m : Int) ≤ a) = true := decide_eq_true (by omega)
    clear q4
    have H0 := Lib.hid h0
    have HL := Lib.hid h0.1
    have NB : Hid (n0 ≤ 3000 ∧ m ≤ 255 ∧ 0 ≤ x ∧ x ≤ 255) := Lib.hid ⟨q, q1, q2, q3⟩
    have g0 : decide ((3000 : Int) < (n0 : Int)) = false := decide_eq_false (by omega)
    have g1 : decide ((m : Int) < 0) = false := decide_eq_false (by omega)
    have g2 : decide (255 < (m : Int)) = false := decide_eq_false (by omega)
    have g3 : decide (x < 0) = false := decide_eq_false (by omega)
    have g4 : decide (255 < x) = false := decide_eq_false (by omega)
    have XM := m0
    clear h0 m0 q q1 q2 q3 XM
    go_enter Try.func5, Try.ntmps5
    go_wp2_with fail
    refine (both_one A0 n0 c0 l0 w w.heap.size H0.out (Nat.le_refl _) (by have := NB.out; omega) _ rfl _ rfl).mono ?_
    rintro e w1 ⟨A1, c1, rfl, _, oo, hb⟩
    have O1 : Hid (Owns w1 w.heap.size (.slice A1 n0 c1) n0 (l0 ++ ups 0)) := Lib.hid (by simpa [ups] using oo)
    have B1 := Lib.hid hb
    clear hb oo
    go_wp2_with fail
    go_loopw [11, 12] (fun ov kv wr => ∃ k q j : Nat, kv = .int .i64 (j : Int) ∧ Hid (j = k + 1) ∧ Hid (q = n0 + k) ∧ Hid (k ≤ m) ∧ Hid (Owns wr w.heap.size ov q (l0 ++ ups k)) ∧ Hid (Below w.heap.size w wr)) (fun _ kv _ => m + 1 - (intOf kv).toNat)
    case atStart => exact ⟨0, n0, 1, rfl, Lib.hid rfl, Lib.hid rfl, Lib.hid (Nat.zero_le _), O1, B1⟩
    case round =>
      obtain ⟨k, q, j, rfl, HJ, HQ, HK, HO, HB⟩ := hrel
      clear O1 B1
      obtain ⟨Av, cv, rfl, _⟩ := HO.out.slice
      have qb : q ≤ 65540 := by have := HQ.out; have := HK.out; have := NB.out; omega
      have jb : j ≤ 256 := by have := HJ.out; have := HK.out; have := NB.out; omega
      have HBS := HB.out.size
      by_cases hlt : j ≤ m
      · have f2 : IntKind.i64.wrap ((j : Int) + 1) = (j : Int) + 1 := IntWalk.i64_in _ (by omega)
        have mb := NB.out.2.1
        have u1 : IntKind.u8.wrap (j : Int) = (j : Int) := by rw [IntKind.wrap_u8]; omega
        have HQ2 : Hid (q + 1 = n0 + (k + 1)) := Lib.hid (by have := HQ.out; omega)
        have HJ2 : Hid (j + 1 = (k + 1) + 1) := Lib.hid (by have := HJ.out; omega)
        have HK2 : Hid (k + 1 ≤ m) := Lib.hid (by have := HJ.out; omega)
        have zb : Bytes [(j : Int)] := fun z hz => by simp at hz; omega
        have UE : Hid (l0 ++ ups k ++ [(j : Int)] = l0 ++ ups (k + 1)) := Lib.hid (by rw [ups_next, ← List.append_assoc, HJ.out]; rfl)
        have g9 : decide ((j : Int) ≤ (m : Int)) = true := decide_eq_true (by omega)
        clear HQ HJ HK
        go_wp2_with (at_builtin
                     refine wpList_append_bytes rfl (.tmp 46) (.tmp 49) rfl w.heap.size _ q _ rfl (HO.out.alloc _) _ _ 1 1 [(j : Int)] rfl (Holds.lit wr [(j : Int)] _ rfl (by simp [maxLen]) zb) (by omega) (by simp; omega) ?_
                     intro v1 w9 o9 gw9 hat9)
        have OX : Hid (Owns w9 w.heap.size v1 (q + 1) (l0 ++ ups (k + 1))) := Lib.hid (by rw [← UE.out]; exact o9)
        have BX := Lib.hid ((HB.out.alloc HBS _).grown gw9 (by simp; omega) fun g hg => (HO.out.lt g hg).1)
        clear o9 gw9 hat9 HO HB HBS UE
        go_wp2_with fail
        go_roundw
        case rel => exact ⟨k + 1, q + 1, j + 1, by go_num, HJ2, HQ2, HK2, OX, BX⟩
        case measure => simp [intOf]; omega
      · obtain rfl : k = m := by have := HJ.out; have := HK.out; omega
        have g9 : decide (j ≤ k) = false := decide_eq_false hlt
        have hx := NB.out.2.2
        have hk := NB.out.2.1
        have u1 : IntKind.u8.wrap (k : Int) = (k : Int) := by rw [IntKind.wrap_u8]; omega
        have u2 : IntKind.u8.wrap x = x := by rw [IntKind.wrap_u8]; omega
        have zb : Bytes [(k : Int), x] := fun z hz => by simp at hz; omega
        have QE : Hid (q = n0 + k) := HQ
        generalize wr = wo at *
        clear HQ HJ HK hlt
        go_wp2_with (at_builtin
                     refine wpList_append_bytes rfl (.tmp 51) (.tmp 56) rfl w.heap.size _ q _ rfl (HO.out.alloc _) _ _ 2 2 [(k : Int), x] rfl (Holds.lit wo [(k : Int), x] _ rfl (by simp [maxLen]) zb) (by omega) (by simp; omega) ?_
                     intro v2 w2 o2 gw2 hat2)
        have BX := Lib.hid ((HB.out.alloc HBS _).grown gw2 (by simp; omega) fun g hg => (HO.out.lt g hg).1)
        obtain ⟨A2, c2, rfl, h2⟩ := o2.slice
        have O2 := Lib.hid o2
        have OR := open_row l0 k x
        have C := Lib.hid (open_u A2 (q + 2) c2 _ w2 w2.heap.size h2 (Nat.le_refl _) (by omega))
        rw [OR.1, OR.2.1, OR.2.2] at C
        unfold Ans3 at C
        rw [HL.out] at C
        replace H0 := Lib.hid ((H0.out.below BX.out).more BX.out.size)
        clear o2 gw2 hat2 HO HB HBS h2 OR u1 u2 zb
        go_wp2_with fail
        refine C.out.mono ?_
        rintro e w3 ⟨A3, c3, rfl, h3, hb⟩
        have B3 := Lib.hid (BX.out.trans (hb.mono BX.out.size))
        have O3 := Lib.hid (O2.out.below hb (Nat.le_refl _))
        replace H0 := Lib.hid ((H0.out.below hb).more hb.size)
        have s3 := run_string_bytes h3
        have s0 := run_string_bytes H0.out
        generalize strOfNums l0 = t0 at *
        clear hb C BX O2 h3
        go_wp2_with fail
        refine (awake_any w3).mono ?_
        rintro e wz ⟨rfl, hb⟩
        have BZ := Lib.hid (B3.out.trans (hb.mono B3.out.size))
        clear hb
        go_wp2_with fail
        go_ret
        exact ⟨rfl, BZ.out⟩

set_option maxHeartbeats 4000000 in
set_option maxRecDepth 100000 in
theorem main (A0 : Option Addr) (n0 c0 : Nat) (l0 : List Int) (m k0 : Nat) (x c : Int) (w : World) (h0 : Holds w w.heap.size A0 n0 c0 l0) (m0 : n0 ≤ 140737488355328) (q : n0 ≤ 3000) (q1 : m ≤ 255) (q2 : 0 ≤ x) (q3 : x ≤ 255) (q4 : k0 < m) (q5 : 0 ≤ c ∧ c ≤ 255) :
    Calls Try.prog 5 #[.slice A0 n0 c0, .int .i64 (m : Int), .int .i64 x, .int .i64 (k0 : Int), .int .u8 c] w fun e w' => e = .returned (.bool true) ∧ Below w.heap.size w w' := by
  have HA : Hid (k0 < m ∧ 0 ≤ c ∧ c ≤ 255) := Lib.hid ⟨q4, q5⟩
  have y0 : decide ((k0 : Int) < 0) = false := decide_eq_false (by omega)
  have y1 : decide ((m : Int) ≤ (k0 : Int)) = false := decide_eq_false (by omega)
  have y2 : decide (m ≤ k0) = false := decide_eq_false (by omega)
  clear q4 q5
  have H0 := Lib.hid h0
  have HL := Lib.hid h0.1
  have NB : Hid (n0 ≤ 3000 ∧ m ≤ 255 ∧ 0 ≤ x ∧ x ≤ 255) := Lib.hid ⟨q, q1, q2, q3⟩
  have g0 : decide ((3000 : Int) < (n0 : Int)) = false := decide_eq_false (by omega)
  have g1 : decide ((m : Int) < 0) = false := decide_eq_false (by omega)
  have g2 : decide (255 < (m : Int)) = false := decide_eq_false (by omega)
  have g3 : decide (x < 0) = false := decide_eq_false (by omega)
  have g4 : decide (255 < x) = false := decide_eq_false (by omega)
  have XM := m0
  clear h0 m0 q q1 q2 q3 XM
  go_enter Try.func5, Try.ntmps5
  go_wp2_with fail
  refine (both_one A0 n0 c0 l0 w w.heap.size H0.out (Nat.le_refl _) (by have := NB.out; omega) _ rfl _ rfl).mono ?_
  rintro e w1 ⟨A1, c1, rfl, _, oo, hb⟩
  have O1 : Hid (Owns w1 w.heap.size (.slice A1 n0 c1) n0 (l0 ++ ups 0)) := Lib.hid (by simpa [ups] using oo)
  have B1 := Lib.hid hb
  clear hb oo
  go_wp2_with fail
  go_loopw [11, 12] (fun ov kv wr => ∃ k q j : Nat, kv = .int .i64 (j : Int) ∧ Hid (j = k + 1) ∧ Hid (q = n0 + k) ∧ Hid (k ≤ m) ∧ Hid (Owns wr w.heap.size ov q (l0 ++ ups k)) ∧ Hid (Below w.heap.size w wr)) (fun _ kv _ => m + 1 - (intOf kv).toNat)
  case atStart => exact ⟨0, n0, 1, rfl, Lib.hid rfl, Lib.hid rfl, Lib.hid (Nat.zero_le _), O1, B1⟩
  case round =>
    obtain ⟨k, q, j, rfl, HJ, HQ, HK, HO, HB⟩ := hrel
    clear O1 B1
    obtain ⟨Av, cv, rfl, _⟩ := HO.out.slice
    have qb : q ≤ 65540 := by have := HQ.out; have := HK.out; have := NB.out; omega
    have jb : j ≤ 256 := by have := HJ.out; have := HK.out; have := NB.out; omega
    have HBS := HB.out.size
    by_cases hlt : j ≤ m
    · have f2 : IntKind.i64.wrap ((j : Int) + 1) = (j : Int) + 1 := IntWalk.i64_in _ (by omega)
      have mb := NB.out.2.1
      have u1 : IntKind.u8.wrap (j : Int) = (j : Int) := by rw [IntKind.wrap_u8]; omega
      have HQ2 : Hid (q + 1 = n0 + (k + 1)) := Lib.hid (by have := HQ.out; omega)
      have HJ2 : Hid (j + 1 = (k + 1) + 1) := Lib.hid (by have := HJ.out; omega)
      have HK2 : Hid (k + 1 ≤ m) := Lib.hid (by have := HJ.out; omega)
      have zb : Bytes [(j : Int)] := fun z hz => by simp at hz; omega
      have UE : Hid (l0 ++ ups k ++ [(j : Int)] = l0 ++ ups (k + 1)) := Lib.hid (by rw [ups_next, ← List.append_assoc, HJ.out]; rfl)
      have g9 : decide ((j : Int) ≤ (m : Int)) = true := decide_eq_true (by omega)
      clear HQ HJ HK
      go_wp2_with (at_builtin
                   refine wpList_append_bytes rfl (.tmp 46) (.tmp 49) rfl w.heap.size _ q _ rfl (HO.out.alloc _) _ _ 1 1 [(j : Int)] rfl (Holds.lit wr [(j : Int)] _ rfl (by simp [maxLen]) zb) (by omega) (by simp; omega) ?_
                   intro v1 w9 o9 gw9 hat9)
      have OX : Hid (Owns w9 w.heap.size v1 (q + 1) (l0 ++ ups (k + 1))) := Lib.hid (by rw [← UE.out]; exact o9)
      have BX := Lib.hid ((HB.out.alloc HBS _).grown gw9 (by simp; omega) fun g hg => (HO.out.lt g hg).1)
      clear o9 gw9 hat9 HO HB HBS UE
      go_wp2_with fail
      go_roundw
      case rel => exact ⟨k + 1, q + 1, j + 1, by go_num, HJ2, HQ2, HK2, OX, BX⟩
      case measure => simp [intOf]; omega
    · obtain rfl : k = m := by have := HJ.out; have := HK.out; omega
      have g9 : decide (j ≤ k) = false := decide_eq_false hlt
      have hx := NB.out.2.2
      have hk := NB.out.2.1
      have u1 : IntKind.u8.wrap (k : Int) = (k : Int) := by rw [IntKind.wrap_u8]; omega
      have u2 : IntKind.u8.wrap x = x := by rw [IntKind.wrap_u8]; omega
      have zb : Bytes [(k : Int), x] := fun z hz => by simp at hz; omega
      have QE : Hid (q = n0 + k) := HQ
      generalize wr = wo at *
      clear HQ HJ HK hlt
      go_wp2_with (at_builtin
                   refine wpList_append_bytes rfl (.tmp 51) (.tmp 56) rfl w.heap.size _ q _ rfl (HO.out.alloc _) _ _ 2 2 [(k : Int), x] rfl (Holds.lit wo [(k : Int), x] _ rfl (by simp [maxLen]) zb) (by omega) (by simp; omega) ?_
                   intro v2 w2 o2 gw2 hat2)
      have BX := Lib.hid ((HB.out.alloc HBS _).grown gw2 (by simp; omega) fun g hg => (HO.out.lt g hg).1)
      obtain ⟨A2, c2, rfl, h2⟩ := o2.slice
      have O2 := Lib.hid o2
      have OR := open_row l0 k x
      have C := Lib.hid (open_u A2 (q + 2) c2 _ w2 w2.heap.size h2 (Nat.le_refl _) (by omega))
      rw [OR.1, OR.2.1, OR.2.2] at C
      unfold Ans3 at C
      rw [HL.out] at C
      replace H0 := Lib.hid ((H0.out.below BX.out).more BX.out.size)
      clear o2 gw2 hat2 HO HB HBS h2 OR u1 u2 zb
      go_wp2_with fail
      refine C.out.mono ?_
      rintro e w3 ⟨A3, c3, rfl, h3, hb⟩
      have B3 := Lib.hid (BX.out.trans (hb.mono BX.out.size))
      have O3 := Lib.hid (O2.out.below hb (Nat.le_refl _))
      replace H0 := Lib.hid ((H0.out.below hb).more hb.size)
      have s3 := run_string_bytes h3
      have s0 := run_string_bytes H0.out
      generalize strOfNums l0 = t0 at *
      clear hb C BX O2 h3
      obtain ⟨p, hp⟩ : ∃ p, p = n0 + k0 := ⟨_, rfl⟩
      have ha := HA.out
      have hn0 := NB.out.1
      have f5 : IntKind.i64.wrap ((n0 : Int) + (k0 : Int)) = (p : Int) := by rw [IntWalk.i64_in _ (by omega)]; omega
      obtain ⟨g, rfl, hg1, hg2⟩ := O3.out.form (by omega)
      have pq : p < q + 2 := by have := QE.out; omega
      have cp := O3.out.cell (j := p) (z := ((k0 : Int) + 1)) (by
        have := (row_at l0 k x).2.2.2 k0 ha.1
        rw [HL.out, ← hp] at this
        have hl : p < (l0 ++ ups k ++ [(k : Int), x]).length := by rw [O3.out.1]; exact pq
        rw [List.getD_eq_getElem?_getD, List.getElem?_eq_getElem hl] at this
        rw [List.getElem?_eq_getElem hl]
        exact congrArg some this)
      have hcb := ha.2
      by_cases hc : (k0 : Int) + 1 = c
      · have g10 : ((k0 : Int) + 1 == c) = true := by rw [beq_iff_eq]; exact hc
        clear O3 hc hg1 hg2 HA ha hp QE H0 HL
        go_wp2_with fail
        refine (awake_any w3).mono ?_
        rintro e wz ⟨rfl, hb⟩
        have BZ := Lib.hid (B3.out.trans (hb.mono B3.out.size))
        clear hb
        go_wp2_with fail
        go_ret
        exact ⟨rfl, BZ.out⟩
      · have g10 : ((k0 : Int) + 1 == c) = false := by rw [beq_eq_false_iff_ne]; exact hc
        have fz := O3.out.free p pq
        have O4 := Lib.hid (O3.out.set p c hcb.1 hcb.2)
        have B4 := Lib.hid (B3.out.setCell (p := ⟨g, p, none⟩) hg1 (.int .u8 c))
        have OB := open_bad l0 k k0 x c ha.1 (fun e => hc e.symm)
        rw [HL.out, ← hp] at OB
        have C4 := Lib.hid (open_u _ (q + 2) c2 _ _ _ O4.out.holds (Nat.le_refl _) (by omega))
        rw [OB.1, OB.2.1, OB.2.2] at C4
        clear O3 O4 OB hc hg1 hg2 HA ha hp QE H0 HL
        go_wp2_with fail
        generalize w3.setCell ⟨g, p, none⟩ (.int .u8 c) = w4 at *
        clear cp fz
        refine C4.out.mono ?_
        rintro e w5 ⟨A5, c5, rfl, h5, hb⟩
        have B5 := Lib.hid (B4.out.trans (hb.mono B4.out.size))
        clear hb C4 h5
        rw [show ([] : List Int).length = 0 from rfl]
        go_wp2_with fail
        refine (awake_any w5).mono ?_
        rintro e wz ⟨rfl, hb⟩
        have BZ := Lib.hid (B5.out.trans (hb.mono B5.out.size))
        clear hb
        go_wp2_with fail
        go_ret
        exact ⟨rfl, BZ.out⟩

theorem long_any (A0 : Option Addr) (n0 c0 : Nat) (l0 : List Int) (m x a c : Int) (w : World) (h0 : Holds w w.heap.size A0 n0 c0 l0) (m0 : n0 ≤ 140737488355328) (hc : 0 ≤ c ∧ c ≤ 255) :
    Calls Try.prog 5 #[.slice A0 n0 c0, .int .i64 m, .int .i64 x, .int .i64 a, .int .u8 c] w fun e w' => e = .returned (.bool true) ∧ Below w.heap.size w w' := by
  by_cases q : (3000 < n0) ∨ (n0 ≤ 3000 ∧ m < 0) ∨ (n0 ≤ 3000 ∧ 255 < m) ∨ (n0 ≤ 3000 ∧ 0 ≤ m ∧ m ≤ 255 ∧ x < 0) ∨ (n0 ≤ 3000 ∧ 0 ≤ m ∧ m ≤ 255 ∧ 255 < x)
  · exact big A0 n0 c0 l0 m x a c w h0 m0 q
  · obtain ⟨m, rfl⟩ : ∃ k : Nat, m = (k : Int) := ⟨m.toNat, by omega⟩
    by_cases q1 : a < 0 ∨ (m : Int) ≤ a
    · exact away A0 n0 c0 l0 m x a c w h0 m0 (by omega) (by omega) (by omega) (by omega) q1
    · obtain ⟨k, rfl⟩ : ∃ k : Nat, a = (k : Int) := ⟨a.toNat, by omega⟩
      exact main A0 n0 c0 l0 m k x c w h0 m0 (by omega) (by omega) (by omega) (by omega) (by omega) hc
end Go.Proofs.Ytedojbhebbdagaa.LawLong
