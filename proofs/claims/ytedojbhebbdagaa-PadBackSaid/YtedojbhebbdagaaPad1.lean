/- The contracts of the code's padding, Length, Seal. -/
import Derived.Test.YtedojbhebbdagaaPadR
import Derived.Test.YtedojbhebbdagaaInts
set_option linter.unusedVariables false
namespace Go.Proofs.Ytedojbhebbdagaa.Pad1
open Go.RowKit Go.Proofs.Ytedojbhebbdagaa.Sums Go.Proofs.Ytedojbhebbdagaa.Mem Go.Proofs.Ytedojbhebbdagaa.Blk Go.Proofs.Ytedojbhebbdagaa.Ints Go.Proofs.Ytedojbhebbdagaa.PadR

theorem padding_no (m : Nat) (hm : m ≤ 2000000) (w : World) : Calls Try.prog 15 #[.int .i64 (m : Int)] w fun e w' => e = .returned (.int .i64 ((cnt m : Nat) : Int)) ∧ w = w' := by
  have f1 : IntKind.i64.wrap ((m : Int) + 2) = (m : Int) + 2 := IntWalk.i64_in _ (by omega)
  obtain ⟨r, hr⟩ : ∃ r, r = (m + 2) % 4 := ⟨_, rfl⟩
  have f2 : ((m : Int) + 2).tmod 4 = (r : Int) := by rw [Int.tmod_eq_emod_of_nonneg (by omega)]; omega
  obtain ⟨s, hs⟩ : ∃ s, s = 4 - r := ⟨_, rfl⟩
  have f3 : IntKind.i64.wrap (4 - (r : Int)) = (s : Int) := by rw [IntWalk.i64_in _ (by omega)]; omega
  have f4 : (s : Int).tmod 4 = ((cnt m : Nat) : Int) := by rw [Int.tmod_eq_emod_of_nonneg (by omega)]; unfold cnt long; omega
  generalize cnt m = k at *
  clear hr hs
  go_enter Try.func15, Try.ntmps15
  go_wp2_with fail
  go_ret
  exact ⟨rfl, rfl⟩

theorem length_no (n : Int) (hn : n ≤ 2000000) (w : World) : Calls Try.prog 13 #[.int .i64 n] w fun e w' => e = .returned (.int .i64 ((lengthI n : Nat) : Int)) ∧ w = w' := by
  by_cases h : n < 0
  · have E : Hid (lengthI n = 0) := Lib.hid (if_pos h)
    have g : decide (n < 0) = true := decide_eq_true h
    go_enter Try.func13, Try.ntmps13
    go_wp2_with fail
    go_ret
    exact ⟨by rw [E.out]; rfl, rfl⟩
  · obtain ⟨m, rfl⟩ : ∃ m : Nat, n = (m : Int) := ⟨n.toNat, by omega⟩
    have E : Hid (lengthI (m : Int) = m + cnt m + 2) := Lib.hid (by
      unfold lengthI
      rw [if_neg h, Int.toNat_natCast, cnt_long m])
    have g : decide ((m : Int) < 0) = false := decide_eq_false h
    have C := Lib.hid (padding_no m (by omega) w)
    have hc := cnt_lt m
    generalize cnt m = k at *
    obtain ⟨a, ha⟩ : ∃ a, a = m + k := ⟨_, rfl⟩
    have f1 : IntKind.i64.wrap ((m : Int) + (k : Int)) = (a : Int) := by rw [IntWalk.i64_in _ (by omega)]; omega
    have f2 : IntKind.i64.wrap ((a : Int) + 2) = (a : Int) + 2 := IntWalk.i64_in _ (by omega)
    have AE := Lib.hid ha
    clear ha h
    go_enter Try.func13, Try.ntmps13
    go_wp2_with fail
    refine C.out.mono ?_
    rintro e w' ⟨rfl, rfl⟩
    go_wp2_with fail
    go_ret
    exact ⟨by rw [E.out, ← AE.out]; rfl, rfl⟩

theorem make_cap (n : Nat) (hn : n ≤ 1048576) (w : World) :
    (Instr.makeSlice 22 (.int .i64 0) (.int .i64 (n : Int))).run Try.prog w = .ok (.slice (some ⟨w.heap.size, 0, none⟩) 0 n) (w.alloc (.cells (bcells (List.replicate n 0)) 5)) := by
  obtain ⟨i, hi, hz, hsz, hby⟩ := info_parts byte_info
  have hr := run_make (P := Try.prog) w 22 5 i (.int .u8 0) Try.underlying22 hi hz .i64 .i64 0 (n : Int) (by omega) (by omega) (by rw [hby]; omega) (by omega)
  rw [Int.toNat_natCast, hsz, Nat.mul_one] at hr
  rw [← made_b]
  exact hr
theorem owns_cap (w : World) (base n : Nat) (hb : base ≤ w.heap.size) (hn : n ≤ 1048576) : Owns (w.alloc (.cells (bcells (List.replicate n 0)) 5)) base (.slice (some ⟨w.heap.size, 0, none⟩) 0 n) 0 [] :=
  ⟨rfl, fun _ h => (by cases h), .inr ⟨w.heap.size, n, bcells (List.replicate n 0), (0, 0), rfl, hb, heap_alloc_new w _, .inl rfl, Nat.zero_le _, by simp only [maxLen]; omega, by simp [bcells], by simp⟩⟩

theorem seal_arg_no (A : Option Addr) (n c : Nat) (x : Int) (w : World) (h : x < 0 ∨ 255 < x) : Calls Try.prog 8 #[.slice A n c, .int .i64 x] w fun e w' => e = .returned (.tuple #[.slice none 0 0, .int .i64 1]) ∧ w = w' := by
  go_enter Try.func8, Try.ntmps8
  rcases h with h | h
  · have g : decide (x < 0) = true := decide_eq_true h
    go_wp2_with fail
    go_ret2
    exact ⟨rfl, rfl⟩
  · have g : decide (x < 0) = false := decide_eq_false (by omega)
    have g2 : decide (255 < x) = true := decide_eq_true h
    go_wp2_with fail
    go_ret2
    exact ⟨rfl, rfl⟩
theorem seal_long_no (A : Option Addr) (n c : Nat) (x : Int) (w : World) (h0 : 0 ≤ x) (h1 : x ≤ 255) (hn : 65535 < n) (h3 : n ≤ 140737488355328) : Calls Try.prog 8 #[.slice A n c, .int .i64 x] w fun e w' => e = .returned (.tuple #[.slice none 0 0, .int .i64 2]) ∧ w = w' := by
  have g : decide (x < 0) = false := decide_eq_false (by omega)
  have g2 : decide (255 < x) = false := decide_eq_false (by omega)
  have g3 : decide ((65535 : Int) < (n : Int)) = true := decide_eq_true (by omega)
  go_enter Try.func8, Try.ntmps8
  go_wp2_with fail
  go_ret2
  exact ⟨rfl, rfl⟩

set_option maxHeartbeats 1000000 in
theorem seal_no (A : Option Addr) (n c : Nat) (l : List Int) (x : Int) (w : World) (B : Nat) (h : Holds w B A n c l) (hB : B ≤ w.heap.size) (h0 : 0 ≤ x) (h1 : x ≤ 255) (hn : n ≤ 65535) :
    Calls Try.prog 8 #[.slice A n c, .int .i64 x] w fun e w' => ∃ v, e = .returned (.tuple #[v, .int .i64 0]) ∧ Owns w' w.heap.size v (long n) (sealed l x) ∧ Below w.heap.size w w' := by
  have H := Lib.hid h
  have g : decide (x < 0) = false := decide_eq_false (by omega)
  have g2 : decide (255 < x) = false := decide_eq_false (by omega)
  have g3 : decide ((65535 : Int) < (n : Int)) = false := decide_eq_false (by omega)
  have CL := Lib.hid (cnt_lt n)
  have LL := Lib.hid (cnt_long n)
  have SE : Hid (sealed l x = l ++ ups (cnt n) ++ [(cnt n : Int), x]) := Lib.hid (by unfold sealed; rw [h.1])
  have C := Lib.hid (padding_no n (by omega) w)
  have CLn := Lib.hid (length_no (n : Int) (by omega) w)
  have LI : lengthI (n : Int) = long n := by unfold lengthI; rw [if_neg (by omega), Int.toNat_natCast]
  rw [LI] at CLn
  clear LI h
  obtain ⟨m, hm⟩ : ∃ m, m = cnt n := ⟨_, rfl⟩
  obtain ⟨L, hL⟩ : ∃ L, L = long n := ⟨_, rfl⟩
  rw [← hm] at CL LL SE C
  rw [← hL] at LL CLn ⊢
  have lb : L ≤ 70000 := by have := LL.out; have := CL.out; omega
  have mb : m ≤ 3 := by have := CL.out; omega
  clear hm hL
  have mk : (Instr.makeSlice 22 (.int .i64 0) (.int .i64 (L : Int))).run Try.prog w = .ok (.slice (some ⟨w.heap.size, 0, none⟩) 0 L) (w.alloc (.cells (bcells (List.replicate L 0)) 5)) := make_cap L (by omega) w
  have O0 := Lib.hid (owns_cap w w.heap.size L (Nat.le_refl _) (by omega))
  obtain ⟨Z, hZ⟩ : ∃ Z, Z = List.replicate L 0 := ⟨_, rfl⟩
  rw [← hZ] at mk O0
  have B0 := Lib.hid ((Below.refl w.heap.size w).alloc (Nat.le_refl _) (.cells (bcells Z) 5))
  have HS : Hid (0 + n ≤ 1048576) := Lib.hid (by omega)
  clear hZ
  go_enter Try.func8, Try.ntmps8
  go_wp2_with fail
  refine C.out.mono ?_
  rintro e w' ⟨rfl, rfl⟩
  go_wp2_with fail
  refine CLn.out.mono ?_
  rintro e w' ⟨rfl, rfl⟩
  go_wp2_with (at_builtin
               refine wpList_append_bytes rfl (.tmp 24) (.tmp 25) rfl w.heap.size _ 0 [] rfl O0.out B A n c l rfl (H.out.below (B0.out.mono hB)) HS.out B0.out.size ?_
               intro v1 w1 o1 q1 _
               have b1 := Lib.hid (B0.out.grown q1 B0.out.size fun k hk => (O0.out.lt k hk).1)
               have OS : Hid (Owns w1 w.heap.size v1 (n + 0) (l ++ ups 0)) := Lib.hid (by simpa [ups] using o1)
               clear o1 q1)
  clear mk O0 B0 C CLn H
  go_loopw [7, 28] (fun ov kv wr => ∃ k q : Nat, kv = .int .i64 (k : Int) ∧ Hid (q = n + k) ∧ k ≤ m ∧ Hid (Owns wr w.heap.size ov q (l ++ ups k)) ∧ Hid (Below w.heap.size w wr)) (fun _ kv _ => m - (intOf kv).toNat)
  case atStart => exact ⟨0, n, rfl, Lib.hid rfl, Nat.zero_le _, OS, b1⟩
  case round =>
    obtain ⟨k, q, rfl, HQ, hk, HO, HB⟩ := hrel
    clear OS b1
    obtain ⟨Av, cv, rfl, _⟩ := HO.out.slice
    have qb : q ≤ 65540 := by have := HQ.out; omega
    have HBS := HB.out.size
    by_cases hlt : k < m
    · have f2 : IntKind.i64.wrap ((k : Int) + 1) = (k : Int) + 1 := IntWalk.i64_in _ (by omega)
      have u1 : IntKind.u8.wrap ((k : Int) + 1) = (k : Int) + 1 := by rw [IntKind.wrap_u8]; omega
      have HQ2 : Hid (q + 1 = n + (k + 1)) := Lib.hid (by have := HQ.out; omega)
      have zb : Bytes [(k : Int) + 1] := fun z hz => by simp at hz; omega
      clear HQ
      go_wp2_with (at_builtin
                   refine wpList_append_bytes rfl (.tmp 31) (.tmp 35) rfl w.heap.size _ q _ rfl (HO.out.alloc _) _ _ 1 1 [(k : Int) + 1] rfl (Holds.lit wr [(k : Int) + 1] _ rfl (by simp [maxLen]) zb) (by omega) (by simp; omega) ?_
                   intro v1 w9 o9 g9 hat9)
      have OX : Hid (Owns w9 w.heap.size v1 (q + 1) (l ++ ups (k + 1))) := Lib.hid (by rw [ups_next, ← List.append_assoc]; exact o9)
      have BX := Lib.hid ((HB.out.alloc HBS _).grown g9 (by simp; omega) fun g hg => (HO.out.lt g hg).1)
      clear o9 g9 hat9 HO HB HBS
      go_roundw
      case rel => exact ⟨k + 1, q + 1, by go_num, HQ2, by omega, OX, BX⟩
      case measure => simp [intOf]; omega
    · obtain rfl : k = m := by omega
      have u1 : IntKind.u8.wrap (k : Int) = (k : Int) := by rw [IntKind.wrap_u8]; omega
      have u2 : IntKind.u8.wrap x = x := by rw [IntKind.wrap_u8]; omega
      have SE2 : Hid (l ++ ups k ++ [(k : Int), x] = sealed l x) := Lib.hid (by rw [SE.out])
      have QL : Hid (q + 2 = L) := Lib.hid (by have := HQ.out; have := LL.out; omega)
      have zb : Bytes [(k : Int), x] := fun z hz => by simp at hz; omega
      generalize wr = wo at *
      clear HQ SE hlt
      go_wp2_with (at_builtin
                   refine wpList_append_bytes rfl (.tmp 38) (.tmp 43) rfl w.heap.size _ q _ rfl (HO.out.alloc _) _ _ 2 2 [(k : Int), x] rfl (Holds.lit wo [(k : Int), x] _ rfl (by simp [maxLen]) zb) (by omega) (by simp; omega) ?_
                   intro v1 w9 o9 g9 hat9)
      rw [SE2.out, QL.out] at o9
      have OX := Lib.hid o9
      have BX := Lib.hid ((HB.out.alloc HBS _).grown g9 (by simp; omega) fun g hg => (HO.out.lt g hg).1)
      clear o9 g9 hat9 HO HB HBS
      go_wp2_with fail
      go_ret2
      exact ⟨_, rfl, OX.out, BX.out⟩
end Go.Proofs.Ytedojbhebbdagaa.Pad1
