/- The contracts of the code's padding, Length, Seal. -/
import Derived.Test.YtdnkbefpbehllaaDoorM07
import Derived.Test.YtdnkbefpbehllaaDoorM02
import Derived.Test.YtdnkbefpbehllaaDoorM11
import Derived.Test.YtdnkbefpbehllaaDoorM22
import Derived.Test.YtdnkbefpbehllaaDoorM19
import Derived.Test.YtdnkbefpbehllaaDoorM01
import Derived.BigQuiet
import Derived.Laws.Rows
set_option linter.unusedVariables false
namespace Go.Proofs.YtdnkbefpbehllaaDoor.Pad1
open Go.RowKit Go.Proofs.YtdnkbefpbehllaaDoor.Sums Go.Proofs.YtdnkbefpbehllaaDoor.Mem Go.Proofs.YtdnkbefpbehllaaDoor.Blk Go.Proofs.YtdnkbefpbehllaaDoor.Ints Go.Proofs.YtdnkbefpbehllaaDoor.PadR

theorem padding_no (m : Nat) (hm : m ≤ 2000000) (w : World) : Calls Tryd.prog 32 #[.int .i64 (m : Int)] w fun e w' => e = .returned (.int .i64 ((cnt m : Nat) : Int)) ∧ w = w' := by
  have f1 : IntKind.i64.wrap ((m : Int) + 2) = (m : Int) + 2 := IntWalk.i64_in _ (by omega)
  obtain ⟨r, hr⟩ : ∃ r, r = (m + 2) % 4 := ⟨_, rfl⟩
  have f2 : ((m : Int) + 2).tmod 4 = (r : Int) := by rw [Int.tmod_eq_emod_of_nonneg (by omega)]; omega
  obtain ⟨s, hs⟩ : ∃ s, s = 4 - r := ⟨_, rfl⟩
  have f3 : IntKind.i64.wrap (4 - (r : Int)) = (s : Int) := by rw [IntWalk.i64_in _ (by omega)]; omega
  have f4 : (s : Int).tmod 4 = ((cnt m : Nat) : Int) := by rw [Int.tmod_eq_emod_of_nonneg (by omega)]; unfold cnt long; omega
  generalize cnt m = k at *
  clear hr hs
  go_enter Tryd.func32, Tryd.ntmps32
  go_wp2_with fail
  go_ret
  exact ⟨rfl, rfl⟩

theorem length_no (n : Int) (hn : n ≤ 2000000) (w : World) : Calls Tryd.prog 29 #[.int .i64 n] w fun e w' => e = .returned (.int .i64 ((lengthI n : Nat) : Int)) ∧ w = w' := by
  by_cases h : n < 0
  · have E : Hid (lengthI n = 0) := Lib.hid (if_pos h)
    have g : decide (n < 0) = true := decide_eq_true h
    go_enter Tryd.func29, Tryd.ntmps29
    go_wp2_with fail
    go_ret
    exact ⟨by rw [E.out]; rfl, rfl⟩
  · obtain ⟨m, rfl⟩ : ∃ m : Nat, n = (m : Int) := ⟨n.toNat, by omega⟩
    have E : Hid (lengthI (m : Int) = m + cnt m + 2) := Lib.hid (by
      unfold lengthI
      rw [if_neg h, Int.toNat_natCast, cnt_long m])
    have g : decide ((m : Int) < 0) = false := decide_eq_false h
    have C := Lib.hid (padding_no m (by omega) w)
    have hc := cnt_lt m
    generalize cnt m = k at *
    obtain ⟨a, ha⟩ : ∃ a, a = m + k := ⟨_, rfl⟩
    have f1 : IntKind.i64.wrap ((m : Int) + (k : Int)) = (a : Int) := by rw [IntWalk.i64_in _ (by omega)]; omega
    have f2 : IntKind.i64.wrap ((a : Int) + 2) = (a : Int) + 2 := IntWalk.i64_in _ (by omega)
    have AE := Lib.hid ha
    clear ha h
    go_enter Tryd.func29, Tryd.ntmps29
    go_wp2_with fail
    refine C.out.mono ?_
    rintro e w' ⟨rfl, rfl⟩
    go_wp2_with fail
    go_ret
    exact ⟨by rw [E.out, ← AE.out]; rfl, rfl⟩

theorem make_cap (n : Nat) (hn : n ≤ 1048576) (w : World) :
    (Instr.makeSlice 25 (.int .i64 0) (.int .i64 (n : Int))).run Tryd.prog w = .ok (.slice (some ⟨w.heap.size, 0, none⟩) 0 n) (w.alloc (.cells (bcells (List.replicate n 0)) 5)) := by
  obtain ⟨i, hi, hz, hsz, hby⟩ := info_parts byte_info
  have hr := run_make (P := Tryd.prog) w 25 5 i (.int .u8 0) Tryd.underlying25 hi hz .i64 .i64 0 (n : Int) (by omega) (by omega) (by rw [hby]; omega) (by omega)
  rw [Int.toNat_natCast, hsz, Nat.mul_one] at hr
  rw [← made_b]
  exact hr
theorem owns_cap (w : World) (base n : Nat) (hb : base ≤ w.heap.size) (hn : n ≤ 1048576) : Owns (w.alloc (.cells (bcells (List.replicate n 0)) 5)) base (.slice (some ⟨w.heap.size, 0, none⟩) 0 n) 0 [] :=
  ⟨rfl, fun _ h => (by cases h), .inr ⟨w.heap.size, n, bcells (List.replicate n 0), (0, 0), rfl, hb, heap_alloc_new w _, .inl rfl, Nat.zero_le _, by simp only [maxLen]; omega, by simp [bcells], by simp⟩⟩

theorem seal_arg_no (A : Option Addr) (n c : Nat) (x : Int) (w : World) (h : x < 0 ∨ 255 < x) : Calls Tryd.prog 19 #[.slice A n c, .int .i64 x] w fun e w' => e = .returned (.tuple #[.slice none 0 0, .int .i64 1]) ∧ w = w' := by
  go_enter Tryd.func19, Tryd.ntmps19
  rcases h with h | h
  · have g : decide (x < 0) = true := decide_eq_true h
    go_wp2_with fail
    go_ret2
    exact ⟨rfl, rfl⟩
  · have g : decide (x < 0) = false := decide_eq_false (by omega)
    have g2 : decide (255 < x) = true := decide_eq_true h
    go_wp2_with fail
    go_ret2
    exact ⟨rfl, rfl⟩
theorem seal_long_no (A : Option Addr) (n c : Nat) (x : Int) (w : World) (h0 : 0 ≤ x) (h1 : x ≤ 255) (hn : 65535 < n) (h3 : n ≤ 140737488355328) : Calls Tryd.prog 19 #[.slice A n c, .int .i64 x] w fun e w' => e = .returned (.tuple #[.slice none 0 0, .int .i64 2]) ∧ w = w' := by
  have g : decide (x < 0) = false := decide_eq_false (by omega)
  have g2 : decide (255 < x) = false := decide_eq_false (by omega)
  have g3 : decide ((65535 : Int) < (n : Int)) = true := decide_eq_true (by omega)
  go_enter Tryd.func19, Tryd.ntmps19
  go_wp2_with fail
  go_ret2
  exact ⟨rfl, rfl⟩

set_option maxHeartbeats 1000000 in
theorem seal_no (A : Option Addr) (n c : Nat) (l : List Int) (x : Int) (w : World) (B : Nat) (h : Holds w B A n c l) (hB : B ≤ w.heap.size) (h0 : 0 ≤ x) (h1 : x ≤ 255) (hn : n ≤ 65535) :
    Calls Tryd.prog 19 #[.slice A n c, .int .i64 x] w fun e w' => ∃ v, e = .returned (.tuple #[v, .int .i64 0]) ∧ Owns w' w.heap.size v (long n) (sealed l x) ∧ Below w.heap.size w w' := by
  have H := Lib.hid h
  have g : decide (x < 0) = false := decide_eq_false (by omega)
  have g2 : decide (255 < x) = false := decide_eq_false (by omega)
  have g3 : decide ((65535 : Int) < (n : Int)) = false := decide_eq_false (by omega)
  have CL := Lib.hid (cnt_lt n)
  have LL := Lib.hid (cnt_long n)
  have SE : Hid (sealed l x = l ++ ups (cnt n) ++ [(cnt n : Int), x]) := Lib.hid (by unfold sealed; rw [h.1])
  have C := Lib.hid (padding_no n (by omega) w)
  have CLn := Lib.hid (length_no (n : Int) (by omega) w)
  have LI : lengthI (n : Int) = long n := by unfold lengthI; rw [if_neg (by omega), Int.toNat_natCast]
  rw [LI] at CLn
  clear LI h
  obtain ⟨m, hm⟩ : ∃ m, m = cnt n := ⟨_, rfl⟩
  obtain ⟨L, hL⟩ : ∃ L, L = long n := ⟨_, rfl⟩
  rw [← hm] at CL LL SE C
  rw [← hL] at LL CLn ⊢
  have lb : L ≤ 70000 := by have := LL.out; have := CL.out; omega
  have mb : m ≤ 3 := by have := CL.out; omega
  clear hm hL
  have mk : (Instr.makeSlice 25 (.int .i64 0) (.int .i64 (L : Int))).run Tryd.prog w = .ok (.slice (some ⟨w.heap.size, 0, none⟩) 0 L) (w.alloc (.cells (bcells (List.replicate L 0)) 5)) := make_cap L (by omega) w
  have O0 := Lib.hid (owns_cap w w.heap.size L (Nat.le_refl _) (by omega))
  obtain ⟨Z, hZ⟩ : ∃ Z, Z = List.replicate L 0 := ⟨_, rfl⟩
  rw [← hZ] at mk O0
  have B0 := Lib.hid ((Below.refl w.heap.size w).alloc (Nat.le_refl _) (.cells (bcells Z) 5))
  have HS : Hid (0 + n ≤ 1048576) := Lib.hid (by omega)
  clear hZ
  go_enter Tryd.func19, Tryd.ntmps19
  go_wp2_with fail
  refine C.out.mono ?_
  rintro e w' ⟨rfl, rfl⟩
  go_wp2_with fail
  refine CLn.out.mono ?_
  rintro e w' ⟨rfl, rfl⟩
  go_wp2_with (at_builtin
               refine wpList_append_bytes rfl (.tmp 24) (.tmp 25) rfl w.heap.size _ 0 [] rfl O0.out B A n c l rfl (H.out.below (B0.out.mono hB)) HS.out B0.out.size ?_
               intro v1 w1 o1 q1 _
               have b1 := Lib.hid (B0.out.grown q1 B0.out.size fun k hk => (O0.out.lt k hk).1)
               have OS : Hid (Owns w1 w.heap.size v1 (n + 0) (l ++ ups 0)) := Lib.hid (by simpa [ups] using o1)
               clear o1 q1)
  clear mk O0 B0 C CLn H
  go_loopw [7, 28] (fun ov kv wr => ∃ k q : Nat, kv = .int .i64 (k : Int) ∧ Hid (q = n + k) ∧ k ≤ m ∧ Hid (Owns wr w.heap.size ov q (l ++ ups k)) ∧ Hid (Below w.heap.size w wr)) (fun _ kv _ => m - (intOf kv).toNat)
  case atStart => exact ⟨0, n, rfl, Lib.hid rfl, Nat.zero_le _, OS, b1⟩
  case round =>
    obtain ⟨k, q, rfl, HQ, hk, HO, HB⟩ := hrel
    clear OS b1
    obtain ⟨Av, cv, rfl, _⟩ := HO.out.slice
    have qb : q ≤ 65540 := by have := HQ.out; omega
    have HBS := HB.out.size
    by_cases hlt : k < m
    · have f2 : IntKind.i64.wrap ((k : Int) + 1) = (k : Int) + 1 := IntWalk.i64_in _ (by omega)
      have u1 : IntKind.u8.wrap ((k : Int) + 1) = (k : Int) + 1 := by rw [IntKind.wrap_u8]; omega
      have HQ2 : Hid (q + 1 = n + (k + 1)) := Lib.hid (by have := HQ.out; omega)
      have zb : Bytes [(k : Int) + 1] := fun z hz => by simp at hz; omega
      clear HQ
      go_wp2_with (at_builtin
                   refine wpList_append_bytes rfl (.tmp 31) (.tmp 35) rfl w.heap.size _ q _ rfl (HO.out.alloc _) _ _ 1 1 [(k : Int) + 1] rfl (Holds.lit wr [(k : Int) + 1] _ rfl (by simp [maxLen]) zb) (by omega) (by simp; omega) ?_
                   intro v1 w9 o9 g9 hat9)
      have OX : Hid (Owns w9 w.heap.size v1 (q + 1) (l ++ ups (k + 1))) := Lib.hid (by rw [ups_next, ← List.append_assoc]; exact o9)
      have BX := Lib.hid ((HB.out.alloc HBS _).grown g9 (by simp; omega) fun g hg => (HO.out.lt g hg).1)
      clear o9 g9 hat9 HO HB HBS
      go_roundw
      case rel => exact ⟨k + 1, q + 1, by go_num, HQ2, by omega, OX, BX⟩
      case measure => simp [intOf]; omega
    · obtain rfl : k = m := by omega
      have u1 : IntKind.u8.wrap (k : Int) = (k : Int) := by rw [IntKind.wrap_u8]; omega
      have u2 : IntKind.u8.wrap x = x := by rw [IntKind.wrap_u8]; omega
      have SE2 : Hid (l ++ ups k ++ [(k : Int), x] = sealed l x) := Lib.hid (by rw [SE.out])
      have QL : Hid (q + 2 = L) := Lib.hid (by have := HQ.out; have := LL.out; omega)
      have zb : Bytes [(k : Int), x] := fun z hz => by simp at hz; omega
      generalize wr = wo at *
      clear HQ SE hlt
      go_wp2_with (at_builtin
                   refine wpList_append_bytes rfl (.tmp 38) (.tmp 43) rfl w.heap.size _ q _ rfl (HO.out.alloc _) _ _ 2 2 [(k : Int), x] rfl (Holds.lit wo [(k : Int), x] _ rfl (by simp [maxLen]) zb) (by omega) (by simp; omega) ?_
                   intro v1 w9 o9 g9 hat9)
      rw [SE2.out, QL.out] at o9
      have OX := Lib.hid o9
      have BX := Lib.hid ((HB.out.alloc HBS _).grown g9 (by simp; omega) fun g hg => (HO.out.lt g hg).1)
      clear o9 g9 hat9 HO HB HBS
      go_wp2_with fail
      go_ret2
      exact ⟨_, rfl, OX.out, BX.out⟩
end Go.Proofs.YtdnkbefpbehllaaDoor.Pad1

/- The code's big, number, high, Length. -/
set_option linter.unusedVariables false
namespace Go.Proofs.YtdnkbefpbehllaaDoor.Esp1
open Go.RowKit Go.Proofs.YtdnkbefpbehllaaDoor.Sums Go.Proofs.YtdnkbefpbehllaaDoor.Mem Go.Proofs.YtdnkbefpbehllaaDoor.Blk Go.Proofs.YtdnkbefpbehllaaDoor.Bits3 Go.Proofs.YtdnkbefpbehllaaDoor.Ints Go.Proofs.YtdnkbefpbehllaaDoor.AesB Go.Proofs.YtdnkbefpbehllaaDoor.PadR Go.Proofs.YtdnkbefpbehllaaDoor.EspD Go.Proofs.YtdnkbefpbehllaaDoor.CutA
open Go.Proofs.YtdnkbefpbehllaaDoor.CtrD (four four_byt)
open Go.Proofs.YtdnkbefpbehllaaDoor.Regs (Lies)

/-- The lowest k bytes of a number, the first one highest. -/
def bigL (q k : Nat) : List Nat := (List.range k).map fun j => q / 2 ^ (8 * (k - 1 - j)) % 256
theorem bigL_len (q k : Nat) : (bigL q k).length = k := by simp [bigL]
theorem bigL_byt (q k : Nat) : Byt (bigL q k) := fun x hx => by
  obtain ⟨j, _, rfl⟩ := List.mem_map.1 hx
  exact Nat.mod_lt _ (by decide)
theorem bigL_four (q : Nat) : bigL q 4 = four (loN q) := by
  have e : bigL q 4 = [q / 2 ^ 24 % 256, q / 2 ^ 16 % 256, q / 2 ^ 8 % 256, q / 2 ^ 0 % 256] := rfl
  rw [e]
  unfold four loN
  simp only [Nat.reducePow, Nat.div_one, List.cons.injEq, and_true]
  refine ⟨?_, ?_, ?_, ?_⟩ <;> omega
theorem bigL_iv (q : Nat) (hq : q < 18446744073709551616) : bigL q 8 = ivL q := by
  have e : bigL q 8 = [q / 2 ^ 56 % 256, q / 2 ^ 48 % 256, q / 2 ^ 40 % 256, q / 2 ^ 32 % 256, q / 2 ^ 24 % 256, q / 2 ^ 16 % 256, q / 2 ^ 8 % 256, q / 2 ^ 0 % 256] := rfl
  rw [e]
  unfold ivL four loN hiN
  simp only [Nat.reducePow, Nat.div_one, List.cons_append, List.nil_append, List.cons.injEq, and_true]
  refine ⟨?_, ?_, ?_, ?_, ?_, ?_, ?_, ?_⟩ <;> first | omega | trivial
/-- .. the last i of them. -/
def lastL (q k i : Nat) : List Nat := List.replicate (k - i) 0 ++ (bigL q k).drop (k - i)
theorem lastL_len (q k i : Nat) : (lastL q k i).length = k := by
  unfold lastL
  rw [List.length_append, List.length_replicate, List.length_drop, bigL_len]
  omega
theorem lastL_zero (q k : Nat) : lastL q k 0 = List.replicate k 0 := by
  unfold lastL
  rw [Nat.sub_zero, List.drop_of_length_le (by rw [bigL_len]; exact Nat.le_refl _), List.append_nil]
theorem lastL_full (q k : Nat) : lastL q k k = bigL q k := by simp [lastL]
theorem lastL_set (q k i : Nat) (h : i < k) : (lastL q k i).set (k - 1 - i) (q / 2 ^ (8 * i) % 256) = lastL q k (i + 1) := by
  obtain ⟨j, hj⟩ : ∃ j, j = k - 1 - i := ⟨_, rfl⟩
  have e1 : k - i = j + 1 := by omega
  have e2 : k - (i + 1) = j := by omega
  have e3 : i = k - 1 - j := by omega
  unfold lastL
  rw [e1, e2, ← hj]
  have g : (bigL q k).drop j = (q / 2 ^ (8 * i) % 256) :: (bigL q k).drop (j + 1) := by
    rw [List.drop_eq_getElem_cons (by rw [bigL_len]; omega)]
    congr 1
    simp only [bigL, List.getElem_map, List.getElem_range]
    rw [← e3]
  rw [g, List.replicate_succ', List.append_assoc, List.set_append_right _ _ (by simp)]
  simp

set_option maxHeartbeats 1000000 in
theorem big_no (q k : Nat) (hq : q < 18446744073709551616) (h1 : 1 ≤ k) (h8 : k ≤ 8) (w : World) : Calls Tryd.prog 17 #[.int .u64 (q : Int), .int .i64 (k : Int)] w fun e w' => ∃ v, e = .returned v ∧ Owns w' w.heap.size v k (ints (bigL q k)) ∧ Below w.heap.size w w' := by
  have mk : ∀ W : World, (Instr.makeSlice 25 (.int .i64 (k : Int)) (.int .i64 (k : Int))).run Tryd.prog W = .ok (.slice (some ⟨W.heap.size, 0, none⟩) k k) (W.alloc (.cells (bcells (List.replicate k 0)) 5)) := fun W => make_b k (by omega) W
  have N0 : Hid (BRow (w.alloc (.cells (bcells (List.replicate k 0)) 5)) w.heap.size (lastL q k 0)) := Lib.hid (by rw [lastL_zero]; exact BRow.new w _)
  have B0 : Hid (Below w.heap.size w (w.alloc (.cells (bcells (List.replicate k 0)) 5))) := Lib.hid ((Below.refl _ _).alloc (Nat.le_refl _) _)
  have QH := Lib.hid hq
  have f0 : IntKind.i64.wrap ((k : Int) - 1) = ((k - 1 : Nat) : Int) := by rw [IntWalk.i64_in _ (by omega)]; omega
  have K8 := Lib.hid (And.intro h1 h8)
  generalize bcells (List.replicate k 0) = Z at *
  clear hq h1 h8
  go_enter Tryd.func17, Tryd.ntmps17
  go_wp2_with fail
  clear mk
  generalize w.alloc (.cells Z 5) = w1 at *
  go_loopw [11] (fun kv wr => ∃ i : Nat, kv = .int .i64 (i : Int) ∧ i ≤ k ∧ Hid (BRow wr w.heap.size (lastL q k i)) ∧ Hid (Below w.heap.size w wr)) (fun kv _ => k - (intOf kv).toNat)
  case atStart => exact ⟨0, rfl, by omega, N0, B0⟩
  case round =>
    obtain ⟨i, rfl, hi, HR, HB⟩ := hrel
    clear N0 B0
    by_cases hlt : i < k
    · have hk := K8.out
      have hk8 : k ≤ 8 := hk.2
      obtain ⟨j, hj⟩ : ∃ j, j = k - 1 - i := ⟨_, rfl⟩
      obtain ⟨k1, hk1⟩ : ∃ k1, k1 = k - 1 := ⟨_, rfl⟩
      obtain ⟨s, hs⟩ : ∃ s, s = 8 * i := ⟨_, rfl⟩
      rw [← hk1] at f0
      have f1 : IntKind.i64.wrap ((k1 : Int) - (i : Int)) = (j : Int) := by rw [IntWalk.i64_in _ (by omega)]; omega
      have f2 : IntKind.i64.wrap (8 * (i : Int)) = (s : Int) := by rw [IntWalk.i64_in _ (by omega)]; omega
      have s1 : (s : Int) ≤ 64 := by omega
      have s0 : (0 : Int) ≤ (s : Int) := by omega
      have jk : j < k := by omega
      have c0 := HR.out.cell j (by rw [lastL_len]; exact jk)
      have fr := HR.out.free j
      have e1 : (q : Int) / 2 ^ s = ((q / 2 ^ s : Nat) : Int) := by simp
      have e2 : IntKind.u8.wrap ((q / 2 ^ s : Nat) : Int) = ((q / 2 ^ s % 256 : Nat) : Int) := by rw [IntKind.wrap_u8]; omega
      have RX : Hid (BRow (wr.setCell ⟨w.heap.size, j, none⟩ (.int .u8 ((q / 2 ^ s % 256 : Nat) : Int))) w.heap.size (lastL q k (i + 1))) := Lib.hid (by
        rw [← lastL_set q k i hlt, hs, hj]
        exact HR.out.put _ _)
      have BX := Lib.hid (HB.out.setCell (p := ⟨w.heap.size, j, none⟩) (Nat.le_refl _) (.int .u8 ((q / 2 ^ s % 256 : Nat) : Int)))
      generalize q / 2 ^ s % 256 = y at *
      generalize q / 2 ^ s = x at *
      generalize (lastL q k i).getD j 0 = old at *
      clear hk hj hk1 hs HR HB
      go_wp2_with fail
      go_roundw
      case rel => exact ⟨i + 1, by go_num, by omega, RX, BX⟩
      case measure => simp [intOf]; omega
    · obtain rfl : i = k := by omega
      have OF : Hid (Owns wr w.heap.size (.slice (some ⟨w.heap.size, 0, none⟩) i i) i (ints (bigL q i))) := Lib.hid (by
        have z := HR.out
        rw [lastL_full] at z
        have := z.owns (bigL_byt q i) (by rw [bigL_len]; have := K8.out; omega) (Nat.le_refl w.heap.size)
        rwa [bigL_len] at this)
      have BF := HB
      clear HR HB
      go_wp2_with fail
      go_ret
      exact ⟨_, rfl, OF.out, BF.out⟩

/-- Bytes as a number. -/
def vn (L : List Nat) : Nat := L.foldl (fun a x => a * 256 + x) 0
theorem vn_more (L : List Nat) (x : Nat) : vn (L ++ [x]) = vn L * 256 + x := by simp [vn, List.foldl_append]
theorem vn_next (L : List Nat) (j : Nat) (h : j < L.length) : vn (L.take (j + 1)) = vn (L.take j) * 256 + L.getD j 0 := by
  have e : L.take (j + 1) = L.take j ++ [L.getD j 0] := by
    rw [List.take_add_one, List.getD_eq_getElem?_getD, List.getElem?_eq_getElem h]; rfl
  rw [e, vn_more]
theorem vn_num {l : List Int} (hb : Bytes l) (h : l.length = 4) : ((vn (nats l) : Nat) : Int) = num4 l 0 := by
  match l, h with
  | [a, b, c, d], _ =>
    have ha := hb a (by simp)
    have hb2 := hb b (by simp)
    have hc := hb c (by simp)
    have hd := hb d (by simp)
    simp [vn, nats, num4]
    omega
theorem u64_or8 {v x : Nat} (hv : v < 16777216) (hx : x < 256) : bits .or .u64 ((v * 256 : Nat) : Int) (x : Int) = ((v * 256 + x : Nat) : Int) := by
  have n64 : ∀ n : Nat, n < 18446744073709551616 → (BitVec.ofInt 64 ((n : Nat) : Int)).toNat = n := fun n hn => by
    rw [BitVec.toNat_ofInt]
    omega
  show IntKind.u64.wrap ((BitVec.ofInt 64 ((v * 256 : Nat) : Int) ||| BitVec.ofInt 64 ((x : Nat) : Int)).toNat : Int) = _
  rw [BitVec.toNat_or, n64 _ (by omega), n64 _ (by omega)]
  have e : v * 256 ||| x = v * 256 + x := by
    have := Nat.two_pow_add_eq_or_of_lt (b := x) (i := 8) (by omega) v
    rw [Nat.mul_comm v 256]
    exact this.symm
  rw [e, IntWalk.u64_in _ (by omega)]

set_option maxHeartbeats 1000000 in
theorem number_no (A : Option Addr) (c : Nat) (l : List Int) (w : World) (B : Nat) (h : Holds w B A 4 c l) : Calls Tryd.prog 24 #[.slice A 4 c] w fun e w' => e = .returned (.int .u64 (num4 l 0)) ∧ w = w' := by
  obtain ⟨b, p, rfl, _⟩ := h.2.2.2.2 (by omega)
  have VN := Lib.hid (vn_num h.2.2.2.1 h.1)
  rw [← VN.out]
  have GL := Lib.hid (fun i (hi : i < 4) => Ints.cell_getD h i hi)
  have GN := Lib.hid (fun i => nats_getD h.2.2.2.1 i)
  obtain ⟨L, hL⟩ : ∃ L, L = nats l := ⟨_, rfl⟩
  have LL : Hid (L.length = 4) := Lib.hid (by rw [hL, nats_len, h.1])
  have LB : Hid (∀ i, L.getD i 0 < 256) := Lib.hid fun i => by rw [hL]; exact MacD.getD_byt (AesR3.nats_byt h.2.2.2.1) i
  rw [← hL] at GN ⊢
  clear hL h VN
  go_enter Tryd.func24, Tryd.ntmps24
  go_wp2_with fail
  go_loopw [3, 8] (fun sv kv wr => ∃ j v : Nat, kv = .int .i64 (j : Int) ∧ j ≤ 4 ∧ sv = .int .u64 (v : Int) ∧ v < 256 ^ j ∧ Hid (v = vn (L.take j)) ∧ w = wr) (fun _ kv _ => 4 - (intOf kv).toNat)
  case atStart => exact ⟨0, 0, rfl, by omega, rfl, by decide, Lib.hid rfl, rfl⟩
  case round =>
    obtain ⟨j, v, rfl, hj, hs, hv, HV, rfl⟩ := hrel
    replace hs := hs.symm
    subst hs
    by_cases hlt : j < 4
    · have cj := GL.out j hlt
      rw [GN.out j] at cj
      have xb := LB.out j
      have NX := Lib.hid (vn_next L j (by rw [LL.out]; exact hlt))
      rw [← HV.out] at NX
      have vb : v < 16777216 := by
        have : 256 ^ j ≤ 256 ^ 3 := Nat.pow_le_pow_right (by decide) (by omega)
        have e : (256 : Nat) ^ 3 = 16777216 := by decide
        omega
      have VX : Hid (v * 256 + L.getD j 0 < 256 ^ (j + 1)) := Lib.hid (by rw [Nat.pow_succ]; omega)
      generalize L.getD j 0 = x at *
      have f1 : IntKind.u64.wrap ((v : Int) * 256) = ((v * 256 : Nat) : Int) := by rw [IntWalk.u64_in _ (by omega)]; omega
      have f2 : bits .or .u64 ((v * 256 : Nat) : Int) (x : Int) = ((v * 256 + x : Nat) : Int) := u64_or8 vb xb
      have f3 : IntKind.u64.wrap (x : Int) = (x : Int) := IntWalk.u64_in _ (by omega)
      generalize v * 256 + x = v2 at *
      generalize v * 256 = v1 at *
      clear hv HV xb vb
      go_wp2_with fail
      go_roundw
      case rel => exact ⟨j + 1, v2, by go_num, by omega, rfl, VX.out, Lib.hid NX.out.symm, by first | rfl | trivial⟩
      case measure => simp [intOf]; omega
    · obtain rfl : j = 4 := by omega
      have E : Hid (v = vn L) := Lib.hid (by have := HV.out; rwa [List.take_of_length_le (by rw [LL.out]; exact Nat.le_refl _)] at this)
      clear HV hv
      go_wp2_with fail
      go_ret
      exact ⟨by rw [E.out]; rfl, rfl⟩

theorem high_no (sp : Int) (ky sl mc : ByteArray) (es : Bool) (wn : Int) (q : Nat) (hq : q < 18446744073709551616) (w : World) : Calls Tryd.prog 18 #[.agg #[.int .i64 sp, .string ky, .string sl, .string mc, .bool es, .int .i64 wn], .int .u64 (q : Int)] w fun e w' => ∃ v, e = .returned v ∧ Lies w' v (if es then 4 else 0) (ints (upL es q)) ∧ Below w.heap.size w w' := by
  have B0 := Lib.hid ((Below.refl w.heap.size w).alloc (Nat.le_refl _) (.cells #[.int .i64 sp, .string ky, .string sl, .string mc, .bool es, .int .i64 wn] 23))
  have K0 := Blk.new w 23 #[.int .i64 sp, .string ky, .string sl, .string mc, .bool es, .int .i64 wn]
  have k4 := K0.cell 4
  clear K0
  have C := Lib.hid (big_no (hiN q) 4 (by unfold hiN; omega) (by decide) (by decide))
  have e1 : (q : Int) / 4294967296 = ((hiN q : Nat) : Int) := rfl
  have UT : Hid (bigL (hiN q) 4 = upL true q) := Lib.hid (by
    rw [bigL_four]
    show four (loN (hiN q)) = four (hiN q)
    congr 1
    unfold loN hiN
    omega)
  generalize hiN q = h at *
  cases es
  · clear C e1 UT
    go_enter Tryd.func18, Tryd.ntmps18
    go_wp2_with fail
    go_ret
    exact ⟨_, rfl, ⟨none, 0, rfl, Holds.nil _ _ _⟩, B0.out⟩
  · go_enter Tryd.func18, Tryd.ntmps18
    go_wp2_with fail
    refine (C.out _).mono ?_
    rintro e w2 ⟨v, rfl, o, hb⟩
    have O := Lib.hid o
    have B2 := Lib.hid (B0.out.trans (hb.mono (by simp)))
    clear o hb
    go_wp2_with fail
    go_ret
    exact ⟨_, rfl, by have := Regs.lies_own O.out; rw [UT.out] at this; exact this, B2.out⟩

theorem length_no (n : Int) (hn : n ≤ 1000000) (w : World) : Calls Tryd.prog 12 #[.int .i64 n] w fun e w' => e = .returned (.int .i64 ((lenI n : Nat) : Int)) ∧ w = w' := by
  by_cases h : n < 0
  · have E : Hid (lenI n = 0) := Lib.hid (if_pos h)
    have g : decide (n < 0) = true := decide_eq_true h
    go_enter Tryd.func12, Tryd.ntmps12
    go_wp2_with fail
    go_ret
    exact ⟨by rw [E.out]; rfl, rfl⟩
  · have E : Hid (lenI n = 32 + lengthI n) := Lib.hid (if_neg h)
    have g : decide (n < 0) = false := decide_eq_false h
    have C := Lib.hid (Pad1.length_no n (by omega) w)
    have lb : lengthI n ≤ 1000005 := by
      unfold lengthI long
      split <;> omega
    generalize lengthI n = k at *
    obtain ⟨s, hs⟩ : ∃ s, s = 32 + k := ⟨_, rfl⟩
    rw [← hs] at E
    have f1 : IntKind.i64.wrap (32 + (k : Int)) = (s : Int) := by rw [IntWalk.i64_in _ (by omega)]; omega
    clear hs h
    go_enter Tryd.func12, Tryd.ntmps12
    go_wp2_with fail
    refine C.out.mono ?_
    rintro e w' ⟨rfl, rfl⟩
    go_wp2_with fail
    go_ret
    exact ⟨by rw [E.out]; rfl, rfl⟩
end Go.Proofs.YtdnkbefpbehllaaDoor.Esp1

/- A load and a store of a whole struct, where the operation is guarded and wanted. -/
namespace Go.Proofs.YtdnkbefpbehllaaDoor.Loads
open Go.RowKit
variable {P : Program}

theorem wpList_load_w {ops : Array Oper} {rest : List Oper} {o : Oper} {a : Act} {w : World} {Q : Exit → Act → World → Prop} (hw : Region.wanted o (yielded ops a.tmps) = true) (ty : TypeId) (x : Operand) (ho : o.op = .load ty x)
    (g : Nat) (hx : a.eval x = .pointer (some ⟨g, 0, none⟩)) (t : TypeId) (cs : Array Value) (fr : Nat × Nat) (d : TypeDesc) (hg : w.heap[g]? = some (.cells cs t fr))
    (hu : P.underlying ty = some d) (hd : (match d with | .struct _ | .array _ _ => true | _ => false) = true) (hi : (P.info? ty).map (·.size) = some cs.size)
    (h : wpList P ops Q rest (a.put o.dst (.agg cs)) w) : wpList P ops Q (o :: rest) a w :=
  wpList_step fun K hK => by rw [if_pos hw]; exact wp_load_row ty x ho g hx t cs fr d hg hu hd hi (hK _ _ h)
end Go.Proofs.YtdnkbefpbehllaaDoor.Loads

