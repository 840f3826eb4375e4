/- The document's words of layer 12: plain facts; the contracts of Length, Seal. -/
import Derived.Test.YtedojbhebbdagaaBoth
import Derived.Test.YtedojbhebbdagaaBlk
set_option linter.unusedVariables false
namespace Go.Proofs.Ytedojbhebbdagaa.PadR
open Go.RowKit Go.Proofs.Ytedojbhebbdagaa.Sums Go.Proofs.Ytedojbhebbdagaa.Mem Go.Proofs.Ytedojbhebbdagaa.Blk

/-- How long it is once sealed; how much stands between. -/
def long (n : Nat) : Nat := (n + 5) / 4 * 4
def cnt (n : Nat) : Nat := long n - n - 2
theorem cnt_lt (n : Nat) : cnt n < 4 := by unfold cnt long; omega
theorem cnt_long (n : Nat) : n + cnt n + 2 = long n := by unfold cnt long; omega
theorem cnt_stop {n k : Nat} (h : k ≤ cnt n) : ((n + k + 2) % 4 = 0) ↔ k = cnt n := by unfold cnt long at *; omega
/-- One, two, .. -/
def ups (k : Nat) : List Int := (List.range k).map fun i : Nat => ((i : Int) + 1)
theorem ups_len (k : Nat) : (ups k).length = k := by simp [ups]
theorem ups_next (k : Nat) : ups (k + 1) = ups k ++ [(k : Int) + 1] := by simp [ups, List.range_succ]
theorem ups_in {k : Nat} (h : k ≤ 255) : Bytes (ups k) := by
  intro z hz
  simp only [ups, List.mem_map, List.mem_range] at hz
  obtain ⟨i, hi, rfl⟩ := hz
  omega
def sealed (b : List Int) (next : Int) : List Int := b ++ ups (cnt b.length) ++ [(cnt b.length : Int), next]
def lengthI (n : Int) : Nat := if n < 0 then 0 else long n.toNat

theorem length_ref (n : Int) (hn : n ≤ 1000000) (w : World) : Calls Try.prog 14 #[.int .i64 n] w fun e w' => e = .returned (.int .i64 ((lengthI n : Nat) : Int)) ∧ w = w' := by
  by_cases h : n < 0
  · have E : Hid (lengthI n = 0) := Lib.hid (if_pos h)
    have g : decide (n < 0) = true := decide_eq_true h
    go_enter Try.func14, Try.ntmps14
    go_wp2_with fail
    go_ret
    exact ⟨by rw [E.out]; rfl, rfl⟩
  · obtain ⟨m, rfl⟩ : ∃ m : Nat, n = (m : Int) := ⟨n.toNat, by omega⟩
    have E : Hid (lengthI (m : Int) = m + 2 + cnt m) := Lib.hid (by
      unfold lengthI
      rw [if_neg h, Int.toNat_natCast]
      have := cnt_long m
      omega)
    have g : decide ((m : Int) < 0) = false := decide_eq_false h
    have CL := Lib.hid (cnt_lt m)
    obtain ⟨a, ha⟩ : ∃ a, a = m + 2 := ⟨_, rfl⟩
    have f1 : IntKind.i64.wrap ((m : Int) + 2) = (a : Int) := by rw [IntWalk.i64_in _ (by omega)]; omega
    have AE := Lib.hid ha
    clear ha h
    go_enter Try.func14, Try.ntmps14
    go_wp2_with fail
    clear f1 g
    go_loopw [0] (fun kv wr => ∃ k q : Nat, kv = .int .i64 (q : Int) ∧ Hid (q = m + 2 + k) ∧ Hid (k ≤ cnt m) ∧ Hid (wr = w)) (fun kv _ => m + 10 - (intOf kv).toNat)
    case atStart => exact ⟨0, a, by first | rfl | (have := AE.out; congr 1; omega), Lib.hid AE.out, Lib.hid (Nat.zero_le _), Lib.hid rfl⟩
    case round =>
      obtain ⟨k, q, rfl, HQ, HK, HW⟩ := hrel
      obtain rfl := HW.out
      have ZS : Hid (q % 4 = 0 ↔ k = cnt m) := Lib.hid (by rw [HQ.out, show m + 2 + k = m + k + 2 by omega]; exact cnt_stop HK.out)
      have qb : q ≤ 1000010 := by have := HQ.out; have := HK.out; have := CL.out; omega
      obtain ⟨r, hr⟩ : ∃ r, r = q % 4 := ⟨_, rfl⟩
      have em : (q : Int).tmod 4 = (r : Int) := by rw [Int.tmod_eq_emod_of_nonneg (by omega)]; omega
      rw [← hr] at ZS
      clear hr
      by_cases hz : k = cnt m
      · have g : ((r : Int) != 0) = false := by have := ZS.out.2 hz; subst this; rfl
        have F : Hid (q = lengthI (m : Int)) := Lib.hid (by rw [E.out, HQ.out, hz])
        clear ZS hz HQ HK E
        go_wp2_with fail
        go_ret
        exact ⟨by rw [← F.out]; rfl, rfl⟩
      · have g : ((r : Int) != 0) = true := by
          rw [bne_iff_ne]
          intro e
          exact hz (ZS.out.1 (by omega))
        have HK2 : Hid (k + 1 ≤ cnt m) := Lib.hid (by have := HK.out; omega)
        have HQ2 : Hid (q + 1 = m + 2 + (k + 1)) := Lib.hid (by have := HQ.out; omega)
        have MS : Hid (q < m + 6) := Lib.hid (by have := HQ.out; have := HK.out; have := CL.out; omega)
        clear ZS hz HQ HK E
        go_wp2_with fail
        go_roundw
        case rel => exact ⟨k + 1, q + 1, by go_num, HQ2, HK2, Lib.hid (by trivial)⟩
        case measure => have := MS.out; simp [intOf]; omega

theorem seal_arg (A : Option Addr) (n c : Nat) (x : Int) (w : World) (h : x < 0 ∨ 255 < x) : Calls Try.prog 9 #[.slice A n c, .int .i64 x] w fun e w' => e = .returned (.tuple #[.slice none 0 0, .int .i64 1]) ∧ w = w' := by
  go_enter Try.func9, Try.ntmps9
  rcases h with h | h
  · have g : decide (x < 0) = true := decide_eq_true h
    go_wp2_with fail
    go_ret2
    exact ⟨rfl, rfl⟩
  · have g : decide (x < 0) = false := decide_eq_false (by omega)
    have g2 : decide (255 < x) = true := decide_eq_true h
    go_wp2_with fail
    go_ret2
    exact ⟨rfl, rfl⟩
theorem seal_long (A : Option Addr) (n c : Nat) (x : Int) (w : World) (h0 : 0 ≤ x) (h1 : x ≤ 255) (hn : 65535 < n) (h3 : n ≤ 140737488355328) : Calls Try.prog 9 #[.slice A n c, .int .i64 x] w fun e w' => e = .returned (.tuple #[.slice none 0 0, .int .i64 2]) ∧ w = w' := by
  have g : decide (x < 0) = false := decide_eq_false (by omega)
  have g2 : decide (255 < x) = false := decide_eq_false (by omega)
  have g3 : decide ((65535 : Int) < (n : Int)) = true := decide_eq_true (by omega)
  go_enter Try.func9, Try.ntmps9
  go_wp2_with fail
  go_ret2
  exact ⟨rfl, rfl⟩

set_option maxHeartbeats 1000000 in
theorem seal_ok (A : Option Addr) (n c : Nat) (l : List Int) (x : Int) (w : World) (B : Nat) (h : Holds w B A n c l) (hB : B ≤ w.heap.size) (h0 : 0 ≤ x) (h1 : x ≤ 255) (hn : n ≤ 65535) :
    Calls Try.prog 9 #[.slice A n c, .int .i64 x] w fun e w' => ∃ v, e = .returned (.tuple #[v, .int .i64 0]) ∧ Owns w' w.heap.size v (long n) (sealed l x) ∧ Below w.heap.size w w' := by
  have H := Lib.hid h
  have g : decide (x < 0) = false := decide_eq_false (by omega)
  have g2 : decide (255 < x) = false := decide_eq_false (by omega)
  have g3 : decide ((65535 : Int) < (n : Int)) = false := decide_eq_false (by omega)
  have CL := Lib.hid (cnt_lt n)
  have LL := Lib.hid (cnt_long n)
  have SE : Hid (sealed l x = l ++ ups (cnt n) ++ [(cnt n : Int), x]) := Lib.hid (by unfold sealed; rw [h.1])
  clear h
  go_enter Try.func9, Try.ntmps9
  go_wp2_with fail
  refine (Both.both_lit (B := w.heap.size) (Nat.le_refl _) [⟨A, n, c, l⟩] _ _ rfl (Both.mem1 (H.out.more hB)) _ 1 rfl rfl (by decide) (by show n + 0 ≤ 1048576; omega)).mono ?_
  rintro e w1 ⟨A1, c1, rfl, _, o1, hb⟩
  have e1 : Both.flat [⟨A, n, c, l⟩] = l ++ ups 0 := by simp [Both.flat, ups]
  have e0 : Both.total [⟨A, n, c, l⟩] = n := rfl
  rw [e1, e0] at o1
  rw [e0]
  have O1 := Lib.hid o1
  have B1 := Lib.hid hb
  clear o1 hb e1 e0 H g g2 g3
  go_wp2_with fail
  go_loopw [6, 7] (fun ov kv wr => ∃ k q : Nat, kv = .int .i64 (k : Int) ∧ Hid (q = n + k) ∧ Hid (k ≤ cnt n) ∧ Hid (Owns wr w.heap.size ov q (l ++ ups k)) ∧ Hid (Below w.heap.size w wr)) (fun _ kv _ => 4 - (intOf kv).toNat)
  case atStart => exact ⟨0, n, rfl, Lib.hid rfl, Lib.hid (Nat.zero_le _), O1, B1⟩
  case round =>
    obtain ⟨k, q, rfl, HQ, HK, HO, HB⟩ := hrel
    clear O1 B1
    obtain ⟨Av, cv, rfl, _⟩ := HO.out.slice
    have ZS : Hid ((q + 2) % 4 = 0 ↔ k = cnt n) := Lib.hid (by rw [HQ.out]; exact cnt_stop HK.out)
    have qb : q ≤ 65540 := by have := HQ.out; have := HK.out; have := CL.out; omega
    have kb : k ≤ 3 := by have := HK.out; have := CL.out; omega
    obtain ⟨r, hr⟩ : ∃ r, r = (q + 2) % 4 := ⟨_, rfl⟩
    have f1 : IntKind.i64.wrap ((q : Int) + 2) = (q : Int) + 2 := IntWalk.i64_in _ (by omega)
    have em : ((q : Int) + 2).tmod 4 = (r : Int) := by rw [Int.tmod_eq_emod_of_nonneg (by omega)]; omega
    rw [← hr] at ZS
    clear hr
    have HBS := HB.out.size
    by_cases hz : k = cnt n
    · have g : ((r : Int) != 0) = false := by have := ZS.out.2 hz; subst this; rfl
      have u1 : IntKind.u8.wrap (k : Int) = (k : Int) := by rw [IntKind.wrap_u8]; omega
      have u2 : IntKind.u8.wrap x = x := by rw [IntKind.wrap_u8]; omega
      have SE2 : Hid (l ++ ups k ++ [(k : Int), x] = sealed l x) := Lib.hid (by rw [SE.out, hz])
      have QL : Hid (q + 2 = long n) := Lib.hid (by have := HQ.out; have := LL.out; rw [← hz] at this; omega)
      have zb : Bytes [(k : Int), x] := fun z hz => by simp at hz; omega
      generalize wr = wo at *
      clear ZS hz HQ HK SE
      go_wp2_with (at_builtin
                   refine wpList_append_bytes rfl (.tmp 32) (.tmp 37) rfl w.heap.size _ q _ rfl (HO.out.alloc _) _ _ 2 2 [(k : Int), x] rfl (Holds.lit wo [(k : Int), x] _ rfl (by simp [maxLen]) zb) (by omega) (by simp; omega) ?_
                   intro v1 w9 o9 g9 hat9)
      rw [SE2.out, QL.out] at o9
      have OX := Lib.hid o9
      have BX := Lib.hid ((HB.out.alloc HBS _).grown g9 (by simp; omega) fun g hg => (HO.out.lt g hg).1)
      clear o9 g9 hat9 HO HB HBS
      go_wp2_with fail
      go_ret2
      exact ⟨_, rfl, OX.out, BX.out⟩
    · have g : ((r : Int) != 0) = true := by
        rw [bne_iff_ne]
        intro e
        exact hz (ZS.out.1 (by omega))
      have f2 : IntKind.i64.wrap ((k : Int) + 1) = (k : Int) + 1 := IntWalk.i64_in _ (by omega)
      have u1 : IntKind.u8.wrap ((k : Int) + 1) = (k : Int) + 1 := by rw [IntKind.wrap_u8]; omega
      have HK2 : Hid (k + 1 ≤ cnt n) := Lib.hid (by have := HK.out; omega)
      have HQ2 : Hid (q + 1 = n + (k + 1)) := Lib.hid (by have := HQ.out; omega)
      have zb : Bytes [(k : Int) + 1] := fun z hz => by simp at hz; omega
      clear ZS hz HQ HK SE
      go_wp2_with (at_builtin
                   refine wpList_append_bytes rfl (.tmp 27) (.tmp 30) rfl w.heap.size _ q _ rfl (HO.out.alloc _) _ _ 1 1 [(k : Int) + 1] rfl (Holds.lit wr [(k : Int) + 1] _ rfl (by simp [maxLen]) zb) (by omega) (by simp; omega) ?_
                   intro v1 w9 o9 g9 hat9)
      have OX : Hid (Owns w9 w.heap.size v1 (q + 1) (l ++ ups (k + 1))) := Lib.hid (by rw [ups_next, ← List.append_assoc]; exact o9)
      have BX := Lib.hid ((HB.out.alloc HBS _).grown g9 (by simp; omega) fun g hg => (HO.out.lt g hg).1)
      clear o9 g9 hat9 HO HB HBS
      go_roundw
      case rel => exact ⟨k + 1, q + 1, by go_num, HQ2, HK2, OX, BX⟩
      case measure => simp [intOf]; omega
end Go.Proofs.Ytedojbhebbdagaa.PadR
