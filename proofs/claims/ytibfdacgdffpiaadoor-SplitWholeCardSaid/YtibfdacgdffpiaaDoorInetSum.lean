/- Contracts of inet.first, inet.Sum, inet.Check: over a row of bytes. -/
import Derived.Test.YtibfdacgdffpiaaDoorWords
import Derived.Test.YtibfdacgdffpiaaDoorBytes
import Derived.LoopTactic
namespace Go.Proofs.YtibfdacgdffpiaaDoor.InetSum
open Go.RowKit Go.Proofs.YtibfdacgdffpiaaDoor.Sums Go.Proofs.YtibfdacgdffpiaaDoor.Words Go.Proofs.YtibfdacgdffpiaaDoor.Mem

theorem first_one (b o c : Nat) (z : Int) (w : World) (hc : w.cell? ⟨b, o, none⟩ = some (.int .u8 z)) (z0 : 0 ≤ z) (z1 : z ≤ 255) :
    Calls Tryd.prog 32 #[.slice (some ⟨b, o, none⟩) 1 c] w fun e w' => e = .returned (.int .i64 (256 * z)) ∧ w = w' := by
  go_enter Tryd.func32, Tryd.ntmps32
  go_wp2
  go_ret
  exact ⟨ret_int (Int.mul_comm _ _), rfl⟩

theorem first_two (b o n c : Nat) (y z : Int) (w : World) (hy : w.cell? ⟨b, o, none⟩ = some (.int .u8 y)) (hz : w.cell? ⟨b, o + 1, none⟩ = some (.int .u8 z)) (y0 : 0 ≤ y) (y1 : y ≤ 255) (z0 : 0 ≤ z) (z1 : z ≤ 255)
    (h2 : 1 < n) (hm : n ≤ 9223372036854775807) :
    Calls Tryd.prog 32 #[.slice (some ⟨b, o, none⟩) n c] w fun e w' => e = .returned (.int .i64 (256 * y + z)) ∧ w = w' := by
  have g1 : ((n : Int) == 1) = false := by simp; omega
  go_enter Tryd.func32, Tryd.ntmps32
  go_wp2
  go_ret
  exact ⟨ret_int (by omega), rfl⟩

theorem first_any (b o n c : Nat) (l : List Int) (w : World) (B : Nat) (h : Holds w B (some ⟨b, o, none⟩) n c l) (hn : 0 < n) :
    Calls Tryd.prog 32 #[.slice (some ⟨b, o, none⟩) n c] w fun e w' => e = .returned (.int .i64 (first l)) ∧ w = w' := by
  obtain ⟨hl, hnc, hcm, hb, hc⟩ := h
  obtain ⟨b', o', e, _, hc⟩ := hc hn
  injection e with e
  injection e with e1 e2
  subst e1 e2
  unfold maxLen at hcm
  match l, hl with
  | [], hl => simp at hl; omega
  | [z], hl =>
    simp at hl
    subst hl
    have hz := hb z (by simp)
    exact first_one b o c z w (by simpa using hc 0 z rfl) hz.1 hz.2
  | y :: z :: r, hl =>
    have hy := hb y (by simp)
    have hz := hb z (by simp)
    exact first_two b o n c y z w (by simpa using hc 0 y rfl) (hc 1 z rfl) hy.1 hy.2 hz.1 hz.2 (by simp at hl; omega) (by omega)

theorem sums_go {s : Int} {l : List Int} {k n : Nat} (hl : l.length = n) (hk : k < n) : sums s (l.drop k) = sums (add s (first (l.drop k))) (l.drop (k + 2)) := by
  rw [sums_step s (l.drop k) (fun e => by have := congrArg List.length e; simp at this; omega), List.drop_drop]

theorem sum_any (A : Option Addr) (n c : Nat) (l : List Int) (w : World) (B : Nat) (h : Holds w B A n c l) (hs : n ≤ 65536) :
    Calls Tryd.prog 25 #[.slice A n c] w fun e w' => e = .returned (.int .i64 (sums 0 l)) ∧ w = w' := by
  have hl := Lib.hid h.1
  have hnc := h.2.1
  have hcm := h.2.2.1
  unfold maxLen at hcm
  go_enter Tryd.func25, Tryd.ntmps25
  go_wp2
  go_loop [3, 4] (fun s i => ∃ (k : Nat) (t : Int), k ≤ n + 1 ∧ i = .int .i64 k ∧ s = .int .i64 t ∧ 0 ≤ t ∧ t ≤ 65535 ∧ Hid (sums t (l.drop k) = sums 0 l)) (fun _ i => n + 1 - (intOf i).toNat)
  case atStart => exact ⟨0, 0, by omega, rfl, rfl, by omega, by omega, Lib.hid (by simp)⟩
  case round =>
    obtain ⟨k, t, hk, rfl, rfl, t0, t1, ht⟩ := hrel
    by_cases hlt : k < n
    · obtain ⟨b, o, rfl, hf⟩ := h.from_ hlt
      have hne : ¬ c = k := by omega
      have hpos : 0 < n - k := by omega
      have a0 := add_lo t (first (l.drop k))
      have a1 := add_hi t (first (l.drop k))
      go_wp2_with (first | (go_at_call 32; refine (first_any _ _ _ _ _ _ _ hf hpos).mono ?_; rintro e w' ⟨rfl, rfl⟩) | (go_at_call 31; refine (add_code _ _ _).mono ?_; rintro e w' ⟨rfl, rfl⟩))
      go_round
      case rel => exact ⟨k + 2, _, by omega, by go_num, rfl, a0, a1, Lib.hid (by rw [← ht.out, sums_go hl.out hlt])⟩
      case measure => simp [intOf]; omega
    · go_wp2
      go_ret
      refine ⟨ret_int ?_, rfl⟩
      rw [← ht.out, List.drop_eq_nil_of_le (by rw [hl.out]; omega)]
      rfl

theorem check_any (A : Option Addr) (n c : Nat) (l : List Int) (w : World) (B : Nat) (h : Holds w B A n c l) (hs : n ≤ 65536) :
    Calls Tryd.prog 17 #[.slice A n c] w fun e w' => e = .returned (.int .i64 (check l)) ∧ w = w' := by
  have s := sums_in l 0 (by omega) (by omega)
  have s0 := s.1
  have s1 := s.2
  clear s
  go_enter Tryd.func17, Tryd.ntmps17
  go_wp2_with (go_at_call 25; refine (sum_any _ _ _ _ _ _ h hs).mono ?_; rintro e w' ⟨rfl, rfl⟩)
  go_ret
  exact ⟨rfl, rfl⟩

end Go.Proofs.YtibfdacgdffpiaaDoor.InetSum
