/- Sizes: the code's header, Length, Outer; the document's. -/
import Derived.Test.YtjeenmeoiidmnaaDoorPmtM
import Derived.Test.YtjeenmeoiidmnaaDoorBlk
import Derived.Test.YtjeenmeoiidmnaaDoorSteps
import Derived.LoopTactic
set_option linter.unusedVariables false
namespace Go.Proofs.YtjeenmeoiidmnaaDoor.Pmt1
open Go.RowKit Go.Proofs.YtjeenmeoiidmnaaDoor.Sums Go.Proofs.YtjeenmeoiidmnaaDoor.Mem Go.Proofs.YtjeenmeoiidmnaaDoor.Blk Go.Proofs.YtjeenmeoiidmnaaDoor.PmtM

/-- The table of headers lies where the program's text lays it. -/
def Tab (w : World) : Prop := ∃ t fr, w.heap[(0 : Nat)]? = some (.cells #[.int .i64 20, .int .i64 40] t fr)
theorem Tab.lt {w : World} (h : Tab w) : (0 : Nat) < w.heap.size := by
  obtain ⟨t, fr, h⟩ := h
  rcases Nat.lt_or_ge (0 : Nat) w.heap.size with h' | h'
  · exact h'
  · rw [Array.getElem?_eq_none h'] at h
    cases h
theorem Tab.same {w w' : World} (h : Tab w) (k : w'.heap[(0 : Nat)]? = w.heap[(0 : Nat)]?) : Tab w' := by
  obtain ⟨t, fr, h⟩ := h
  exact ⟨t, fr, k.trans h⟩
theorem Tab.up {w w' : World} {B : Nat} (h : Tab w) (k : Below B w w') (hB : w.heap.size ≤ B) : Tab w' := h.same (k.block _ (Nat.lt_of_lt_of_le h.lt hB))
theorem Tab.cell {w : World} (h : Tab w) : w.cell? ⟨(0 : Nat), 0, none⟩ = some (.int .i64 20) ∧ w.cell? ⟨(0 : Nat), 1, none⟩ = some (.int .i64 40) := by
  obtain ⟨t, fr, h⟩ := h
  constructor <;> simp [World.cell?, h]
theorem header_c (b : Bool) (w : World) (hT : Tab w) : Calls Tryd.prog 28 #[.bool b] w fun e w' => e = .returned (.int .i64 (headI b)) ∧ w = w' := by
  have c0 := hT.cell.1
  have c1 := hT.cell.2
  clear hT
  cases b
  all_goals
    go_enter Tryd.func28, Tryd.ntmps28
    go_wp2_with fail
    go_ret
    exact ⟨rfl, rfl⟩
theorem head_r (b : Bool) (w : World) : Calls Tryd.prog 29 #[.bool b] w fun e w' => e = .returned (.int .i64 (headI b)) ∧ w = w' := by
  cases b
  all_goals
    go_enter Tryd.func29, Tryd.ntmps29
    go_wp2_with fail
    go_ret
    exact ⟨rfl, rfl⟩
theorem padding_c (n : Int) (h0 : 0 ≤ n) (h1 : n ≤ 1000000) (w : World) : Calls Tryd.prog 37 #[.int .i64 n] w fun e w' => e = .returned (.int .i64 (plain n - 34 - n)) ∧ w = w' := by
  have f1 : IntKind.i64.wrap (n + 2) = n + 2 := IntWalk.i64_in _ (by omega)
  obtain ⟨r, hr⟩ : ∃ r, r = (n + 2) % 4 := ⟨_, rfl⟩
  have f2 : (n + 2).tmod 4 = r := by rw [Int.tmod_eq_emod_of_nonneg (by omega)]; omega
  obtain ⟨s, hs⟩ : ∃ s, s = 4 - r := ⟨_, rfl⟩
  have f3 : IntKind.i64.wrap (4 - r) = s := by rw [IntWalk.i64_in _ (by omega)]; omega
  have f4 : s.tmod 4 = plain n - 34 - n := by rw [Int.tmod_eq_emod_of_nonneg (by omega)]; unfold plain; omega
  generalize plain n - 34 - n = k at *
  clear hr hs
  go_enter Tryd.func37, Tryd.ntmps37
  go_wp2_with fail
  go_ret
  exact ⟨rfl, rfl⟩
theorem padlen_c (n : Int) (h0 : 0 ≤ n) (h1 : n ≤ 1000000) (w : World) : Calls Tryd.prog 33 #[.int .i64 n] w fun e w' => e = .returned (.int .i64 (plain n - 32)) ∧ w = w' := by
  have g : decide (n < 0) = false := decide_eq_false (by omega)
  have C := Lib.hid (padding_c n h0 h1 w)
  obtain ⟨k, hk⟩ : ∃ k, k = plain n - 34 - n := ⟨_, rfl⟩
  have kb : 0 ≤ k ∧ k ≤ 4 := by unfold plain at hk; omega
  have e : Hid (n + k + 2 = plain n - 32) := Lib.hid (by omega)
  have f1 : IntKind.i64.wrap (n + k) = n + k := IntWalk.i64_in _ (by omega)
  have f2 : IntKind.i64.wrap (n + k + 2) = n + k + 2 := IntWalk.i64_in _ (by omega)
  rw [← hk] at C
  clear hk kb
  go_enter Tryd.func33, Tryd.ntmps33
  go_wp2_with fail
  refine C.out.mono ?_
  rintro e w' ⟨rfl, rfl⟩
  go_wp2_with fail
  go_ret
  exact ⟨by rw [e.out]; rfl, rfl⟩
theorem length_c (n : Int) (h1 : n ≤ 1000000) (w : World) : Calls Tryd.prog 20 #[.int .i64 n] w fun e w' => e = .returned (.int .i64 (lengthI n)) ∧ w = w' := by
  by_cases h : n < 0
  · have E : Hid (lengthI n = 0) := Lib.hid (if_pos h)
    have g : decide (n < 0) = true := decide_eq_true h
    go_enter Tryd.func20, Tryd.ntmps20
    go_wp2_with fail
    go_ret
    exact ⟨by rw [E.out]; rfl, rfl⟩
  · have E : Hid (lengthI n = plain n) := Lib.hid (if_neg h)
    have g : decide (n < 0) = false := decide_eq_false h
    have C := Lib.hid (padlen_c n (by omega) h1 w)
    obtain ⟨k, hk⟩ : ∃ k, k = plain n - 32 := ⟨_, rfl⟩
    have kb : 0 ≤ k ∧ k ≤ 1000100 := by unfold plain at hk; omega
    have e : Hid (32 + k = plain n) := Lib.hid (by omega)
    have f1 : IntKind.i64.wrap (32 + k) = 32 + k := IntWalk.i64_in _ (by omega)
    rw [← hk] at C
    clear hk kb h
    go_enter Tryd.func20, Tryd.ntmps20
    go_wp2_with fail
    refine C.out.mono ?_
    rintro e w' ⟨rfl, rfl⟩
    go_wp2_with fail
    go_ret
    exact ⟨by rw [E.out, e.out]; rfl, rfl⟩
theorem padlen_r (n : Int) (h0 : 0 ≤ n) (h1 : n ≤ 1000000) (w : World) : Calls Tryd.prog 36 #[.int .i64 n] w fun e w' => e = .returned (.int .i64 (plain n - 32)) ∧ w = w' := by
  have g : decide (n < 0) = false := decide_eq_false (by omega)
  obtain ⟨F, hF⟩ : ∃ F, F = plain n - 32 := ⟨_, rfl⟩
  have FE := Lib.hid hF
  have f1 : IntKind.i64.wrap (n + 2) = n + 2 := IntWalk.i64_in _ (by omega)
  rw [← hF]
  have fb : n + 2 ≤ F ∧ F ≤ n + 6 ∧ F % 4 = 0 ∧ F - 4 < n + 2 := by unfold plain at hF; omega
  have FB := Lib.hid fb
  have H0 := Lib.hid h0
  have H1 := Lib.hid h1
  clear hF fb
  go_enter Tryd.func36, Tryd.ntmps36
  go_wp2_with fail
  clear f1 g
  go_loopw [0] (fun kv wr => ∃ q : Int, kv = .int .i64 q ∧ Hid (n + 2 ≤ q ∧ q ≤ F) ∧ Hid (w = wr)) (fun kv _ => (F - intOf kv).toNat)
  case atStart => exact ⟨n + 2, rfl, Lib.hid ⟨Int.le_refl _, FB.out.1⟩, Lib.hid rfl⟩
  case round =>
    obtain ⟨q, rfl, HQ, HW⟩ := hrel
    obtain rfl := HW.out
    obtain ⟨q1, q2⟩ := HQ.out
    obtain ⟨b1, b2, b3, b4⟩ := FB.out
    have h0 := H0.out
    have h1 := H1.out
    obtain ⟨r, hr⟩ : ∃ r, r = q % 4 := ⟨_, rfl⟩
    have em : q.tmod 4 = r := by rw [Int.tmod_eq_emod_of_nonneg (by omega)]; omega
    by_cases hz : q = F
    · have g : (r != 0) = false := by simp; omega
      have EQ := Lib.hid hz
      clear hz hr b1 b2 b3 b4 q1 q2 HQ
      go_wp2_with fail
      go_ret
      exact ⟨by rw [EQ.out]; rfl, rfl⟩
    · have g : (r != 0) = true := by rw [bne_iff_ne]; omega
      have f1 : IntKind.i64.wrap (q + 1) = q + 1 := IntWalk.i64_in _ (by omega)
      have HQ2 : Hid (n + 2 ≤ q + 1 ∧ q + 1 ≤ F) := Lib.hid (by omega)
      have MM : Hid ((F - (q + 1)).toNat < (F - q).toNat) := Lib.hid (by omega)
      clear hz hr b1 b2 b3 b4 q1 q2 HQ
      go_wp2_with fail
      go_roundw
      case rel => exact ⟨q + 1, rfl, HQ2, Lib.hid trivial⟩
      case measure => simpa [intOf] using MM.out
theorem length_r (n : Int) (h0 : 0 ≤ n) (h1 : n ≤ 1000000) (w : World) : Calls Tryd.prog 30 #[.int .i64 n] w fun e w' => e = .returned (.int .i64 (plain n)) ∧ w = w' := by
  have g : decide (n < 0) = false := decide_eq_false (by omega)
  have C := Lib.hid (padlen_r n (by omega) h1 w)
  obtain ⟨k, hk⟩ : ∃ k, k = plain n - 32 := ⟨_, rfl⟩
  have kb : 0 ≤ k ∧ k ≤ 1000100 := by unfold plain at hk; omega
  have e : Hid (32 + k = plain n) := Lib.hid (by omega)
  have f1 : IntKind.i64.wrap (32 + k) = 32 + k := IntWalk.i64_in _ (by omega)
  rw [← hk] at C
  clear hk kb
  go_enter Tryd.func30, Tryd.ntmps30
  go_wp2_with fail
  refine C.out.mono ?_
  rintro e w' ⟨rfl, rfl⟩
  go_wp2_with fail
  go_ret
  exact ⟨by rw [e.out]; rfl, rfl⟩
theorem outer_c (n : Int) (b t : Bool) (h1 : n ≤ 1000000) (w : World) (hT : Tab w) : Calls Tryd.prog 16 #[.int .i64 n, .bool b, .bool t] w fun e w' => e = .returned (.int .i64 (outer n b)) ∧ w = w' := by
  by_cases h : n < 0
  · have E : Hid (outer n b = 0) := Lib.hid (if_pos h)
    have g : decide (n < 0) = true := decide_eq_true h
    clear hT
    go_enter Tryd.func16, Tryd.ntmps16
    go_wp2_with fail
    go_ret
    exact ⟨by rw [E.out]; rfl, rfl⟩
  · have E : Hid (outer n b = headI b + plain n) := Lib.hid (if_neg h)
    have g : decide (n < 0) = false := decide_eq_false h
    have C := length_c n h1 w
    rw [show lengthI n = plain n from if_neg h] at C
    have C := Lib.hid C
    have C1 := Lib.hid (header_c b w hT)
    have kb : 0 ≤ plain n ∧ plain n ≤ 1000100 := by unfold plain; omega
    have kh : 20 ≤ headI b ∧ headI b ≤ 40 := by unfold headI; split <;> omega
    generalize plain n = k at *
    generalize headI b = j at *
    have f1 : IntKind.i64.wrap (j + k) = j + k := IntWalk.i64_in _ (by omega)
    clear kb kh h hT
    go_enter Tryd.func16, Tryd.ntmps16
    go_wp2_with fail
    refine C1.out.mono ?_
    rintro e w' ⟨rfl, rfl⟩
    go_wp2_with fail
    refine C.out.mono ?_
    rintro e w' ⟨rfl, rfl⟩
    go_wp2_with fail
    go_ret
    exact ⟨by rw [E.out]; rfl, rfl⟩
theorem outer_r (n : Int) (b t : Bool) (h1 : n ≤ 1000000) (w : World) : Calls Tryd.prog 17 #[.int .i64 n, .bool b, .bool t] w fun e w' => e = .returned (.int .i64 (outer n b)) ∧ w = w' := by
  by_cases h : n < 0
  · have E : Hid (outer n b = 0) := Lib.hid (if_pos h)
    have g : decide (n < 0) = true := decide_eq_true h
    go_enter Tryd.func17, Tryd.ntmps17
    go_wp2_with fail
    go_ret
    exact ⟨by rw [E.out]; rfl, rfl⟩
  · have E : Hid (outer n b = headI b + plain n) := Lib.hid (if_neg h)
    have g : decide (n < 0) = false := decide_eq_false h
    have C := Lib.hid (length_r n (by omega) h1 w)
    have C1 := Lib.hid (head_r b w)
    have kb : 0 ≤ plain n ∧ plain n ≤ 1000100 := by unfold plain; omega
    have kh : 20 ≤ headI b ∧ headI b ≤ 40 := by unfold headI; split <;> omega
    generalize plain n = k at *
    generalize headI b = j at *
    have f1 : IntKind.i64.wrap (j + k) = j + k := IntWalk.i64_in _ (by omega)
    clear kb kh h
    go_enter Tryd.func17, Tryd.ntmps17
    go_wp2_with fail
    refine C1.out.mono ?_
    rintro e w' ⟨rfl, rfl⟩
    go_wp2_with fail
    refine C.out.mono ?_
    rintro e w' ⟨rfl, rfl⟩
    go_wp2_with fail
    go_ret
    exact ⟨by rw [E.out]; rfl, rfl⟩
end Go.Proofs.YtjeenmeoiidmnaaDoor.Pmt1
