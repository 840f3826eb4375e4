/- The contracts of Counter: the code's, the document's; four bytes of a number. -/
import Derived.Test.YthjbcdjphokjbaaCtrD
import Derived.Test.YthjbcdjphokjbaaAes9
import Derived.Test.YthjbcdjphokjbaaBoth
set_option linter.unusedVariables false
namespace Go.Proofs.Ythjbcdjphokjbaa.Ctr1
open Go.RowKit Go.PlainAid Go.Proofs.Ythjbcdjphokjbaa.Sums Go.Proofs.Ythjbcdjphokjbaa.Mem Go.Proofs.Ythjbcdjphokjbaa.Blk Go.Proofs.Ythjbcdjphokjbaa.Bits3 Go.Proofs.Ythjbcdjphokjbaa.Ints Go.Proofs.Ythjbcdjphokjbaa.CtrD Go.Proofs.Ythjbcdjphokjbaa.AesB Go.Proofs.Ythjbcdjphokjbaa.AesK Go.Proofs.Ythjbcdjphokjbaa.AesR3

theorem ints_app (a b : List Nat) : ints (a ++ b) = ints a ++ ints b := by simp [ints]
theorem ints_len (a : List Nat) : (ints a).length = a.length := by simp [ints]

/-- Counter refuses. -/
def cbad (sn vn : Nat) (n : Int) : Bool := !(decide (sn = 4) && decide (vn = 8) && decide (1 ≤ n) && decide (n ≤ 4294967295))
theorem cbad_cases {sn vn : Nat} {n : Int} (h : cbad sn vn n = true) : sn ≠ 4 ∨ (sn = 4 ∧ vn ≠ 8) ∨ (sn = 4 ∧ vn = 8 ∧ n < 1) ∨ (sn = 4 ∧ vn = 8 ∧ ¬ n < 1 ∧ 4294967295 < n) := by
  simp only [cbad, Bool.not_eq_true', Bool.and_eq_false_iff, decide_eq_false_iff_not] at h
  omega
theorem cbad_false {sn vn : Nat} {n : Int} (h : cbad sn vn n = false) : sn = 4 ∧ vn = 8 ∧ 1 ≤ n ∧ n ≤ 4294967295 := by
  simp only [cbad, Bool.not_eq_false', Bool.and_eq_true, decide_eq_true_eq] at h
  omega

set_option maxHeartbeats 1000000 in
theorem counter_bad (As Av : Option Addr) (sn cs vn cv : Nat) (n : Int) (w : World) (h : cbad sn vn n = true) :
    Calls Try.prog 9 #[.slice As sn cs, .slice Av vn cv, .int .i64 n] w fun e w' => e = .returned (.tuple #[.slice none 0 0, .int .i64 1]) ∧ w = w' := by
  rcases cbad_cases h with h1 | ⟨rfl, h1⟩ | ⟨rfl, rfl, h1⟩ | ⟨rfl, rfl, h1, h2⟩
  · have g1 : ((sn : Int) != 4) = true := by simp; omega
    clear h h1
    go_enter Try.func9, Try.ntmps9
    go_wp2_with fail
    go_ret2
    exact ⟨rfl, rfl⟩
  · have g1 : ((vn : Int) != 8) = true := by simp; omega
    clear h h1
    go_enter Try.func9, Try.ntmps9
    go_wp2_with fail
    go_ret2
    exact ⟨rfl, rfl⟩
  · have g1 : decide (n < 1) = true := decide_eq_true h1
    clear h h1
    go_enter Try.func9, Try.ntmps9
    go_wp2_with fail
    go_ret2
    exact ⟨rfl, rfl⟩
  · have g1 : decide (n < 1) = false := decide_eq_false h1
    have g2 : decide (4294967295 < n) = true := decide_eq_true h2
    clear h h1 h2
    go_enter Try.func9, Try.ntmps9
    go_wp2_with fail
    go_ret2
    exact ⟨rfl, rfl⟩

set_option maxHeartbeats 1000000 in
theorem counter_ref_bad (As Av : Option Addr) (sn cs vn cv : Nat) (n : Int) (w : World) (h : cbad sn vn n = true) :
    Calls Try.prog 10 #[.slice As sn cs, .slice Av vn cv, .int .i64 n] w fun e w' => e = .returned (.tuple #[.slice none 0 0, .int .i64 1]) ∧ w = w' := by
  rcases cbad_cases h with h1 | ⟨rfl, h1⟩ | ⟨rfl, rfl, h1⟩ | ⟨rfl, rfl, h1, h2⟩
  · have g1 : ((sn : Int) != 4) = true := by simp; omega
    clear h h1
    go_enter Try.func10, Try.ntmps10
    go_wp2_with fail
    go_ret2
    exact ⟨rfl, rfl⟩
  · have g1 : ((vn : Int) != 8) = true := by simp; omega
    clear h h1
    go_enter Try.func10, Try.ntmps10
    go_wp2_with fail
    go_ret2
    exact ⟨rfl, rfl⟩
  · have g1 : decide (n < 1) = true := decide_eq_true h1
    clear h h1
    go_enter Try.func10, Try.ntmps10
    go_wp2_with fail
    go_ret2
    exact ⟨rfl, rfl⟩
  · have g1 : decide (n < 1) = false := decide_eq_false h1
    have g2 : decide (4294967295 < n) = true := decide_eq_true h2
    clear h h1 h2
    go_enter Try.func10, Try.ntmps10
    go_wp2_with fail
    go_ret2
    exact ⟨rfl, rfl⟩

theorem four_ref (n : Nat) (hn : n < 4294967296) (w : World) :
    Calls Try.prog 17 #[.int .i64 (n : Int)] w fun e w' => ∃ A, e = .returned (.slice A 4 4) ∧ Holds w' w'.heap.size A 4 4 (ints (four n)) ∧ Below w.heap.size w w' := by
  obtain ⟨z, hz⟩ : ∃ z : Int, z = (n : Int) := ⟨_, rfl⟩
  have z0 : 0 ≤ z := by omega
  have z1 : z ≤ 4294967295 := by omega
  have F : Hid ([z / 16777216, z / 65536 % 256, z / 256 % 256, z % 256] = ints (four n)) := Lib.hid (by subst hz; simp [ints, four]; omega)
  rw [← hz]
  clear hz
  have e1 : z.tdiv 16777216 = z / 16777216 := Int.tdiv_eq_ediv_of_nonneg z0
  have e2 : z.tdiv 65536 = z / 65536 := Int.tdiv_eq_ediv_of_nonneg z0
  have e3 : z.tdiv 256 = z / 256 := Int.tdiv_eq_ediv_of_nonneg z0
  have e4 : z.tmod 256 = z % 256 := Int.tmod_eq_emod_of_nonneg z0
  have e5 : (z / 65536).tmod 256 = z / 65536 % 256 := Int.tmod_eq_emod_of_nonneg (by omega)
  have e6 : (z / 256).tmod 256 = z / 256 % 256 := Int.tmod_eq_emod_of_nonneg (by omega)
  have f1 : IntKind.u8.wrap (z / 16777216) = z / 16777216 := by rw [IntKind.wrap_u8]; omega
  have f2 : IntKind.u8.wrap (z / 65536 % 256) = z / 65536 % 256 := by rw [IntKind.wrap_u8]; omega
  have f3 : IntKind.u8.wrap (z / 256 % 256) = z / 256 % 256 := by rw [IntKind.wrap_u8]; omega
  have f4 : IntKind.u8.wrap (z % 256) = z % 256 := by rw [IntKind.wrap_u8]; omega
  have HL := Lib.hid (Holds.lit w [z / 16777216, z / 65536 % 256, z / 256 % 256, z % 256] #[.int .u8 (z / 16777216), .int .u8 (z / 65536 % 256), .int .u8 (z / 256 % 256), .int .u8 (z % 256)] rfl (by simp [maxLen]) (fun y hy => by simp at hy; omega))
  go_enter Try.func17, Try.ntmps17
  go_wp2_with fail
  go_ret
  exact ⟨_, rfl, by rw [← F.out]; simpa using HL.out, (Below.refl _ _).alloc (Nat.le_refl _) _⟩

set_option maxHeartbeats 1000000 in
theorem counter_ref (As Av : Option Addr) (cs cv : Nat) (sa iv : List Int) (n : Nat) (w : World) (B : Nat) (hs : Holds w B As 4 cs sa) (hv : Holds w B Av 8 cv iv) (hB : B ≤ w.heap.size) (h1 : 1 ≤ n) (h2 : n ≤ 4294967295) :
    Calls Try.prog 10 #[.slice As 4 cs, .slice Av 8 cv, .int .i64 (n : Int)] w fun e w' => ∃ A c, e = .returned (.tuple #[.slice A 16 c, .int .i64 0]) ∧ Holds w' w'.heap.size A 16 c (ints (cnt (nats sa) (nats iv) n)) ∧ Below w.heap.size w w' := by
  have g1 : decide ((n : Int) < 1) = false := decide_eq_false (by omega)
  have g2 : decide ((4294967295 : Int) < (n : Int)) = false := decide_eq_false (by omega)
  have C := Lib.hid (four_ref n (by omega) w)
  have E : Hid (ints (cnt (nats sa) (nats iv) n) = sa ++ (iv ++ (ints (four n) ++ []))) := Lib.hid (by
    rw [cnt, ints_app, ints_app, ints_nats (fun z hz => hs.2.2.2.1 z hz), ints_nats (fun z hz => hv.2.2.2.1 z hz)]; simp)
  have HS := Lib.hid hs
  have HV := Lib.hid hv
  clear hs hv
  go_enter Try.func10, Try.ntmps10
  go_wp2_with fail
  refine C.out.mono ?_
  rintro e w1 ⟨A4, rfl, h4, hb⟩
  have H4 := Lib.hid h4
  have B1 := Lib.hid hb
  clear h4 hb
  go_wp2_with fail
  refine (Both.both_lit (B := w1.heap.size) (Nat.le_refl _) [⟨As, 4, cs, sa⟩, ⟨Av, 8, cv, iv⟩, ⟨A4, 4, 4, ints (four n)⟩] _ _ rfl (Both.mem3 ((HS.out.below (B1.out.mono hB)).more (by have := B1.out.size; omega)) ((HV.out.below (B1.out.mono hB)).more (by have := B1.out.size; omega)) H4.out) _ 3 rfl rfl (by decide) (by show 4 + (8 + (4 + 0)) ≤ 1048576; omega)).mono ?_
  rintro e w2 ⟨A, c, rfl, hh, _, hb⟩
  have HH : Hid (Holds w2 w2.heap.size A 16 c (sa ++ (iv ++ (ints (four n) ++ [])))) := Lib.hid hh
  have HB := Lib.hid (B1.out.trans (hb.mono B1.out.size))
  clear hh hb
  go_wp2_with fail
  go_ret2
  exact ⟨A, c, rfl, by rw [E.out]; exact HH.out, HB.out⟩
end Go.Proofs.Ythjbcdjphokjbaa.Ctr1
