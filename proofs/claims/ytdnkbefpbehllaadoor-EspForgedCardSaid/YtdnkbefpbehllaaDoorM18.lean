/- The contracts of the code's Encrypt; what the document's examples answer. -/
import Derived.Test.YtdnkbefpbehllaaDoorM17
import Derived.Test.YtdnkbefpbehllaaDoorM10
import Derived.Test.YtdnkbefpbehllaaDoorM07
import Derived.Test.YtdnkbefpbehllaaDoorM11
import Derived.Deep.QuietTactic
set_option linter.unusedVariables false
namespace Go.Proofs.YtdnkbefpbehllaaDoor.Aes9
open Go.RowKit Go.PlainAid Go.Proofs.YtdnkbefpbehllaaDoor.Sums Go.Proofs.YtdnkbefpbehllaaDoor.Mem Go.Proofs.YtdnkbefpbehllaaDoor.Blk Go.Proofs.YtdnkbefpbehllaaDoor.Bits3 Go.Proofs.YtdnkbefpbehllaaDoor.Ints Go.Proofs.YtdnkbefpbehllaaDoor.CutA Go.Proofs.YtdnkbefpbehllaaDoor.AesF Go.Proofs.YtdnkbefpbehllaaDoor.AesB Go.Proofs.YtdnkbefpbehllaaDoor.AesK Go.Proofs.YtdnkbefpbehllaaDoor.AesR2 Go.Proofs.YtdnkbefpbehllaaDoor.AesR3 Go.Proofs.YtdnkbefpbehllaaDoor.Aes1 Go.Proofs.YtdnkbefpbehllaaDoor.Aes2 Go.Proofs.YtdnkbefpbehllaaDoor.Aes3 Go.Proofs.YtdnkbefpbehllaaDoor.Aes4 Go.Proofs.YtdnkbefpbehllaaDoor.Aes5 Go.Proofs.YtdnkbefpbehllaaDoor.Aes6 Go.Proofs.YtdnkbefpbehllaaDoor.Aes7 Go.Proofs.YtdnkbefpbehllaaDoor.Aes8

theorem ARow.holds {w : World} {g : Nat} {t : TypeId} {l : List Nat} (h : ARow w g t l) (hl : Byt l) (hm : l.length ≤ 1048576) : Holds w w.heap.size (some ⟨g, 0, none⟩) l.length l.length (ints l) := by
  refine ⟨by simp [ints], Nat.le_refl _, by simp only [maxLen]; omega, fun z hz => ints_in hl z hz, fun _ => ⟨g, 0, rfl, h.lt, fun j z hz => ?_⟩⟩
  have hj : j < l.length := by
    rcases Nat.lt_or_ge j l.length with h' | h'
    · exact h'
    · rw [List.getElem?_eq_none (by simpa [ints] using h')] at hz; cases hz
  rw [Nat.zero_add, h.cell j hj, ← ints_getD, List.getD_eq_getElem?_getD, hz]
  rfl
theorem BRow.holds {w : World} {g : Nat} {l : List Nat} (h : BRow w g l) (hl : Byt l) (hm : l.length ≤ 1048576) : Holds w w.heap.size (some ⟨g, 0, none⟩) l.length l.length (ints l) := ARow.holds (t := 5) h hl hm
theorem keys_lens {k : List Nat} (h : k.length = 16 ∨ k.length = 32) : (keys k).length = 176 ∨ (keys k).length = 240 := by
  rw [keys_len h]
  split <;> simp
/-- Keys of a key that may be. -/
theorem keys_ok (A : Option Addr) (n c : Nat) (ks : List Int) (w : World) (B : Nat) (h : Holds w B A n c ks) (hB : B ≤ w.heap.size) (hn : n = 16 ∨ n = 32) :
    Calls Tryd.prog 45 #[.slice A n c] w fun e w' => ∃ g L, e = .returned (.tuple #[.slice (some ⟨g, 0, none⟩) L L, .int .i64 0]) ∧ (keys (nats ks)).length = L ∧ (L = 176 ∨ L = 240) ∧ w.heap.size ≤ g ∧ BRow w' g (keys (nats ks)) ∧ Below w.heap.size w w' := by
  have hl : (nats ks).length = n := (nats_len ks).trans h.1
  rcases hn with rfl | rfl
  · refine (keys_16 A c ks w B h hB).mono ?_
    rintro e w' ⟨g, he, hg, hr, hb⟩
    exact ⟨g, 176, he, by rw [keys_len (.inl hl), if_pos hl], .inl rfl, hg, hr, hb⟩
  · refine (keys_32 A c ks w B h hB).mono ?_
    rintro e w' ⟨g, he, hg, hr, hb⟩
    exact ⟨g, 240, he, by rw [keys_len (.inr hl), if_neg (by omega)], .inr rfl, hg, hr, hb⟩
/-- May a key, and a block, be encrypted? -/
def mayE (n m : Nat) : Bool := (decide (n = 16) || decide (n = 32)) && decide (m = 16)

end Go.Proofs.YtdnkbefpbehllaaDoor.Aes9

/- The contracts of Counter: the code's, the document's; four bytes of a number. -/
set_option linter.unusedVariables false
namespace Go.Proofs.YtdnkbefpbehllaaDoor.Ctr1
open Go.RowKit Go.PlainAid Go.Proofs.YtdnkbefpbehllaaDoor.Sums Go.Proofs.YtdnkbefpbehllaaDoor.Mem Go.Proofs.YtdnkbefpbehllaaDoor.Blk Go.Proofs.YtdnkbefpbehllaaDoor.Bits3 Go.Proofs.YtdnkbefpbehllaaDoor.Ints Go.Proofs.YtdnkbefpbehllaaDoor.CtrD Go.Proofs.YtdnkbefpbehllaaDoor.AesB Go.Proofs.YtdnkbefpbehllaaDoor.AesK Go.Proofs.YtdnkbefpbehllaaDoor.AesR3

theorem ints_app (a b : List Nat) : ints (a ++ b) = ints a ++ ints b := by simp [ints]
theorem ints_len (a : List Nat) : (ints a).length = a.length := by simp [ints]

/-- Counter refuses. -/
def cbad (sn vn : Nat) (n : Int) : Bool := !(decide (sn = 4) && decide (vn = 8) && decide (1 ≤ n) && decide (n ≤ 4294967295))
theorem cbad_cases {sn vn : Nat} {n : Int} (h : cbad sn vn n = true) : sn ≠ 4 ∨ (sn = 4 ∧ vn ≠ 8) ∨ (sn = 4 ∧ vn = 8 ∧ n < 1) ∨ (sn = 4 ∧ vn = 8 ∧ ¬ n < 1 ∧ 4294967295 < n) := by
  simp only [cbad, Bool.not_eq_true', Bool.and_eq_false_iff, decide_eq_false_iff_not] at h
  omega
theorem cbad_false {sn vn : Nat} {n : Int} (h : cbad sn vn n = false) : sn = 4 ∧ vn = 8 ∧ 1 ≤ n ∧ n ≤ 4294967295 := by
  simp only [cbad, Bool.not_eq_false', Bool.and_eq_true, decide_eq_true_eq] at h
  omega

set_option maxHeartbeats 1000000 in
theorem counter_bad (As Av : Option Addr) (sn cs vn cv : Nat) (n : Int) (w : World) (h : cbad sn vn n = true) :
    Calls Tryd.prog 57 #[.slice As sn cs, .slice Av vn cv, .int .i64 n] w fun e w' => e = .returned (.tuple #[.slice none 0 0, .int .i64 1]) ∧ w = w' := by
  rcases cbad_cases h with h1 | ⟨rfl, h1⟩ | ⟨rfl, rfl, h1⟩ | ⟨rfl, rfl, h1, h2⟩
  · have g1 : ((sn : Int) != 4) = true := by simp; omega
    clear h h1
    go_enter Tryd.func57, Tryd.ntmps57
    go_wp2_with fail
    go_ret2
    exact ⟨rfl, rfl⟩
  · have g1 : ((vn : Int) != 8) = true := by simp; omega
    clear h h1
    go_enter Tryd.func57, Tryd.ntmps57
    go_wp2_with fail
    go_ret2
    exact ⟨rfl, rfl⟩
  · have g1 : decide (n < 1) = true := decide_eq_true h1
    clear h h1
    go_enter Tryd.func57, Tryd.ntmps57
    go_wp2_with fail
    go_ret2
    exact ⟨rfl, rfl⟩
  · have g1 : decide (n < 1) = false := decide_eq_false h1
    have g2 : decide (4294967295 < n) = true := decide_eq_true h2
    clear h h1 h2
    go_enter Tryd.func57, Tryd.ntmps57
    go_wp2_with fail
    go_ret2
    exact ⟨rfl, rfl⟩

theorem four_ref (n : Nat) (hn : n < 4294967296) (w : World) :
    Calls Tryd.prog 30 #[.int .i64 (n : Int)] w fun e w' => ∃ A, e = .returned (.slice A 4 4) ∧ Holds w' w'.heap.size A 4 4 (ints (four n)) ∧ Below w.heap.size w w' := by
  obtain ⟨z, hz⟩ : ∃ z : Int, z = (n : Int) := ⟨_, rfl⟩
  have z0 : 0 ≤ z := by omega
  have z1 : z ≤ 4294967295 := by omega
  have F : Hid ([z / 16777216, z / 65536 % 256, z / 256 % 256, z % 256] = ints (four n)) := Lib.hid (by subst hz; simp [ints, four]; omega)
  rw [← hz]
  clear hz
  have e1 : z.tdiv 16777216 = z / 16777216 := Int.tdiv_eq_ediv_of_nonneg z0
  have e2 : z.tdiv 65536 = z / 65536 := Int.tdiv_eq_ediv_of_nonneg z0
  have e3 : z.tdiv 256 = z / 256 := Int.tdiv_eq_ediv_of_nonneg z0
  have e4 : z.tmod 256 = z % 256 := Int.tmod_eq_emod_of_nonneg z0
  have e5 : (z / 65536).tmod 256 = z / 65536 % 256 := Int.tmod_eq_emod_of_nonneg (by omega)
  have e6 : (z / 256).tmod 256 = z / 256 % 256 := Int.tmod_eq_emod_of_nonneg (by omega)
  have f1 : IntKind.u8.wrap (z / 16777216) = z / 16777216 := by rw [IntKind.wrap_u8]; omega
  have f2 : IntKind.u8.wrap (z / 65536 % 256) = z / 65536 % 256 := by rw [IntKind.wrap_u8]; omega
  have f3 : IntKind.u8.wrap (z / 256 % 256) = z / 256 % 256 := by rw [IntKind.wrap_u8]; omega
  have f4 : IntKind.u8.wrap (z % 256) = z % 256 := by rw [IntKind.wrap_u8]; omega
  have HL := Lib.hid (Holds.lit w [z / 16777216, z / 65536 % 256, z / 256 % 256, z % 256] #[.int .u8 (z / 16777216), .int .u8 (z / 65536 % 256), .int .u8 (z / 256 % 256), .int .u8 (z % 256)] rfl (by simp [maxLen]) (fun y hy => by simp at hy; omega))
  go_enter Tryd.func30, Tryd.ntmps30
  go_wp2_with fail
  go_ret
  exact ⟨_, rfl, by rw [← F.out]; simpa using HL.out, (Below.refl _ _).alloc (Nat.le_refl _) _⟩

end Go.Proofs.YtdnkbefpbehllaaDoor.Ctr1

/- The document's May, number, halves, Length, four, Peek. -/
set_option linter.unusedVariables false
namespace Go.Proofs.YtdnkbefpbehllaaDoor.EspR1
open Go.RowKit Go.Proofs.YtdnkbefpbehllaaDoor.Sums Go.Proofs.YtdnkbefpbehllaaDoor.Mem Go.Proofs.YtdnkbefpbehllaaDoor.Blk Go.Proofs.YtdnkbefpbehllaaDoor.Bits3 Go.Proofs.YtdnkbefpbehllaaDoor.Ints Go.Proofs.YtdnkbefpbehllaaDoor.AesB Go.Proofs.YtdnkbefpbehllaaDoor.PadR Go.Proofs.YtdnkbefpbehllaaDoor.EspD Go.Proofs.YtdnkbefpbehllaaDoor.CutA
open Go.Proofs.YtdnkbefpbehllaaDoor.CtrD (four four_byt)

end Go.Proofs.YtdnkbefpbehllaaDoor.EspR1

