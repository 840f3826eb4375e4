/- The contracts of the code's Encrypt; what the document's examples answer. -/
import Derived.Test.YthjbcdjphokjbaaAes8
set_option linter.unusedVariables false
namespace Go.Proofs.Ythjbcdjphokjbaa.Aes9
open Go.RowKit Go.PlainAid Go.Proofs.Ythjbcdjphokjbaa.Sums Go.Proofs.Ythjbcdjphokjbaa.Mem Go.Proofs.Ythjbcdjphokjbaa.Blk Go.Proofs.Ythjbcdjphokjbaa.Bits3 Go.Proofs.Ythjbcdjphokjbaa.Ints Go.Proofs.Ythjbcdjphokjbaa.CutA Go.Proofs.Ythjbcdjphokjbaa.AesF Go.Proofs.Ythjbcdjphokjbaa.AesB Go.Proofs.Ythjbcdjphokjbaa.AesK Go.Proofs.Ythjbcdjphokjbaa.AesR2 Go.Proofs.Ythjbcdjphokjbaa.AesR3 Go.Proofs.Ythjbcdjphokjbaa.Aes1 Go.Proofs.Ythjbcdjphokjbaa.Aes2 Go.Proofs.Ythjbcdjphokjbaa.Aes3 Go.Proofs.Ythjbcdjphokjbaa.Aes4 Go.Proofs.Ythjbcdjphokjbaa.Aes5 Go.Proofs.Ythjbcdjphokjbaa.Aes6 Go.Proofs.Ythjbcdjphokjbaa.Aes7 Go.Proofs.Ythjbcdjphokjbaa.Aes8

theorem ARow.holds {w : World} {g : Nat} {t : TypeId} {l : List Nat} (h : ARow w g t l) (hl : Byt l) (hm : l.length ≤ 1048576) : Holds w w.heap.size (some ⟨g, 0, none⟩) l.length l.length (ints l) := by
  refine ⟨by simp [ints], Nat.le_refl _, by simp only [maxLen]; omega, fun z hz => ints_in hl z hz, fun _ => ⟨g, 0, rfl, h.lt, fun j z hz => ?_⟩⟩
  have hj : j < l.length := by
    rcases Nat.lt_or_ge j l.length with h' | h'
    · exact h'
    · rw [List.getElem?_eq_none (by simpa [ints] using h')] at hz; cases hz
  rw [Nat.zero_add, h.cell j hj, ← ints_getD, List.getD_eq_getElem?_getD, hz]
  rfl
theorem BRow.holds {w : World} {g : Nat} {l : List Nat} (h : BRow w g l) (hl : Byt l) (hm : l.length ≤ 1048576) : Holds w w.heap.size (some ⟨g, 0, none⟩) l.length l.length (ints l) := ARow.holds (t := 5) h hl hm
theorem keys_lens {k : List Nat} (h : k.length = 16 ∨ k.length = 32) : (keys k).length = 176 ∨ (keys k).length = 240 := by
  rw [keys_len h]
  split <;> simp
/-- Keys of a key that may be. -/
theorem keys_ok (A : Option Addr) (n c : Nat) (ks : List Int) (w : World) (B : Nat) (h : Holds w B A n c ks) (hB : B ≤ w.heap.size) (hn : n = 16 ∨ n = 32) :
    Calls Try.prog 18 #[.slice A n c] w fun e w' => ∃ g L, e = .returned (.tuple #[.slice (some ⟨g, 0, none⟩) L L, .int .i64 0]) ∧ (keys (nats ks)).length = L ∧ (L = 176 ∨ L = 240) ∧ w.heap.size ≤ g ∧ BRow w' g (keys (nats ks)) ∧ Below w.heap.size w w' := by
  have hl : (nats ks).length = n := (nats_len ks).trans h.1
  rcases hn with rfl | rfl
  · refine (keys_16 A c ks w B h hB).mono ?_
    rintro e w' ⟨g, he, hg, hr, hb⟩
    exact ⟨g, 176, he, by rw [keys_len (.inl hl), if_pos hl], .inl rfl, hg, hr, hb⟩
  · refine (keys_32 A c ks w B h hB).mono ?_
    rintro e w' ⟨g, he, hg, hr, hb⟩
    exact ⟨g, 240, he, by rw [keys_len (.inr hl), if_neg (by omega)], .inr rfl, hg, hr, hb⟩
/-- May a key, and a block, be encrypted? -/
def mayE (n m : Nat) : Bool := (decide (n = 16) || decide (n = 32)) && decide (m = 16)

set_option maxHeartbeats 1000000 in
theorem enc_bad (A : Option Addr) (n c : Nat) (ks : List Int) (Ai : Option Addr) (m ci : Nat) (w : World) (B : Nat) (h : Holds w B A n c ks) (hB : B ≤ w.heap.size) (hn : n ≤ 140737488355328) (hm : m ≤ 140737488355328) (hb : mayE n m = false) :
    Calls Try.prog 16 #[.slice A n c, .slice Ai m ci] w fun e w' => e = .returned (.tuple #[.slice none 0 0, .int .i64 1]) ∧ Below w.heap.size w w' := by
  by_cases hk : n = 16 ∨ n = 32
  · have hm16 : m ≠ 16 := fun e => by subst e; rcases hk with rfl | rfl <;> simp [mayE] at hb
    have C := Lib.hid (keys_ok A n c ks w B h hB hk)
    have CB : Hid (∀ W g L, L = 176 ∨ L = 240 → Calls Try.prog 25 #[.slice (some ⟨g, 0, none⟩) L L, .slice Ai m ci] W fun e w' => e = .returned (.tuple #[.slice none 0 0, .int .i64 1]) ∧ W = w') := Lib.hid fun W g L hL =>
      block_bad _ _ L L m ci W (by omega) hm (by simp [goodB, hm16])
    clear hb hm16 hk h
    go_enter Try.func16, Try.ntmps16
    go_wp2_with fail
    refine C.out.mono ?_
    rintro e w1 ⟨g, L, rfl, hL, hL2, hg, hr, hb1⟩
    have H2 := Lib.hid hL2
    have HB := Lib.hid hb1
    clear hL hL2 hg hr hb1 C
    go_wp2_with fail
    refine (CB.out _ _ _ H2.out).mono ?_
    rintro e w' ⟨rfl, rfl⟩
    go_wp2_with fail
    go_ret2
    exact ⟨rfl, HB.out⟩
  · have C := Lib.hid (keys_bad A n c w hn (fun e => hk (.inl e)) (fun e => hk (.inr e)))
    clear hk hb h
    go_enter Try.func16, Try.ntmps16
    go_wp2_with fail
    refine C.out.mono ?_
    rintro e w' ⟨rfl, rfl⟩
    go_wp2_with fail
    go_ret2
    exact ⟨rfl, Below.refl _ _⟩

set_option maxHeartbeats 1000000 in
theorem enc_ok (A : Option Addr) (n c : Nat) (ks : List Int) (Ai : Option Addr) (ci : Nat) (ins : List Int) (w : World) (B : Nat) (h : Holds w B A n c ks) (hi : Holds w B Ai 16 ci ins) (hB : B ≤ w.heap.size) (hn : n = 16 ∨ n = 32) :
    Calls Try.prog 16 #[.slice A n c, .slice Ai 16 ci] w fun e w' => ∃ g, e = .returned (.tuple #[.slice (some ⟨g, 0, none⟩) 16 16, .int .i64 0]) ∧ w.heap.size ≤ g ∧ ARow w' g 59 (block (keys (nats ks)) (nats ins)) ∧ Below w.heap.size w w' := by
  have C := Lib.hid (keys_ok A n c ks w B h hB hn)
  have KB := Lib.hid (keys_byt (nats_byt h.2.2.2.1))
  obtain ⟨KK, hKK⟩ : ∃ KK, KK = keys (nats ks) := ⟨_, rfl⟩
  obtain ⟨II, hII⟩ : ∃ II, II = nats ins := ⟨_, rfl⟩
  have KE := Lib.hid hKK
  have IE := Lib.hid hII
  rw [← hKK] at C KB
  have HI := Lib.hid hi
  clear hKK hII h hi
  go_enter Try.func16, Try.ntmps16
  go_wp2_with fail
  refine C.out.mono ?_
  rintro e w1 ⟨g, L, rfl, hL, hL2, hg, hr, hb1⟩
  have H2 := Lib.hid hL2
  have HB := Lib.hid hb1
  have HK : Hid (Holds w1 w1.heap.size (some ⟨g, 0, none⟩) L L (ints KK)) := Lib.hid (by have := BRow.holds hr KB.out (by omega); rwa [hL] at this)
  clear hL hL2 hg hr hb1 C
  go_wp2_with fail
  refine (block_no _ L L (ints KK) Ai ci ins w1 w1.heap.size HK.out ((HI.out.below (HB.out.mono hB)).more (by have := HB.out.size; omega)) (Nat.le_refl _) H2.out).mono ?_
  rintro e w2 ⟨g2, rfl, hg2, hr2, hb2⟩
  rw [nats_ints, ← IE.out] at hr2
  have G2 : Hid (w.heap.size ≤ g2) := Lib.hid (by have := HB.out.size; omega)
  have R2 := Lib.hid hr2
  have B2 := Lib.hid (HB.out.trans (hb2.mono HB.out.size))
  clear hg2 hr2 hb2
  go_wp2_with fail
  go_ret2
  exact ⟨g2, rfl, G2.out, by rw [← KE.out, ← IE.out]; exact R2.out, B2.out⟩
end Go.Proofs.Ythjbcdjphokjbaa.Aes9
