/- Contracts: what stands ahead, for any protocol, of the code and of the document; the document's Pair and Sum of layer 5. -/
import Derived.Test.YthmleabmklnmcaaDoorAhead
import Derived.Test.YthmleabmklnmcaaDoorRefPseudo
set_option linter.unusedVariables false
namespace Go.Proofs.YthmleabmklnmcaaDoor.Ref5
open Go.RowKit Go.Proofs.YthmleabmklnmcaaDoor.Sums Go.Proofs.YthmleabmklnmcaaDoor.Words Go.Proofs.YthmleabmklnmcaaDoor.Mem Go.Proofs.YthmleabmklnmcaaDoor.Ahead Go.Proofs.YthmleabmklnmcaaDoor.InetSum Go.Proofs.YthmleabmklnmcaaDoor.RefSum Go.Proofs.YthmleabmklnmcaaDoor.RefPseudo

theorem pseudo_any (s d : ByteArray) (p n : Int) (w : World) (hp : paired s d = true) (p0 : 0 ≤ p) (p1 : p ≤ 255) (n0 : 0 ≤ n) (n1 : n ≤ 65535) :
    Calls Tryd.prog 36 #[.string s, .string d, .int .i64 p, .int .i64 n] w fun e w' => e = .returned (.tuple #[.int .i64 (around s d p n), .int .i64 0]) ∧ Below w.heap.size w w' := by
  obtain ⟨e, h⟩ := paired_true hp
  unfold around Ahead.ahead
  rcases h with h | h
  · rw [if_pos h]
    exact Pseudo.pseudo4 s d p n w h (by omega) p0 p1 n0 n1
  · rw [if_neg (by omega)]
    exact Pseudo.pseudo6 s d p n w h (by omega) p0 p1 n0 (by omega)
theorem pair_ref (s d : ByteArray) (w : World) : Calls Tryd.prog 26 #[.string s, .string d] w fun e w' => e = .returned (.bool (paired s d)) ∧ w = w' := by
  have E : Hid (paired s d = (decide (s.size = d.size) && (decide (s.size = 4) || decide (s.size = 16)))) := Lib.hid rfl
  by_cases h : s.size = d.size
  · have g1 : ((s.size : Int) == (d.size : Int)) = true := by simp; omega
    by_cases h4 : s.size = 4
    · have g2 : ((s.size : Int) == 4) = true := by simp; omega
      have F : Hid (paired s d = true) := Lib.hid (by rw [E.out]; simp only [h4, ← h]; decide)
      clear h h4
      go_enter Tryd.func26, Tryd.ntmps26
      go_wp2_with fail
      go_ret
      exact ⟨by rw [F.out]; rfl, rfl⟩
    · have g2 : ((s.size : Int) == 4) = false := by simp; omega
      have F : Hid (paired s d = ((s.size : Int) == 16)) := Lib.hid (by
        rw [E.out]
        by_cases h16 : s.size = 16
        · simp only [h16, ← h]; decide
        · have : ((s.size : Int) == 16) = false := by simp; omega
          rw [this]; simp [h4, h16])
      clear h h4
      go_enter Tryd.func26, Tryd.ntmps26
      go_wp2_with fail
      go_ret
      exact ⟨by rw [F.out]; rfl, rfl⟩
  · have g1 : ((s.size : Int) == (d.size : Int)) = false := by simp; omega
    have F : Hid (paired s d = false) := Lib.hid (by rw [E.out]; simp [h])
    clear h
    go_enter Tryd.func26, Tryd.ntmps26
    go_wp2_with fail
    go_ret
    exact ⟨by rw [F.out]; rfl, rfl⟩
theorem pseudo_ref (s d : ByteArray) (p n : Int) (w : World) (hp : paired s d = true) (p0 : 0 ≤ p) (p1 : p ≤ 255) (n0 : 0 ≤ n) (n1 : n ≤ 65535) :
    Calls Tryd.prog 43 #[.string s, .string d, .int .i64 p, .int .i64 n] w fun e w' => e = .returned (.tuple #[.int .i64 (around s d p n), .int .i64 0]) ∧ Below w.heap.size w w' := by
  obtain ⟨e, h⟩ := paired_true hp
  unfold around Ahead.ahead
  rcases h with h | h
  · rw [if_pos h]
    exact ref4 s d p n w h (by omega) p0 p1 n0 n1
  · rw [if_neg (by omega)]
    exact ref6 s d p n w h (by omega) p0 p1 n0 (by omega)

theorem sum_any5 (s d : ByteArray) (p : Int) (A : Option Addr) (n c : Nat) (l : List Int) (w : World) (B : Nat) (h : Holds w B A n c l) (hB : B ≤ w.heap.size) (hn : n ≤ 65535) (hp : paired s d = true) (p0 : 0 ≤ p) (p1 : p ≤ 255) :
    Calls Tryd.prog 38 #[.slice A n c, .string s, .string d, .int .i64 p] w fun e w' => e = .returned (.int .i64 (whole s d p l)) ∧ Below w.heap.size w w' := by
  have HL := Lib.hid h.1
  have P := Lib.hid (pseudo_ref s d p n w hp p0 p1 (by omega) (by omega))
  have H := Lib.hid h
  have E : Hid (add (around s d p n) (sums 0 l) = whole s d p l) := Lib.hid (by unfold whole; rw [HL.out])
  clear h
  go_enter Tryd.func38, Tryd.ntmps38
  go_wp2_with fail
  refine P.out.mono ?_
  rintro e w1 ⟨rfl, hb⟩
  have B1 := Lib.hid hb
  have S := Lib.hid (sum_ref A n c l w1 B (H.out.below (hb.mono hB)) (by omega))
  clear hb
  go_wp2_with fail
  refine S.out.mono ?_
  rintro e w' ⟨rfl, rfl⟩
  go_wp2_with fail
  refine (add_ref _ _ _).mono ?_
  rintro e w' ⟨rfl, rfl⟩
  rw [E.out]
  go_wp2_with fail
  go_ret
  exact ⟨rfl, B1.out⟩
end Go.Proofs.YthmleabmklnmcaaDoor.Ref5
