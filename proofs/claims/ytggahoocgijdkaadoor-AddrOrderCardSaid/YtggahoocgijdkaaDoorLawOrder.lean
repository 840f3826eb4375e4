/- The law AddrOrder: its walk, for any three texts. -/
import Derived.Test.YtggahoocgijdkaaDoorAwake
import Derived.Test.YtggahoocgijdkaaDoorOrd
set_option linter.unusedVariables false
namespace Go.Proofs.YtggahoocgijdkaaDoor.LawOrder
open Go.RowKit Go.Proofs.YtggahoocgijdkaaDoor.Std Go.Proofs.YtggahoocgijdkaaDoor.Cmp Go.Proofs.YtggahoocgijdkaaDoor.Ord Go.Proofs.YtggahoocgijdkaaDoor.Awake

theorem str_eq (a b : ByteArray) : (a.toList == b.toList) = decide (a = b) := by
  rw [Bool.eq_iff_iff, beq_iff_eq, decide_eq_true_eq, ByteArray.toList_eq, ByteArray.toList_eq]
  constructor
  · intro h
    exact ByteArray.ext (Array.toList_inj.1 h)
  · rintro rfl
    rfl

set_option maxHeartbeats 2000000 in
theorem big (a b c : ByteArray) (w : World) (ha : a.size ≤ 140737488355328) (hb : b.size ≤ 140737488355328) (hc : c.size ≤ 140737488355328) (h : 300 < a.size + b.size + c.size) :
    Calls Tryd.prog 7 #[.string a, .string b, .string c] w fun e w' => e = .returned (.bool true) ∧ Below w.heap.size w w' := by
  go_enter Tryd.func7, Tryd.ntmps7
  go_wp2_with fail
  go_ret
  exact ⟨rfl, Below.refl _ _⟩

set_option maxHeartbeats 4000000 in
theorem small (a b c : ByteArray) (w : World) (hs : Std w) (h : a.size + b.size + c.size ≤ 300) :
    Calls Tryd.prog 7 #[.string a, .string b, .string c] w fun e w' => e = .returned (.bool true) ∧ Below w.heap.size w w' := by
  have xi := ord_in a b
  have hx := ord_zero a b
  have ht := ord_trans a b c
  have C1 := Lib.hid (fun W => cmp_any a b W (by simp only [maxLen]; omega) (by simp only [maxLen]; omega))
  have C2 := Lib.hid (fun W => cmp_any b c W (by simp only [maxLen]; omega) (by simp only [maxLen]; omega))
  have C3 := Lib.hid (fun W => cmp_any b a W (by simp only [maxLen]; omega) (by simp only [maxLen]; omega))
  have C4 := Lib.hid (fun W => cmp_any a c W (by simp only [maxLen]; omega) (by simp only [maxLen]; omega))
  rw [ord_neg a b] at C3
  have e : (a.toList == b.toList) = decide (ordS a b = 0) := by rw [str_eq, decide_eq_decide]; exact hx.symm
  have AW := Lib.hid (fun W (hW : Std W) => awake_any W hW)
  generalize ordS a b = x at xi ht C1 C3 e
  generalize ordS b c = y at ht C2
  generalize ordS a c = z at ht C4
  clear hx
  obtain ⟨x0, x1⟩ := xi
  have ends : x = 1 ∨ 0 < y ∨ (x ≤ 0 ∧ ¬ 0 < y ∧ z ≤ 0) := by
    by_cases h1 : x = 1
    · exact .inl h1
    · by_cases h2 : 0 < y
      · exact .inr (.inl h2)
      · exact .inr (.inr ⟨by omega, h2, ht (by omega) (by omega)⟩)
  clear ht
  have cs : x = 0 ∨ x = 1 ∨ x = -1 := by omega
  have walk : ∀ (n : Bool), (n = true → z ≤ 0) → (n = (decide (x ≤ 0) && decide (y ≤ 0))) →
    Calls Tryd.prog 7 #[.string a, .string b, .string c] w fun e w' => e = .returned (.bool true) ∧ Below w.heap.size w w' := by
    intro n hn hn'
    go_enter Tryd.func7, Tryd.ntmps7
    go_wp2_with fail
    refine (C1.out _).mono ?_; rintro e1 w1 ⟨rfl, hb1⟩
    have h1 := hs.keep hb1
    go_wp2_with fail
    refine (C2.out _).mono ?_; rintro e2 w2 ⟨rfl, hb2⟩
    have h2 := h1.keep hb2
    have n2 := hb1.trans (hb2.mono hb1.size)
    go_wp2_with fail
    refine (AW.out _ h2).mono ?_; rintro e3 w3 ⟨rfl, hb3⟩
    have h3 := h2.keep hb3
    have n3 := n2.trans (hb3.mono n2.size)
    go_wp2_with fail
    refine (C3.out _).mono ?_; rintro e4 w4 ⟨rfl, hb4⟩
    have n4 := n3.trans (hb4.mono n3.size)
    rcases cs with rfl | rfl | rfl
    · cases n with
      | true =>
        have hy : ¬ (y > 0) := by simp at hn'; omega
        have hz := hn rfl
        clear hn hn'
        go_wp2_with fail
        refine (C4.out _).mono ?_; rintro e5 w5 ⟨rfl, hb5⟩
        have n5 := n4.trans (hb5.mono n4.size)
        go_wp2_with fail
        go_ret
        exact ⟨rfl, n5⟩
      | false =>
        have hy : y > 0 := by simp at hn'; omega
        clear hn hn'
        go_wp2_with fail
        go_ret
        exact ⟨rfl, n4⟩
    · go_wp2_with fail
      go_ret
      exact ⟨rfl, n4⟩
    · cases n with
      | true =>
        have hy : ¬ (y > 0) := by simp at hn'; omega
        have hz := hn rfl
        clear hn hn'
        go_wp2_with fail
        refine (C4.out _).mono ?_; rintro e5 w5 ⟨rfl, hb5⟩
        have n5 := n4.trans (hb5.mono n4.size)
        go_wp2_with fail
        go_ret
        exact ⟨rfl, n5⟩
      | false =>
        have hy : y > 0 := by simp at hn'; omega
        clear hn hn'
        go_wp2_with fail
        go_ret
        exact ⟨rfl, n4⟩
  exact walk _ (fun h => by simp at h; omega) rfl

theorem all (a b c : ByteArray) (w : World) (hs : Std w) (ha : a.size ≤ 140737488355328) (hb : b.size ≤ 140737488355328) (hc : c.size ≤ 140737488355328) :
    Calls Tryd.prog 7 #[.string a, .string b, .string c] w fun e w' => e = .returned (.bool true) ∧ Below w.heap.size w w' := by
  by_cases h : a.size + b.size + c.size ≤ 300
  · exact small a b c w hs h
  · exact big a b c w ha hb hc (by omega)

end Go.Proofs.YtggahoocgijdkaaDoor.LawOrder
