/- The law AddrMasks: its walk. -/
import Derived.Test.YtggahoocgijdkaaDoorAwake
import Derived.Test.YtggahoocgijdkaaDoorMasks
set_option linter.unusedVariables false
namespace Go.Proofs.YtggahoocgijdkaaDoor.LawMasks
open Go.RowKit Go.Proofs.YtggahoocgijdkaaDoor.Std Go.Proofs.YtggahoocgijdkaaDoor.Mask Go.Proofs.YtggahoocgijdkaaDoor.In Go.Proofs.YtggahoocgijdkaaDoor.Masks Go.Proofs.YtggahoocgijdkaaDoor.Awake

theorem big (a : ByteArray) (m n : Int) (w : World) (h : 300 < a.size) (ha : a.size ≤ 140737488355328) :
    Calls Tryd.prog 6 #[.string a, .int .i64 m, .int .i64 n] w fun e w' => e = .returned (.bool true) ∧ Below w.heap.size w w' := by
  go_enter Tryd.func6, Tryd.ntmps6
  go_wp2_with fail
  go_ret
  exact ⟨rfl, Below.refl _ _⟩

/-- Mask, at whatever. -/
theorem mask_some (a : ByteArray) (m : Int) (h : a.size ≤ maxLen) : ∃ (t : ByteArray) (c : Int), ∀ w, Calls Tryd.prog 14 #[.string a, .int .i64 m] w fun e w' => e = .returned (.tuple #[.string t, .int .i64 c]) ∧ Below w.heap.size w w' := by
  cases hf : fitB a.size m with
  | true => exact ⟨_, _, fun w => mask_yes a m hf w⟩
  | false => exact ⟨_, _, fun w => (mask_no a m h hf w).mono fun e w' ⟨h1, h2⟩ => ⟨h1, by subst h2; exact Below.refl _ _⟩⟩

theorem noA (a : ByteArray) (m n : Int) (w : World) (hs : Std w) (h : a.size ≤ 300) (hm : fitB a.size m = false) :
    Calls Tryd.prog 6 #[.string a, .int .i64 m, .int .i64 n] w fun e w' => e = .returned (.bool true) ∧ Below w.heap.size w w' := by
  have C1 := Lib.hid (fun W => mask_no a m (by simp only [maxLen]; omega) hm W)
  obtain ⟨t, c, C2⟩ := mask_some a n (by simp only [maxLen]; omega)
  have C2 := Lib.hid C2
  have AW := Lib.hid (fun W (hW : Std W) => awake_any W hW)
  clear hm
  go_enter Tryd.func6, Tryd.ntmps6
  go_wp2_with fail
  refine (C1.out _).mono ?_; rintro e1 w1 ⟨rfl, rfl⟩
  go_wp2_with fail
  refine (C2.out _).mono ?_; rintro e2 w2 ⟨rfl, hb2⟩
  have h2 := hs.keep hb2
  go_wp2_with fail
  refine (AW.out _ h2).mono ?_; rintro e3 w3 ⟨rfl, hb3⟩
  have n3 := hb2.trans (hb3.mono hb2.size)
  go_wp2_with fail
  go_ret
  exact ⟨rfl, n3⟩

theorem noB (a : ByteArray) (m n : Int) (w : World) (hs : Std w) (h : a.size ≤ 300) (hm : fitB a.size m = true) (hn : fitB a.size n = false) :
    Calls Tryd.prog 6 #[.string a, .int .i64 m, .int .i64 n] w fun e w' => e = .returned (.bool true) ∧ Below w.heap.size w w' := by
  have C1 := Lib.hid (fun W => mask_yes a m hm W)
  have C2 := Lib.hid (fun W => mask_no a n (by simp only [maxLen]; omega) hn W)
  have AW := Lib.hid (fun W (hW : Std W) => awake_any W hW)
  generalize maskS a m.toNat = t at C1
  clear hm hn
  go_enter Tryd.func6, Tryd.ntmps6
  go_wp2_with fail
  refine (C1.out _).mono ?_; rintro e1 w1 ⟨rfl, hb1⟩
  have h1 := hs.keep hb1
  go_wp2_with fail
  refine (C2.out _).mono ?_; rintro e2 w2 ⟨rfl, rfl⟩
  go_wp2_with fail
  refine (AW.out _ h1).mono ?_; rintro e3 w3 ⟨rfl, hb3⟩
  have n3 := hb1.trans (hb3.mono hb1.size)
  go_wp2_with fail
  go_ret
  exact ⟨rfl, n3⟩

set_option maxHeartbeats 2000000 in
theorem both (a : ByteArray) (m n : Int) (w : World) (hs : Std w) (h : a.size ≤ 300) (hm : fitB a.size m = true) (hn : fitB a.size n = true) :
    Calls Tryd.prog 6 #[.string a, .int .i64 m, .int .i64 n] w fun e w' => e = .returned (.bool true) ∧ Below w.heap.size w w' := by
  have C1 := Lib.hid (fun W => mask_yes a m hm W)
  have C2 := Lib.hid (fun W => mask_yes a n hn W)
  have C3 := Lib.hid (fun W => mask_yes (maskS a m.toNat) n (by rw [mask_size]; exact hn) W)
  have C4 := Lib.hid (fun W => mask_yes a (min m n) (fit_min _ _ _ hm hn) W)
  have hmn : 0 ≤ m ∧ 0 ≤ n := by
    unfold fitB at hm hn
    simp at hm hn
    omega
  rw [maskS_mask, show min n.toNat m.toNat = (min m n).toNat by omega] at C3
  have I1 := Lib.hid (fun W => in_any a (maskS a m.toNat) m (by simp only [maxLen]; omega) (by rw [mask_size]; simp only [maxLen]; omega) W)
  rw [in_own a m hm] at I1
  have I2 := Lib.hid (fun W => in_any (maskS a n.toNat) a n (by rw [mask_size]; simp only [maxLen]; omega) (by simp only [maxLen]; omega) W)
  rw [in_other a n hn] at I2
  have I3 := Lib.hid (fun (hk : m ≤ n) W => (in_any (maskS a n.toNat) (maskS a m.toNat) m (by rw [mask_size]; simp only [maxLen]; omega) (by rw [mask_size]; simp only [maxLen]; omega) W).mono (fun e w' (h : e = _ ∧ _) => (⟨by rw [h.1, in_less a m n hm hk], h.2⟩ : e = .returned (.bool true) ∧ Below W.heap.size W w')))
  have AW := Lib.hid (fun W (hW : Std W) => awake_any W hW)
  generalize maskS a m.toNat = t1 at C1 C3 I1 I3
  generalize maskS a n.toNat = t2 at C2 I2 I3
  generalize maskS a (min m n).toNat = t3 at C3 C4
  clear hm hn hmn
  have cs : (m ≤ n) ∨ n < m := by omega
  go_enter Tryd.func6, Tryd.ntmps6
  go_wp2_with fail
  refine (C1.out _).mono ?_; rintro e1 w1 ⟨rfl, hb1⟩
  have h1 := hs.keep hb1
  go_wp2_with fail
  refine (C2.out _).mono ?_; rintro e2 w2 ⟨rfl, hb2⟩
  have h2 := h1.keep hb2
  have n2 := hb1.trans (hb2.mono hb1.size)
  go_wp2_with fail
  refine (C3.out _).mono ?_; rintro e3 w3 ⟨rfl, hb3⟩
  have h3 := h2.keep hb3
  have n3 := n2.trans (hb3.mono n2.size)
  go_wp2_with fail
  refine (C4.out _).mono ?_; rintro e4 w4 ⟨rfl, hb4⟩
  have h4 := h3.keep hb4
  have n4 := n3.trans (hb4.mono n3.size)
  go_wp2_with fail
  refine (AW.out _ h4).mono ?_; rintro e5 w5 ⟨rfl, hb5⟩
  have n5 := n4.trans (hb5.mono n4.size)
  go_wp2_with fail
  refine (I1.out _).mono ?_; rintro e6 w6 ⟨rfl, hb6⟩
  have n6 := n5.trans (hb6.mono n5.size)
  go_wp2_with fail
  refine (I2.out _).mono ?_; rintro e7 w7 ⟨rfl, hb7⟩
  have n7 := n6.trans (hb7.mono n6.size)
  rcases cs with hk | hk
  · go_wp2_with fail
    refine (I3.out hk _).mono ?_; rintro e8 w8 ⟨rfl, hb8⟩
    have n8 := n7.trans (hb8.mono n7.size)
    go_wp2_with fail
    go_ret
    exact ⟨rfl, n8⟩
  · go_wp2_with fail
    go_ret
    exact ⟨rfl, n7⟩

theorem all (a : ByteArray) (m n : Int) (w : World) (hs : Std w) (ha : a.size ≤ 140737488355328) (_ : (Lit.int .i64 m).wf = true) (_ : (Lit.int .i64 n).wf = true) :
    Calls Tryd.prog 6 #[.string a, .int .i64 m, .int .i64 n] w fun e w' => e = .returned (.bool true) ∧ Below w.heap.size w w' := by
  by_cases h : a.size ≤ 300
  · cases hm : fitB a.size m with
    | false => exact noA a m n w hs h hm
    | true =>
      cases hn : fitB a.size n with
      | false => exact noB a m n w hs h hm hn
      | true => exact both a m n w hs h hm hn
  · exact big a m n w (by omega) ha

end Go.Proofs.YtggahoocgijdkaaDoor.LawMasks
