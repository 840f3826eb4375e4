/- The law AddrPrints: its walk. -/
import Derived.Test.YtggahoocgijdkaaDoorRefGap6
import Derived.Test.YtggahoocgijdkaaDoorRefPrint4
import Derived.Test.YtggahoocgijdkaaDoorRefIn
import Derived.Test.YtggahoocgijdkaaDoorAwake
import Derived.Lib.QuietBelow
set_option linter.unusedVariables false
namespace Go.Proofs.YtggahoocgijdkaaDoor.LawPrints
open Go.RowKit Go.Sort Go.Proofs.YtggahoocgijdkaaDoor.Std Go.Proofs.YtggahoocgijdkaaDoor.Grp Go.Proofs.YtggahoocgijdkaaDoor.Arr Go.Proofs.YtggahoocgijdkaaDoor.Mask Go.Proofs.YtggahoocgijdkaaDoor.In Go.Proofs.YtggahoocgijdkaaDoor.Run Go.Proofs.YtggahoocgijdkaaDoor.Cmp Go.Proofs.YtggahoocgijdkaaDoor.Awake

theorem prints (a : ByteArray) (ha : a.size ≤ 300) : ∃ t c, (∀ W, Std W → Calls Tryd.prog 12 #[.string a] W fun e w' => e = .returned (.tuple #[.string t, .int .i64 c]) ∧ Below W.heap.size W w') ∧
    (∀ W, Calls Tryd.prog 13 #[.string a] W fun e w' => e = .returned (.tuple #[.string t, .int .i64 c]) ∧ Below W.heap.size W w') := by
  by_cases h4 : a.size = 4
  · exact ⟨_, _, fun W hW => Print.print_four a h4 W hW, fun W => RefPrint4.print_four a h4 W⟩
  · by_cases h6 : a.size = 16
    · have hl : (grp (bts a)).length = 8 := by rw [grp_len, bts_len, h6]
      have e : grps a = grp (bts a) := by unfold grps pad8; rw [hl]; simp
      refine ⟨_, _, fun W hW => Print.print_six a h6 W hW, fun W => ?_⟩
      rw [e]
      by_cases hr : (Run.runN (grp (bts a))).2 < 2
      · exact RefPrint6.print_plain a h6 hr W
      · exact RefGap6.print_gap a h6 (by omega) W
    · exact ⟨_, _, fun W _ => (Print.print_no a (by simp only [maxLen]; omega) h4 h6 W).mono fun e w' ⟨h1, h2⟩ => ⟨h1, by subst h2; exact Below.refl _ _⟩,
        fun W => (RefPrint4.print_no a ha h4 h6 W).mono fun e w' ⟨h1, h2⟩ => ⟨h1, by subst h2; exact Below.refl _ _⟩⟩

set_option maxHeartbeats 1000000 in
theorem big (a b q : ByteArray) (m n : Int) (w : World) (ha : a.size ≤ 140737488355328) (hb : b.size ≤ 140737488355328) (hq : q.size ≤ 140737488355328) (h : 300 < a.size + b.size + q.size) :
    Calls Tryd.prog 4 #[.string a, .string b, .agg #[.string q, .int .i64 m], .int .i64 n] w fun e w' => e = .returned (.bool true) ∧ Below w.heap.size w w' := by
  have hN : Below w.heap.size w (w.alloc (.cells #[.string q, .int .i64 m] 28)) := (Below.refl _ _).alloc (Nat.le_refl _) _
  have hc0 : (w.alloc (.cells #[.string q, .int .i64 m] 28)).cell? ⟨w.heap.size, 0, none⟩ = some (.string q) := (Blk.new w 28 #[.string q, .int .i64 m]).cell 0
  go_enter Tryd.func4, Tryd.ntmps4
  go_wp2_with fail
  generalize w.alloc (.cells #[.string q, .int .i64 m] 28) = W at hN hc0 ⊢
  go_wp2_with fail
  go_ret
  exact ⟨rfl, hN⟩

set_option maxRecDepth 100000 in
set_option maxHeartbeats 1000000 in
theorem small (a b q : ByteArray) (m n : Int) (w : World) (hs : Std w) (h : a.size + b.size + q.size ≤ 300) :
    Calls Tryd.prog 4 #[.string a, .string b, .agg #[.string q, .int .i64 m], .int .i64 n] w fun e w' => e = .returned (.bool true) ∧ Below w.heap.size w w' := by
  obtain ⟨t, c, P1, P2⟩ := prints a (by omega)
  obtain ⟨u, d, M1, M2, -⟩ := RefMask.ref_mask a n (by omega)  w
  have P1 := Lib.hid P1
  have P2 := Lib.hid P2
  have M1 := Lib.hid M1
  have M2 := Lib.hid M2
  have I1 := Lib.hid (fun W => in_any a q m (by simp only [maxLen]; omega) (by simp only [maxLen]; omega) W)
  have I2 := Lib.hid (fun W => RefIn.ref_in a q m (by omega) (by omega) W)
  have K1 := Lib.hid (fun W => cmp_any a b W (by simp only [maxLen]; omega) (by simp only [maxLen]; omega))
  have K2 : Hid (∀ W, Calls Tryd.prog 19 #[.string a, .string b] W fun e w' => e = .returned (.int .i64 (ordS a b)) ∧ Below W.heap.size W w') := Lib.hid (fun W => (RefSmall.ref_cmp a b (by omega) (by omega) W).mono fun e w' ⟨h1, h2⟩ => ⟨h1, by subst h2; exact Below.refl _ _⟩)
  generalize inB a q m = r at I1 I2
  generalize ordS a b = x at K1 K2
  have hN : Below w.heap.size w (w.alloc (.cells #[.string q, .int .i64 m] 28)) := (Below.refl _ _).alloc (Nat.le_refl _) _
  have hc0 : (w.alloc (.cells #[.string q, .int .i64 m] 28)).cell? ⟨w.heap.size, 0, none⟩ = some (.string q) := (Blk.new w 28 #[.string q, .int .i64 m]).cell 0
  have hc1 : (w.alloc (.cells #[.string q, .int .i64 m] 28)).cell? ⟨w.heap.size, 1, none⟩ = some (.int .i64 m) := (Blk.new w 28 #[.string q, .int .i64 m]).cell 1
  have hS : Std (w.alloc (.cells #[.string q, .int .i64 m] 28)) := hs.keep hN
  go_enter Tryd.func4, Tryd.ntmps4
  go_wp2_with fail
  generalize w.alloc (.cells #[.string q, .int .i64 m] 28) = W at hN hc0 hc1 hS ⊢
  go_wp2_with fail
  refine (P1.out _ hS).mono ?_; rintro e1 w1 ⟨rfl, hb1⟩
  have h1 := hS.keep hb1
  have n1 := hN.trans (hb1.mono hN.size)
  have a0 := keep_cell hc0 hb1
  have a1 := keep_cell hc1 hb1
  clear hc0 hc1
  go_wp2_with fail
  refine (P2.out _).mono ?_; rintro e2 w2 ⟨rfl, hb2⟩
  have h2 := h1.keep hb2
  have n2 := n1.trans (hb2.mono n1.size)
  have b0 := keep_cell a0 hb2
  have b1 := keep_cell a1 hb2
  clear a0 a1
  go_wp2_with fail
  refine (M1.out _).mono ?_; rintro e3 w3 ⟨rfl, hb3⟩
  have h3 := h2.keep hb3
  have n3 := n2.trans (hb3.mono n2.size)
  have a0 := keep_cell b0 hb3
  have a1 := keep_cell b1 hb3
  clear b0 b1
  go_wp2_with fail
  refine (M2.out _).mono ?_; rintro e4 w4 ⟨rfl, hb4⟩
  have h4 := h3.keep hb4
  have n4 := n3.trans (hb4.mono n3.size)
  have b0 := keep_cell a0 hb4
  have b1 := keep_cell a1 hb4
  clear a0 a1
  have k0 := cell_regrown b0
  have k1 := cell_regrown b1
  have DA := fun (d : Nat) (os : Array Obj) => Calls.regrown_of (awake_any (grow (redrawn w4 d) os) (h4.keep (below_regrown w4 d os)))
  have D1 := fun (d : Nat) (os : Array Obj) => Calls.regrown_of (I1.out (grow (redrawn w4 d) os))
  have D2 := fun (d : Nat) (os : Array Obj) => Calls.regrown_of (I2.out (grow (redrawn w4 d) os))
  have D3 := fun (d : Nat) (os : Array Obj) => Calls.regrown_of (K1.out (grow (redrawn w4 d) os))
  have D4 := fun (d : Nat) (os : Array Obj) => Calls.regrown_of (K2.out (grow (redrawn w4 d) os))
  go_wp2_with fail
  refine wp_region_quiet_below (by kernel_rfl) (by kernel_rfl) ?_
  repeat (quiet_step (first | with_reducible exact DA _ _ | with_reducible exact D1 _ _ | with_reducible exact D2 _ _ | with_reducible exact D3 _ _ | with_reducible exact D4 _ _))
  refine wpQuiet_nil ?_
  intro _ hw'
  obtain ⟨⟨dq, osq⟩, hw''⟩ := hw'
  subst hw''
  go_wp2_with fail
  go_ret
  exact ⟨rfl, n4.trans ((below_regrown w4 dq osq).mono n4.size)⟩

theorem all (a b q : ByteArray) (m n : Int) (w : World) (hs : Std w) (ha : a.size ≤ 140737488355328) (hb : b.size ≤ 140737488355328) (hq : q.size ≤ 140737488355328) (_ : (Lit.int .i64 m).wf = true) (_ : (Lit.int .i64 n).wf = true) :
    Calls Tryd.prog 4 #[.string a, .string b, .agg #[.string q, .int .i64 m], .int .i64 n] w fun e w' => e = .returned (.bool true) ∧ Below w.heap.size w w' := by
  by_cases h : a.size + b.size + q.size ≤ 300
  · exact small a b q m n w hs h
  · exact big a b q m n w ha hb hq (by omega)

end Go.Proofs.YtggahoocgijdkaaDoor.LawPrints
