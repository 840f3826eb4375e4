/- The reference: In. -/
import Derived.Test.YtggahoocgijdkaaDoorRefMask
set_option linter.unusedVariables false
namespace Go.Proofs.YtggahoocgijdkaaDoor.RefIn
open Go.RowKit Go.PlainAid Go.Proofs.YtggahoocgijdkaaDoor.Std Go.Proofs.YtggahoocgijdkaaDoor.Grp Go.Proofs.YtggahoocgijdkaaDoor.Arr Go.Proofs.YtggahoocgijdkaaDoor.Mask Go.Proofs.YtggahoocgijdkaaDoor.In Go.Proofs.YtggahoocgijdkaaDoor.Masks Go.Proofs.YtggahoocgijdkaaDoor.RefSmall Go.Proofs.YtggahoocgijdkaaDoor.RefMask

theorem mask_eq (s p : ByteArray) (b : Nat) : ((maskS s b).toList == (maskS p b).toList) = decide (maskB b (bts s) = maskB b (bts p)) := by
  rw [Bool.eq_iff_iff, beq_iff_eq, decide_eq_true_eq, ByteArray.toList_eq, ByteArray.toList_eq]
  constructor
  · intro h
    have e : maskS s b = maskS p b := ByteArray.ext (Array.toList_inj.1 h)
    have := congrArg bts e
    rwa [bts_mask, bts_mask] at this
  · intro h
    unfold maskS
    rw [h]

set_option maxHeartbeats 2000000 in
theorem ref_in (s p : ByteArray) (b : Int) (hs : s.size ≤ 300) (hp : p.size ≤ 300) (w : World) :
    Calls Tryd.prog 17 #[.string s, .agg #[.string p, .int .i64 b]] w fun e w' => e = .returned (.bool (inB s p b)) ∧ Below w.heap.size w w' := by
  obtain ⟨t1, c1, -, R1, k1⟩ := ref_mask s b hs w
  obtain ⟨t2, c2, -, R2, k2⟩ := ref_mask p b hp w
  have M1 := Lib.hid R1
  have M2 := Lib.hid R2
  clear R1 R2
  have hN : Below w.heap.size w (w.alloc (.cells #[.string p, .int .i64 b] 28)) := (Below.refl _ _).alloc (Nat.le_refl _) _
  have hc0 : (w.alloc (.cells #[.string p, .int .i64 b] 28)).cell? ⟨w.heap.size, 0, none⟩ = some (.string p) := (Blk.new w 28 #[.string p, .int .i64 b]).cell 0
  have hc1 : (w.alloc (.cells #[.string p, .int .i64 b] 28)).cell? ⟨w.heap.size, 1, none⟩ = some (.int .i64 b) := (Blk.new w 28 #[.string p, .int .i64 b]).cell 1
  have way : (c1 = 1 ∧ Hid (inB s p b = false)) ∨ (c1 = 0 ∧ c2 = 1 ∧ Hid (inB s p b = false)) ∨ (c1 = 0 ∧ c2 = 0 ∧ ((s.size : Int) == (p.size : Int)) = false ∧ Hid (inB s p b = false)) ∨
      (c1 = 0 ∧ c2 = 0 ∧ ((s.size : Int) == (p.size : Int)) = true ∧ Hid (inB s p b = (t1.toList == t2.toList))) := by
    rcases k1 with ⟨f1, e1, g1⟩ | ⟨f1, e1, g1⟩
    · rcases k2 with ⟨f2, e2, g2⟩ | ⟨f2, e2, g2⟩
      · by_cases hl : s.size = p.size
        · refine .inr (.inr (.inr ⟨g1, g2, by rw [beq_iff_eq]; omega, ?_⟩))
          show inB s p b = _
          unfold inB
          rw [e1, e2, f2, mask_eq, beq_iff_eq.2 hl]
          simp
        · refine .inr (.inr (.inl ⟨g1, g2, by rw [beq_eq_false_iff_ne]; omega, ?_⟩))
          show inB s p b = false
          unfold inB
          simp [hl]
      · refine .inr (.inl ⟨g1, g2, ?_⟩)
        show inB s p b = false
        unfold inB
        simp [f2]
    · refine .inl ⟨g1, ?_⟩
      show inB s p b = false
      unfold inB
      by_cases hl : s.size = p.size
      · rw [← hl, f1]; simp
      · simp [hl]
  clear k1 k2
  rcases way with ⟨rfl, F⟩ | ⟨rfl, rfl, F⟩ | ⟨rfl, rfl, g, F⟩ | ⟨rfl, rfl, g, F⟩
  all_goals
    go_enter Tryd.func17, Tryd.ntmps17
    go_wp2_with fail
    generalize w.alloc (.cells #[.string p, .int .i64 b] 28) = W at hN hc0 hc1 ⊢
    go_wp2_with fail
    refine (M1.out _).mono ?_; rintro e1 w1 ⟨rfl, hb1⟩
    have n1 := hN.trans (hb1.mono hN.size)
    have a0 := keep_cell hc0 hb1
    have a1 := keep_cell hc1 hb1
    clear hc0 hc1
    go_wp2_with fail
    refine (M2.out _).mono ?_; rintro e2 w2 ⟨rfl, hb2⟩
    have n2 := n1.trans (hb2.mono n1.size)
    have b0 := keep_cell a0 hb2
    have b1 := keep_cell a1 hb2
    clear a0 a1
    go_wp2_with fail
    go_ret
    exact ⟨by rw [F.out]; rfl, n2⟩

end Go.Proofs.YtggahoocgijdkaaDoor.RefIn
