/- The law AddrPrefix: its walk. -/
import Derived.Test.YtggahoocgijdkaaDoorAwake
import Derived.Test.YtggahoocgijdkaaDoorMasks
set_option linter.unusedVariables false
namespace Go.Proofs.YtggahoocgijdkaaDoor.LawPrefix
open Go.RowKit Go.Proofs.YtggahoocgijdkaaDoor.Std Go.Proofs.YtggahoocgijdkaaDoor.Grp Go.Proofs.YtggahoocgijdkaaDoor.Arr Go.Proofs.YtggahoocgijdkaaDoor.Mask Go.Proofs.YtggahoocgijdkaaDoor.In Go.Proofs.YtggahoocgijdkaaDoor.Masks Go.Proofs.YtggahoocgijdkaaDoor.Awake

theorem in_parts {s p : ByteArray} {b : Int} (h : inB s p b = true) : s.size = p.size ∧ fitB p.size b = true ∧ maskB b.toNat (bts s) = maskB b.toNat (bts p) := by
  unfold inB at h
  simpa [and_assoc] using h
theorem in_make {s p : ByteArray} {b : Int} (h : s.size = p.size ∧ fitB p.size b = true ∧ maskB b.toNat (bts s) = maskB b.toNat (bts p)) : inB s p b = true := by
  unfold inB
  simp [h.1, h.2.1, h.2.2]
theorem in_fewer {s p : ByteArray} {b k : Int} (h : inB s p b = true) (h0 : 0 ≤ k) (hk : k ≤ b) : inB s p k = true := by
  obtain ⟨e, f, m⟩ := in_parts h
  refine in_make ⟨e, ?_, ?_⟩
  · unfold fitB at f ⊢
    simp at f ⊢
    omega
  · have := congrArg (maskB k.toNat) m
    rwa [mask_mask, mask_mask, Nat.min_eq_left (by omega)] at this
theorem in_turned {s p : ByteArray} {b : Int} (h : inB s p b = true) : inB p s b = true := by
  obtain ⟨e, f, m⟩ := in_parts h
  exact in_make ⟨e.symm, by rw [e]; exact f, m.symm⟩
theorem in_nought {s p : ByteArray} {b : Int} (h : inB s p b = true) : inB s p 0 = true := by
  obtain ⟨e, f, m⟩ := in_parts h
  refine in_fewer h (Int.le_refl 0) ?_
  unfold fitB at f
  simp at f
  omega

set_option maxHeartbeats 2000000 in
theorem idle (s p : ByteArray) (b k : Int) (w : World) (hs : Std w) (h1 : s.size ≤ 140737488355328) (h2 : p.size ≤ 140737488355328)
    (h : 300 < s.size + p.size ∨ k < 0 ∨ b < k) :
    Calls Tryd.prog 8 #[.string s, .agg #[.string p, .int .i64 b], .int .i64 k] w fun e w' => e = .returned (.bool true) ∧ Below w.heap.size w w' := by
  have AW := Lib.hid (fun W (hW : Std W) => awake_any W hW)
  have hN : Below w.heap.size w (w.alloc (.cells #[.string p, .int .i64 b] 28)) := (Below.refl _ _).alloc (Nat.le_refl _) _
  have hc0 : (w.alloc (.cells #[.string p, .int .i64 b] 28)).cell? ⟨w.heap.size, 0, none⟩ = some (.string p) := (Blk.new w 28 #[.string p, .int .i64 b]).cell 0
  have hc1 : (w.alloc (.cells #[.string p, .int .i64 b] 28)).cell? ⟨w.heap.size, 1, none⟩ = some (.int .i64 b) := (Blk.new w 28 #[.string p, .int .i64 b]).cell 1
  have hS : Std (w.alloc (.cells #[.string p, .int .i64 b] 28)) := hs.keep hN
  by_cases g1 : 300 < s.size + p.size
  · clear h
    go_enter Tryd.func8, Tryd.ntmps8
    go_wp2_with fail
    generalize w.alloc (.cells #[.string p, .int .i64 b] 28) = W at hN hc0 hc1 hS ⊢
    go_wp2_with fail
    refine (AW.out _ hS).mono ?_; rintro e w1 ⟨rfl, hb1⟩
    have n1 := hN.trans (hb1.mono hN.size)
    go_wp2_with fail
    go_ret
    exact ⟨rfl, n1⟩
  · by_cases g2 : k < 0
    · clear h
      go_enter Tryd.func8, Tryd.ntmps8
      go_wp2_with fail
      generalize w.alloc (.cells #[.string p, .int .i64 b] 28) = W at hN hc0 hc1 hS ⊢
      go_wp2_with fail
      refine (AW.out _ hS).mono ?_; rintro e w1 ⟨rfl, hb1⟩
      have n1 := hN.trans (hb1.mono hN.size)
      go_wp2_with fail
      go_ret
      exact ⟨rfl, n1⟩
    · have g3 : b < k := by omega
      clear h
      go_enter Tryd.func8, Tryd.ntmps8
      go_wp2_with fail
      generalize w.alloc (.cells #[.string p, .int .i64 b] 28) = W at hN hc0 hc1 hS ⊢
      go_wp2_with fail
      refine (AW.out _ hS).mono ?_; rintro e w1 ⟨rfl, hb1⟩
      have n1 := hN.trans (hb1.mono hN.size)
      go_wp2_with fail
      go_ret
      exact ⟨rfl, n1⟩

set_option maxHeartbeats 2000000 in
theorem out (s p : ByteArray) (b k : Int) (w : World) (hs : Std w) (h : s.size + p.size ≤ 300) (k0 : 0 ≤ k) (kb : k ≤ b) (hi : inB s p b = false) :
    Calls Tryd.prog 8 #[.string s, .agg #[.string p, .int .i64 b], .int .i64 k] w fun e w' => e = .returned (.bool true) ∧ Below w.heap.size w w' := by
  have AW := Lib.hid (fun W (hW : Std W) => awake_any W hW)
  have I1 := fun W => in_any s p b (by simp only [maxLen]; omega) (by simp only [maxLen]; omega) W
  rw [hi] at I1
  have I1 := Lib.hid I1
  have hN : Below w.heap.size w (w.alloc (.cells #[.string p, .int .i64 b] 28)) := (Below.refl _ _).alloc (Nat.le_refl _) _
  have hc0 : (w.alloc (.cells #[.string p, .int .i64 b] 28)).cell? ⟨w.heap.size, 0, none⟩ = some (.string p) := (Blk.new w 28 #[.string p, .int .i64 b]).cell 0
  have hc1 : (w.alloc (.cells #[.string p, .int .i64 b] 28)).cell? ⟨w.heap.size, 1, none⟩ = some (.int .i64 b) := (Blk.new w 28 #[.string p, .int .i64 b]).cell 1
  have hS : Std (w.alloc (.cells #[.string p, .int .i64 b] 28)) := hs.keep hN
  clear hi
  go_enter Tryd.func8, Tryd.ntmps8
  go_wp2_with fail
  generalize w.alloc (.cells #[.string p, .int .i64 b] 28) = W at hN hc0 hc1 hS ⊢
  go_wp2_with fail
  refine (I1.out _).mono ?_; rintro e w0 ⟨rfl, hb0⟩
  have hS0 := hS.keep hb0
  have n0 := hN.trans (hb0.mono hN.size)
  go_wp2_with fail
  refine (AW.out _ hS0).mono ?_; rintro e w1 ⟨rfl, hb1⟩
  have n1 := n0.trans (hb1.mono n0.size)
  go_wp2_with fail
  go_ret
  exact ⟨rfl, n1⟩

set_option maxHeartbeats 2000000 in
theorem inn (s p : ByteArray) (b k : Int) (w : World) (hs : Std w) (h : s.size + p.size ≤ 300) (k0 : 0 ≤ k) (kb : k ≤ b) (hi : inB s p b = true) :
    Calls Tryd.prog 8 #[.string s, .agg #[.string p, .int .i64 b], .int .i64 k] w fun e w' => e = .returned (.bool true) ∧ Below w.heap.size w w' := by
  have AW := Lib.hid (fun W (hW : Std W) => awake_any W hW)
  have g1 : s.size ≤ maxLen := by simp only [maxLen]; omega
  have g2 : p.size ≤ maxLen := by simp only [maxLen]; omega
  have I1 := fun W => in_any s p b g1 g2 W
  rw [hi] at I1
  have I1 := Lib.hid I1
  have I2 := fun W => in_any s p k g1 g2 W
  rw [in_fewer hi k0 kb] at I2
  have I2 := Lib.hid I2
  have I3 := fun W => in_any p s b g2 g1 W
  rw [in_turned hi] at I3
  have I3 := Lib.hid I3
  have I4 := fun W => in_any s p 0 g1 g2 W
  rw [in_nought hi] at I4
  have I4 := Lib.hid I4
  have hN : Below w.heap.size w (w.alloc (.cells #[.string p, .int .i64 b] 28)) := (Below.refl _ _).alloc (Nat.le_refl _) _
  have hc0 : (w.alloc (.cells #[.string p, .int .i64 b] 28)).cell? ⟨w.heap.size, 0, none⟩ = some (.string p) := (Blk.new w 28 #[.string p, .int .i64 b]).cell 0
  have hc1 : (w.alloc (.cells #[.string p, .int .i64 b] 28)).cell? ⟨w.heap.size, 1, none⟩ = some (.int .i64 b) := (Blk.new w 28 #[.string p, .int .i64 b]).cell 1
  have hS : Std (w.alloc (.cells #[.string p, .int .i64 b] 28)) := hs.keep hN
  have es : ((s.size : Int) == (p.size : Int)) = true := by rw [beq_iff_eq, (in_parts hi).1]
  clear hi g1 g2
  go_enter Tryd.func8, Tryd.ntmps8
  go_wp2_with fail
  generalize w.alloc (.cells #[.string p, .int .i64 b] 28) = W at hN hc0 hc1 hS ⊢
  go_wp2_with fail
  refine (I1.out _).mono ?_; rintro e w0 ⟨rfl, hb0⟩
  have hS0 := hS.keep hb0
  have n0 := hN.trans (hb0.mono hN.size)
  have a0 := keep_cell hc0 hb0
  have a1 := keep_cell hc1 hb0
  clear hc0 hc1
  go_wp2_with fail
  refine (AW.out _ hS0).mono ?_; rintro e w1 ⟨rfl, hb1⟩
  have n1 := n0.trans (hb1.mono n0.size)
  have b0 := keep_cell a0 hb1
  have b1 := keep_cell a1 hb1
  clear a0 a1
  go_wp2_with fail
  refine (I2.out _).mono ?_; rintro e w2 ⟨rfl, hb2⟩
  have n2 := n1.trans (hb2.mono n1.size)
  have a0 := keep_cell b0 hb2
  have a1 := keep_cell b1 hb2
  clear b0 b1
  go_wp2_with fail
  refine (I3.out _).mono ?_; rintro e w3 ⟨rfl, hb3⟩
  have n3 := n2.trans (hb3.mono n2.size)
  have b0 := keep_cell a0 hb3
  have b1 := keep_cell a1 hb3
  clear a0 a1
  go_wp2_with fail
  refine (I4.out _).mono ?_; rintro e w4 ⟨rfl, hb4⟩
  have n4 := n3.trans (hb4.mono n3.size)
  have a0 := keep_cell b0 hb4
  have a1 := keep_cell b1 hb4
  clear b0 b1
  go_wp2_with fail
  go_ret
  exact ⟨rfl, n4⟩

theorem all (s p : ByteArray) (b k : Int) (w : World) (hs : Std w) (h1 : s.size ≤ 140737488355328) (h2 : p.size ≤ 140737488355328) (_ : (Lit.int .i64 b).wf = true) (_ : (Lit.int .i64 k).wf = true) :
    Calls Tryd.prog 8 #[.string s, .agg #[.string p, .int .i64 b], .int .i64 k] w fun e w' => e = .returned (.bool true) ∧ Below w.heap.size w w' := by
  by_cases h : 300 < s.size + p.size ∨ k < 0 ∨ b < k
  · exact idle s p b k w hs h1 h2 h
  · cases hi : inB s p b with
    | true => exact inn s p b k w hs (by omega) (by omega) (by omega) hi
    | false => exact out s p b k w hs (by omega) (by omega) (by omega) hi

end Go.Proofs.YtggahoocgijdkaaDoor.LawPrefix
