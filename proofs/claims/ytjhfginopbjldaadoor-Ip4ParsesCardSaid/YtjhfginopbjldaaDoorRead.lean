/- A head's numbers are read: number, the closure, walk, read. -/
import Derived.Test.YtjhfginopbjldaaDoorBlk
import Derived.Test.YtjhfginopbjldaaDoorPkt
import Derived.LoopTactic
import Derived.Test.YtjhfginopbjldaaDoorBits
namespace Go.Proofs.YtjhfginopbjldaaDoor.Read
open Go.RowKit Go.Proofs.YtjhfginopbjldaaDoor.Sums Go.Proofs.YtjhfginopbjldaaDoor.Mem Go.Proofs.YtjhfginopbjldaaDoor.Blk Go.Proofs.YtjhfginopbjldaaDoor.Bits

theorem number_two (g o b p c : Nat) (y z : Int) (w : World) (t : TypeId) (cs : Array Value) (hB : Blk w g t cs) (ho : o < cs.size) (hy : w.cell? ⟨b, p, none⟩ = some (.int .u8 y)) (hz : w.cell? ⟨b, p + 1, none⟩ = some (.int .u8 z)) (hne : b ≠ g)
    (y0 : 0 ≤ y) (y1 : y ≤ 255) (z0 : 0 ≤ z) (z1 : z ≤ 255) :
    Calls Tryd.prog 53 #[.pointer (some ⟨g, o, none⟩), .slice (some ⟨b, p, none⟩) 2 c] w fun e w' => e = .returned (.tuple #[]) ∧ Blk w' g t (cs.setIfInBounds o (.int .i64 (256 * y + z))) ∧ Only g w w' := by
  have hc := hB.cell o
  have hf := hB.frozen o
  have e1 := or_zero y0 (show y < 9223372036854775808 by omega)
  have e2 : wrap64 (y * 256) = y * 256 := IntWalk.wrap64_in _ (by omega)
  have e3 := or_byte y0 y1 z0 z1
  have B := Lib.hid hB
  clear hB
  go_enter Tryd.func53, Tryd.ntmps53
  go_wp2
  refine wp_loop_rounds 3 ?_
  rw [rounds_succ]
  go_wp2
  rw [rounds_succ]
  go_wp2
  rw [rounds_succ]
  go_wp2
  go_end0
  refine ⟨rfl, ?_, ((Only.set _ _ _ _).trans (Only.set _ _ _ _)).trans (Only.set _ _ _ _)⟩
  have := ((B.out.put o (.int .i64 0)).put o (.int .i64 y)).put o (.int .i64 (256 * y + z))
  simpa using this

theorem number_one (g o b p c : Nat) (y : Int) (w : World) (t : TypeId) (cs : Array Value) (hB : Blk w g t cs) (ho : o < cs.size) (hy : w.cell? ⟨b, p, none⟩ = some (.int .u8 y)) (hne : b ≠ g)
    (y0 : 0 ≤ y) (y1 : y ≤ 255) :
    Calls Tryd.prog 53 #[.pointer (some ⟨g, o, none⟩), .slice (some ⟨b, p, none⟩) 1 c] w fun e w' => e = .returned (.tuple #[]) ∧ Blk w' g t (cs.setIfInBounds o (.int .i64 y)) ∧ Only g w w' := by
  have hc := hB.cell o
  have hf := hB.frozen o
  have e1 := or_zero y0 (show y < 9223372036854775808 by omega)
  have B := Lib.hid hB
  clear hB
  go_enter Tryd.func53, Tryd.ntmps53
  go_wp2
  refine wp_loop_rounds 2 ?_
  rw [rounds_succ]
  go_wp2
  rw [rounds_succ]
  go_wp2
  go_end0
  refine ⟨rfl, ?_, (Only.set _ _ _ _).trans (Only.set _ _ _ _)⟩
  have := (B.out.put o (.int .i64 0)).put o (.int .i64 y)
  simpa using this

/-- The closure of read, at a field of one byte. -/
theorem step_one (g q o b p n c : Nat) (y : Int) (r : List Int) (w : World) (t : TypeId) (cs : Array Value) (B : Nat) (hg : Blk w g t cs) (ho : o < cs.size) (hq : Blk w q 22 #[.slice (some ⟨b, p, none⟩) (n + 1) (c + 1)]) (h : Holds w B (some ⟨b, p, none⟩) (n + 1) (c + 1) (y :: r)) (hn : 0 < n) (hBg : B ≤ g) (hBq : B ≤ q) (hgq : g ≠ q) :
    Calls Tryd.prog 52 #[.pointer (some ⟨g, o, none⟩), .int .i64 1, .pointer (some ⟨q, 0, none⟩)] w fun e w' => e = .returned (.tuple #[]) ∧
      Blk w' g t (cs.setIfInBounds o (.int .i64 y)) ∧ Blk w' q 22 #[.slice (some ⟨b, p + 1, none⟩) n c] ∧ Holds w' B (some ⟨b, p + 1, none⟩) n c r ∧ Below B w w' ∧ w'.heap.size = w.heap.size := by
  obtain ⟨hl, hnc, hcm, hb, hc⟩ := h
  obtain ⟨b', o', e, hbB, hc⟩ := hc (by omega)
  injection e with e
  injection e with e1 e2
  subst e1 e2
  have hy := hc 0 y rfl
  rw [Nat.add_zero] at hy
  have by' := hb y (by simp)
  have qc := hq.cell 0
  have N := Lib.hid (number_one g o b p (c + 1) y w t cs hg ho hy (by omega) by'.1 by'.2)
  have Q := Lib.hid hq
  unfold maxLen at hcm
  simp at qc
  clear hq hg hy
  go_enter Tryd.func52, Tryd.ntmps52
  go_wp2_with fail
  refine N.out.mono ?_
  rintro e w1 ⟨rfl, g1, on⟩
  have G1 := Lib.hid g1
  have Q1 := Lib.hid (on.blk Q.out (Ne.symm hgq))
  have qc1 : w1.cell? ⟨q, 0, none⟩ = some (.slice (some ⟨b, p, none⟩) (n + 1) (c + 1)) := (Q1.out.cell 0).trans rfl
  have qf1 := Q1.out.frozen 0
  have bel := Lib.hid (on.below hBg)
  have sz := Lib.hid on.size
  clear g1 qc on
  go_wp2_with fail
  go_end0
  refine ⟨rfl, G1.out.far hgq _, by simpa using Q1.out.put 0 (.slice (some ⟨b, p + 1, none⟩) n c), ⟨by simpa using hl, by omega, by simp only [maxLen]; omega, fun z hz => hb z (by simp [hz]), fun _ => ⟨b, p + 1, rfl, hbB, fun j z hz => ?_⟩⟩, bel.out.setCell hBq _, by simp [sz.out]⟩
  have := hc (j + 1) z (by simpa using hz)
  rw [show p + 1 + j = p + (j + 1) by omega]
  exact ((bel.out.setCell hBq _).cell (p := ⟨b, p + (j + 1), none⟩) hbB).trans this

/-- The closure of read, at a field of two. -/
theorem step_two (g q o b p n c : Nat) (y z : Int) (r : List Int) (w : World) (t : TypeId) (cs : Array Value) (B : Nat) (hg : Blk w g t cs) (ho : o < cs.size) (hq : Blk w q 22 #[.slice (some ⟨b, p, none⟩) (n + 2) (c + 2)]) (h : Holds w B (some ⟨b, p, none⟩) (n + 2) (c + 2) (y :: z :: r)) (hn : 0 < n) (hBg : B ≤ g) (hBq : B ≤ q) (hgq : g ≠ q) :
    Calls Tryd.prog 52 #[.pointer (some ⟨g, o, none⟩), .int .i64 2, .pointer (some ⟨q, 0, none⟩)] w fun e w' => e = .returned (.tuple #[]) ∧
      Blk w' g t (cs.setIfInBounds o (.int .i64 (256 * y + z))) ∧ Blk w' q 22 #[.slice (some ⟨b, p + 2, none⟩) n c] ∧ Holds w' B (some ⟨b, p + 2, none⟩) n c r ∧ Below B w w' ∧ w'.heap.size = w.heap.size := by
  obtain ⟨hl, hnc, hcm, hb, hc⟩ := h
  obtain ⟨b', o', e, hbB, hc⟩ := hc (by omega)
  injection e with e
  injection e with e1 e2
  subst e1 e2
  have hy := hc 0 y rfl
  have hz := hc 1 z rfl
  rw [Nat.add_zero] at hy
  have by' := hb y (by simp)
  have bz' := hb z (by simp)
  have qc := hq.cell 0
  have N := Lib.hid (number_two g o b p (c + 2) y z w t cs hg ho hy hz (by omega) by'.1 by'.2 bz'.1 bz'.2)
  have Q := Lib.hid hq
  unfold maxLen at hcm
  simp at qc
  clear hq hg hy hz
  go_enter Tryd.func52, Tryd.ntmps52
  go_wp2_with fail
  refine N.out.mono ?_
  rintro e w1 ⟨rfl, g1, on⟩
  have G1 := Lib.hid g1
  have Q1 := Lib.hid (on.blk Q.out (Ne.symm hgq))
  have qc1 : w1.cell? ⟨q, 0, none⟩ = some (.slice (some ⟨b, p, none⟩) (n + 2) (c + 2)) := (Q1.out.cell 0).trans rfl
  have qf1 := Q1.out.frozen 0
  have bel := Lib.hid (on.below hBg)
  have sz := Lib.hid on.size
  clear g1 qc on
  go_wp2_with fail
  go_end0
  refine ⟨rfl, G1.out.far hgq _, by simpa using Q1.out.put 0 (.slice (some ⟨b, p + 2, none⟩) n c), ⟨by simpa using hl, by omega, by simp only [maxLen]; omega, fun u hu => hb u (by simp [hu]), fun _ => ⟨b, p + 2, rfl, hbB, fun j u hu => ?_⟩⟩, bel.out.setCell hBq _, by simp [sz.out]⟩
  have := hc (j + 2) u (by simpa using hu)
  rw [show p + 2 + j = p + (j + 2) by omega]
  exact ((bel.out.setCell hBq _).cell (p := ⟨b, p + (j + 2), none⟩) hbB).trans this

end Go.Proofs.YtjhfginopbjldaaDoor.Read
