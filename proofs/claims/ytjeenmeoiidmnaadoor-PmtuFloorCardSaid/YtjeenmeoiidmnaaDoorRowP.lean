/- Several elements appended to a row that the call owns: those of another row's part, none maybe. No function is named. -/
import Derived.Test.YtjeenmeoiidmnaaDoorRowA
set_option linter.unusedVariables false
set_option maxRecDepth 100000
namespace Go.Proofs.YtjeenmeoiidmnaaDoor.RowP
open Go.RowKit Go.Proofs.YtjeenmeoiidmnaaDoor.Mem Go.Proofs.YtjeenmeoiidmnaaDoor.Blk Go.Proofs.YtjeenmeoiidmnaaDoor.RowN Go.Proofs.YtjeenmeoiidmnaaDoor.RowA
theorem run_append_nothing {w : World} {t tx e : TypeId} {i : TypeInfo} (ht : Tryd.prog.underlying t = some (.slice e)) (hi : Tryd.prog.info? e = some i) (A : Option Addr) (n c : Nat) (hc : n ≤ c) (x : Value) (hs : Src Tryd.prog i.size tx x 0 [] w) (hA : A = none → n = 0) (ty : TypeId) :
    (Builtin.append_ #[t, tx] ty #[.slice A n c, x]).run Tryd.prog w = .ok (.slice A n c) w := by
  rcases hs.kind with ⟨e', hk⟩ | hk
  · cases A <;> simp [Builtin.append_, run_underlying ht, run_underlying hk, sizeOf, typeInfo, hi, hs.len, hs.cells, hc, storeCells]
  · cases A <;> simp [Builtin.append_, run_underlying ht, run_underlying hk, sizeOf, typeInfo, hi, hs.len, hs.cells, hc, storeCells]
theorem append_part {e sl : TypeId} {N : Nat} {i : TypeInfo} {z : Value} (hu : Tryd.prog.underlying sl = some (.slice e)) (hi : Tryd.prog.info? e = some i) (hz : i.zero = some z) (hN : i.size = N) (hzN : z.cells.size = N) (hb : i.bytes ≤ 4096)
    {A : Option Addr} {n c : Nat} {cs : List Value} {w : World} (hx : RowX e N w A n c cs) (hA : A = none → n = 0) (S : Option Addr) (m k : Nat) (vs : List Value) (hl : vs.length = m * N) (hsrc : (S = none ∧ m = 0) ∨ ∃ a, S = some a ∧ ∀ j v, vs[j]? = some v → w.cell? (a.add j) = some v) (h1 : ∀ v ∈ vs, v.oneCell' = true) (hn : n + m ≤ 1000000) :
    ∃ A' c' w', (∀ ty, (Builtin.append_ #[sl, sl] ty #[.slice A n c, .slice S m k]).run Tryd.prog w = .ok (.slice A' (n + m) c') w') ∧ RowX e N w' A' (n + m) c' (cs ++ vs) ∧ (A' = A ∨ ∃ k, A' = some ⟨k, 0, none⟩ ∧ w.heap.size ≤ k) ∧ Keep (fun k => ¬ own A k) w w' := by
  have h := hx.row
  by_cases m0 : m = 0
  · subst m0
    have v0 : vs = [] := List.length_eq_zero_iff.1 (by simpa using hl)
    subst v0
    have hs : Src Tryd.prog i.size sl (.slice S 0 k) 0 [] w := by
      rcases hsrc with ⟨rfl, _⟩ | ⟨a, rfl, _⟩
      · exact Src.ofNil w hu k
      · exact Src.ofSlice w hu a 0 k [] (by simp) (by simp) (by simp)
    exact ⟨A, c, w, fun ty => run_append_nothing hu hi A n c h.le _ hs hA ty, by simpa using hx, .inl rfl, Keep.refl _ _⟩
  obtain ⟨a, rfl, hcell⟩ : ∃ a, S = some a ∧ ∀ j v, vs[j]? = some v → w.cell? (a.add j) = some v := by
    rcases hsrc with ⟨_, h⟩ | h
    · exact absurd h m0
    · exact h
  have hS : Src Tryd.prog i.size sl (.slice (some a) m k) m vs w := Src.ofSlice w hu a m k vs (by rw [hN]; exact hl) hcell h1
  have fl : (cs ++ vs).length = (n + m) * N := by rw [List.length_append, h.len, hl, Nat.add_mul]
  have f1 : ∀ v ∈ cs ++ vs, v.oneCell' = true := fun v hv => (List.mem_append.1 hv).elim (h.one v) (h1 v)
  by_cases room : n + m ≤ c
  · obtain ⟨b, X, rfl, hX, hXc, hXt⟩ : ∃ b X, A = some ⟨b, 0, none⟩ ∧ Blk w b e X ∧ c * N ≤ X.size ∧ X.toList.take (n * N) = cs := by
      rcases h.lies with ⟨_, h2⟩ | h'
      · omega
      · exact h'
    have mm : (n + m) * N ≤ c * N := Nat.mul_le_mul_right N room
    have fit : n * i.size + vs.length ≤ X.size := by
      have e : n * N + m * N = (n + m) * N := by rw [Nat.add_mul]
      rw [hN, hl, e]
      exact Nat.le_trans mm hXc
    refine ⟨some ⟨b, 0, none⟩, c, w.setRow b (spl X (n * i.size) vs), fun ty => run_append_spl hu hi hX n c a m k vs (by rw [hN]; exact hl) hcell h1 room fit ty, ⟨⟨fl, room, h.big, f1, .inr ⟨b, _, rfl, setRow_heap _ _ _ (spl X (n * i.size) vs) _ _ hX, by rw [spl_size fit]; exact hXc, ?_⟩⟩, fun b' Y hA hY => by
        cases hA
        have e1 := hY.symm.trans (setRow_heap w _ _ (spl X (n * i.size) vs) _ _ hX)
        simp at e1
        rw [e1, spl_size fit]
        exact hx.fits _ _ rfl hX⟩, .inl rfl, Keep.row (F := fun k => ¬ own (some ⟨b, 0, none⟩) k) w b _ (fun z => z ⟨_, rfl, rfl⟩)⟩
    unfold spl
    rw [hN, hXt]
    exact List.take_left' fl
  · have hold : (Builtin.firstCells i.size n (.slice A n c)).run Tryd.prog w.drew = .ok cs.toArray w.drew := by
      rw [hN]
      rcases h.lies with ⟨rfl, h2⟩ | ⟨b, X, rfl, hX, hXc, hXt⟩
      · have : n = 0 := by have := h.le; omega
        subst this
        have hc : cs = [] := List.length_eq_zero_iff.1 (by simpa using h.len)
        rw [hc]
        exact run_firstCells_none w.drew N 0 0 c
      · exact run_firstCells_some w.drew N n ⟨b, 0, none⟩ n c cs h.len (fun j v hj => by
          rw [Addr.add_lit, Nat.zero_add]
          exact h.cell rfl hj)
    have g2 : grownCap w (n + m) c e ≤ 9223372036854775807 := by
      have := grownCap_le_maxLen w (n + m) c e (by unfold maxLen; omega)
      unfold maxLen at this
      omega
    have g1 := grownCap_ge w (n + m) c e
    have hbb : (n + m) * i.bytes ≤ 140737488355328 := Nat.le_trans (Nat.mul_le_mul hn hb) (by decide)
    refine ⟨some ⟨w.heap.size, 0, none⟩, grownCap w (n + m) c e, _, fun ty => run_append_grow_src w sl sl ty e i z hu hi hz A n c cs hold _ m vs hS (by omega) (by omega) (growslice_fits (by omega) hbb), ⟨⟨fl, g1, g2, f1, .inr ⟨_, _, rfl, Blk.new w.drew e _, ?_, ?_⟩⟩, fun b' Y hA hY => ?_⟩, .inr ⟨_, rfl, Nat.le_refl _⟩, Keep.of ((below_drewN (Below.refl w.heap.size w) 1).alloc (Nat.le_refl _) _)⟩
    · rw [Array.size_append, List.size_toArray, fl, size_zeroCells, hzN, ← Nat.add_mul]
      exact Nat.mul_le_mul_right N (by omega)
    · rw [Array.toList_append]
      exact List.take_left' fl
    · cases hA
      have e1 := hY.symm.trans (Blk.new w.drew e _)
      simp at e1
      rw [e1, Array.size_append, List.size_toArray, fl, size_zeroCells, hzN, ← Nat.add_mul]
      congr 1
      omega
end Go.Proofs.YtjeenmeoiidmnaaDoor.RowP
