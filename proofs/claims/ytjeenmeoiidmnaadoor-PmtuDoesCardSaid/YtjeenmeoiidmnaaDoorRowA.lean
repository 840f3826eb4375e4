/- An element appended to a row that the call owns; what is final stays final. No function is named. -/
import Derived.Test.YtjeenmeoiidmnaaDoorRowN
import Derived.Deep.AppendSrc
set_option linter.unusedVariables false
set_option maxRecDepth 100000
namespace Go.Proofs.YtjeenmeoiidmnaaDoor.RowA
open Go.RowKit Go.Proofs.YtjeenmeoiidmnaaDoor.Mem Go.Proofs.YtjeenmeoiidmnaaDoor.Blk Go.Proofs.YtjeenmeoiidmnaaDoor.RowN
/-- The same, and the block is just as large as the room. -/
structure RowX (e : TypeId) (N : Nat) (w : World) (A : Option Addr) (n c : Nat) (cs : List Value) : Prop where
  row : RowAt e N w A n c cs
  fits : ∀ b X, A = some ⟨b, 0, none⟩ → Blk w b e X → X.size = c * N
theorem RowX.nil (e : TypeId) (N : Nat) (w : World) : RowX e N w none 0 0 [] := ⟨RowAt.nil e N w, fun b X h => by cases h⟩
theorem RowX.keep {e : TypeId} {N : Nat} {w w' : World} {A : Option Addr} {n c : Nat} {cs : List Value} (h : RowX e N w A n c cs) (hb : ∀ k, own A k → k < w.heap.size → w'.heap[k]? = w.heap[k]?) : RowX e N w' A n c cs :=
  ⟨h.row.keep hb, fun b X hA hX => h.fits b X hA ((hb b ⟨_, hA, rfl⟩ (h.row.lt ⟨_, hA, rfl⟩)).symm.trans hX)⟩
theorem RowX.below {e : TypeId} {N : Nat} {w w' : World} {A : Option Addr} {n c : Nat} {cs : List Value} (h : RowX e N w A n c cs) (hb : Below w.heap.size w w') : RowX e N w' A n c cs := h.keep fun k _ hk => hb.block k hk
theorem RowX.of {e : TypeId} {N : Nat} {w : World} {base : Nat} {v : Value} {n : Nat} {cs : List Value} (h : w.ownsRow base e N v n cs) (h1 : ∀ v ∈ cs, v.oneCell' = true) : ∃ A c, v = .slice A n c ∧ RowX e N w A n c cs ∧ ∀ k, v.ownBlock = some k ↔ own A k := by
  rcases h.2 with ⟨hv, h0⟩ | ⟨g, cap, cur, hv, hlt, hh, hnc, hcap, hsz, hxs⟩
  · subst h0
    have : cs = [] := List.length_eq_zero_iff.1 (by simpa using h.1)
    subst this
    refine ⟨none, 0, hv, RowX.nil e N w, fun k => ?_⟩
    rw [hv]
    exact ⟨fun z => (by cases z), fun ⟨a, z, _⟩ => (by cases z)⟩
  · refine ⟨some ⟨g, 0, none⟩, cap, hv, ⟨⟨h.1, hnc, by unfold maxLen at hcap; omega, h1, .inr ⟨g, cur, rfl, hh, by omega, hxs⟩⟩, fun b X hA hX => ?_⟩, fun k => ?_⟩
    · cases hA
      have := hX.symm.trans hh
      simp at this
      rw [this]
      exact hsz
    · rw [hv]
      exact ⟨fun z => (by cases z; exact ⟨_, rfl, rfl⟩), fun ⟨a, z, y⟩ => (by cases z; cases y; rfl)⟩
theorem RowX.owns {e : TypeId} {N : Nat} {w : World} {base : Nat} {A : Option Addr} {n c : Nat} {cs : List Value} (h : RowX e N w A n c cs) (hb : ∀ k, own A k → base ≤ k) (h0 : A = none → n = 0) : w.ownsRow base e N (.slice A n c) n cs := by
  refine ⟨h.row.len, ?_⟩
  rcases h.row.lies with ⟨rfl, hc⟩ | ⟨b, X, rfl, hX, hs, ht⟩
  · have := h0 rfl
    subst this
    subst hc
    exact .inl ⟨rfl, rfl⟩
  · exact .inr ⟨b, c, X, rfl, hb b ⟨_, rfl, rfl⟩, hX, h.row.le, by have := h.row.big; unfold maxLen; omega, h.fits b X rfl hX, ht⟩
theorem row_in {e : TypeId} {N n : Nat} {A : Option Addr} {fin : List Value} {w w' : World} {b : Nat} {X X2 : Array Value} (hA : A = some ⟨b, 0, none⟩) (hX : Blk w b e X) (hX2 : Blk w' b e X2) (hs : X2.size = X.size) (hk : Keep (fun k => ¬ own A k) w w') (ht : X2.toList.take ((n + 1) * N) = fin) :
    ∀ A2 c2, RowX e N w A2 (n + 1) c2 fin → RowX e N w' A2 (n + 1) c2 fin := fun A2 c2 h => by
  by_cases q : own A2 b
  · obtain ⟨b2, Y, rfl, hY, hc2, _⟩ := h.row.some (by omega)
    obtain ⟨a, ha, hab⟩ := q
    cases ha
    obtain rfl : b2 = b := hab
    have : Y = X := by
      have := hY.symm.trans hX
      simp at this
      exact this
    subst this
    refine ⟨⟨h.row.len, h.row.le, h.row.big, h.row.one, .inr ⟨b2, X2, rfl, hX2, by omega, ht⟩⟩, fun b X hA hB => ?_⟩
    cases hA
    have e1 := hB.symm.trans hX2
    simp at e1
    rw [e1, hs]
    exact h.fits _ _ rfl hY
  · refine h.keep fun k hk' hlt => hk.block k (fun o => q ?_) hlt
    subst hA
    obtain ⟨a, ha, hab⟩ := o
    cases ha
    have hab : b = k := hab
    rw [hab]
    exact hk'
/-- An element appended to a row that the call owns. -/
theorem append_row {e sl : TypeId} {N : Nat} {i : TypeInfo} {z : Value} (hu : Tryd.prog.underlying sl = some (.slice e)) (hi : Tryd.prog.info? e = some i) (hz : i.zero = some z) (hN : i.size = N) (hzN : z.cells.size = N) (hb : i.bytes ≤ 4096)
    {A : Option Addr} {n c : Nat} {cs : List Value} {vb : Nat} {V : Array Value} {w : World} (hx : RowX e N w A n c cs) (hV : Blk w vb e V) (hs : V.size = N) (h1 : ∀ v ∈ V.toList, v.oneCell' = true) (hn : n ≤ 1000000) :
    ∃ A' c' w', (∀ ty, (Builtin.append_ #[sl, sl] ty #[.slice A n c, .slice (some ⟨vb, 0, none⟩) 1 1]).run Tryd.prog w = .ok (.slice A' (n + 1) c') w') ∧ RowX e N w' A' (n + 1) c' (cs ++ V.toList) ∧ (A' = A ∨ ∃ k, A' = some ⟨k, 0, none⟩ ∧ w.heap.size ≤ k) ∧ Keep (fun k => ¬ own A k) w w' ∧ ∀ A2 c2, RowX e N w A2 (n + 1) c2 (cs ++ V.toList) → RowX e N w' A2 (n + 1) c2 (cs ++ V.toList) := by
  have h := hx.row
  have hsrc : Src Tryd.prog i.size sl (.slice (some ⟨vb, 0, none⟩) 1 1) 1 V.toList w := Src.ofSlice w hu ⟨vb, 0, none⟩ 1 1 V.toList (by simp [hs, hN]) (fun j u hj => by
    rw [Addr.add_lit, Nat.zero_add, hV.cell]
    simpa using hj) h1
  have fl : (cs ++ V.toList).length = (n + 1) * N := by rw [List.length_append, h.len, Array.length_toList, hs, Nat.add_mul, Nat.one_mul]
  have f1 : ∀ v ∈ cs ++ V.toList, v.oneCell' = true := fun v hv => (List.mem_append.1 hv).elim (h.one v) (h1 v)
  by_cases room : n + 1 ≤ c
  · obtain ⟨b, X, rfl, hX, hXc, hXt⟩ : ∃ b X, A = some ⟨b, 0, none⟩ ∧ Blk w b e X ∧ c * N ≤ X.size ∧ X.toList.take (n * N) = cs := by
      rcases h.lies with ⟨_, h2⟩ | h'
      · omega
      · exact h'
    have mm : (n + 1) * N ≤ c * N := Nat.mul_le_mul_right N room
    have fit : n * i.size + V.toList.length ≤ X.size := by
      have e : n * N + N = (n + 1) * N := by rw [Nat.add_mul, Nat.one_mul]
      rw [hN, Array.length_toList, hs, e]
      exact Nat.le_trans mm hXc
    refine ⟨some ⟨b, 0, none⟩, c, w.setRow b (spl X (n * i.size) V.toList), fun ty => run_append_spl hu hi hX n c ⟨vb, 0, none⟩ 1 1 V.toList (by simp [hs, hN]) (fun j u hj => by
        rw [Addr.add_lit, Nat.zero_add, hV.cell]
        simpa using hj) h1 room fit ty, ⟨⟨fl, room, h.big, f1, .inr ⟨b, _, rfl, setRow_heap _ _ _ (spl X (n * i.size) V.toList) _ _ hX, by rw [spl_size fit]; exact hXc, ?_⟩⟩, fun b' Y hA hY => by
        cases hA
        have e1 := hY.symm.trans (setRow_heap w _ _ (spl X (n * i.size) V.toList) _ _ hX)
        simp at e1
        rw [e1, spl_size fit]
        exact hx.fits _ _ rfl hX⟩, .inl rfl, Keep.row (F := fun k => ¬ own (some ⟨b, 0, none⟩) k) w b _ (fun z => z ⟨_, rfl, rfl⟩), row_in rfl hX (setRow_heap _ _ _ (spl X (n * i.size) V.toList) _ _ hX) (spl_size fit) (Keep.row (F := fun k => ¬ own (some ⟨b, 0, none⟩) k) w b _ (fun z => z ⟨_, rfl, rfl⟩)) ?_⟩
    all_goals
      unfold spl
      rw [hN, hXt]
      exact List.take_left' fl
  · have hold : (Builtin.firstCells i.size n (.slice A n c)).run Tryd.prog w.drew = .ok cs.toArray w.drew := by
      rw [hN]
      rcases h.lies with ⟨rfl, h2⟩ | ⟨b, X, rfl, hX, hXc, hXt⟩
      · have : n = 0 := by have := h.le; omega
        subst this
        have hc : cs = [] := List.length_eq_zero_iff.1 (by simpa using h.len)
        rw [hc]
        exact run_firstCells_none w.drew N 0 0 c
      · exact run_firstCells_some w.drew N n ⟨b, 0, none⟩ n c cs h.len (fun j v hj => by
          rw [Addr.add_lit, Nat.zero_add]
          exact h.cell rfl hj)
    have g2 : grownCap w (n + 1) c e ≤ 9223372036854775807 := by
      have := grownCap_le_maxLen w (n + 1) c e (by unfold maxLen; omega)
      unfold maxLen at this
      omega
    have g1 := grownCap_ge w (n + 1) c e
    have hbb : (n + 1) * i.bytes ≤ 140737488355328 := Nat.le_trans (Nat.mul_le_mul (show n + 1 ≤ 1000001 by omega) hb) (by decide)
    refine ⟨some ⟨w.heap.size, 0, none⟩, grownCap w (n + 1) c e, _, fun ty => run_append_grow_src w sl sl ty e i z hu hi hz A n c cs hold _ 1 V.toList hsrc (by omega) (by omega) (growslice_fits (by omega) hbb), ⟨⟨fl, g1, g2, f1, .inr ⟨_, _, rfl, Blk.new w.drew e _, ?_, ?_⟩⟩, fun b' Y hA hY => ?_⟩, .inr ⟨_, rfl, Nat.le_refl _⟩, Keep.of ((below_drewN (Below.refl w.heap.size w) 1).alloc (Nat.le_refl _) _), fun A2 c2 z => z.below ((below_drewN (Below.refl w.heap.size w) 1).alloc (Nat.le_refl _) _)⟩
    · rw [Array.size_append, List.size_toArray, fl, size_zeroCells, hzN, ← Nat.add_mul]
      exact Nat.mul_le_mul_right N (by omega)
    · rw [Array.toList_append]
      exact List.take_left' fl
    · cases hA
      have e1 := hY.symm.trans (Blk.new w.drew e _)
      simp at e1
      rw [e1, Array.size_append, List.size_toArray, fl, size_zeroCells, hzN, ← Nat.add_mul]
      congr 1
      omega
end Go.Proofs.YtjeenmeoiidmnaaDoor.RowA
