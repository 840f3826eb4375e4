/- Rows that the call owns, with room behind, whose elements take several cells: copied into, cleared, appended to. No program is named. -/
import Derived.Test.YtjeenmeoiidmnaaDoorBlk
import Derived.Test.YtjeenmeoiidmnaaDoorLoads
import Derived.Laws.AppendOwn
import Derived.Laws.IdiomCopy
import Derived.Deep.AppendSrc
import Derived.Lib.AppendZerosOnto
set_option linter.unusedVariables false
namespace Go.Proofs.YtjeenmeoiidmnaaDoor.RowN
open Go.RowKit Go.Proofs.YtjeenmeoiidmnaaDoor.Mem Go.Proofs.YtjeenmeoiidmnaaDoor.Blk
variable {P : Program}
/-- Cells put over a row's cells, from place o on. -/
def spl (X : Array Value) (o : Nat) (vs : List Value) : Array Value := (X.toList.take o ++ vs ++ X.toList.drop (o + vs.length)).toArray
theorem spl_size {X : Array Value} {o : Nat} {vs : List Value} (h : o + vs.length ≤ X.size) : (spl X o vs).size = X.size := by
  simp [spl]
  omega
theorem run_store_spl {w : World} {g : Nat} {t : TypeId} {X : Array Value} (h : Blk w g t X) (o : Nat) (vs : List Value) (hf : o + vs.length ≤ X.size) (h1 : ∀ v ∈ vs, v.oneCell' = true) : (storeCells ⟨g, o, none⟩ vs 0).run P w = .ok () (w.setRow g (spl X o vs)) := by
  have := run_storeCells_at P g o t vs 0 X w h (by simpa using hf) h1
  simpa [spl] using this
theorem run_first {w : World} {N m : Nat} {a : Addr} {n c : Nat} {cs : List Value} (hl : cs.length = m * N) (h : ∀ j v, cs[j]? = some v → w.cell? (a.add j) = some v) : (Builtin.firstCells N m (.slice (some a) n c)).run P w = .ok cs.toArray w := run_firstCells_some w N m a n c cs hl h
/-- 'copy(d, s)' into a block that is known whole. -/
theorem run_copy_spl {w : World} {dT sT e : TypeId} {i : TypeInfo} (hu : P.underlying dT = some (.slice e)) (hi : P.info? e = some i) {g : Nat} {t : TypeId} {X : Array Value} (h : Blk w g t X) (o dLen dCap : Nat) (a : Addr) (sLen sCap m : Nat) (cs : List Value)
    (hm : Nat.min sLen dLen = m) (hn : cs.length = m * i.size) (hsrc : ∀ j v, cs[j]? = some v → w.cell? (a.add j) = some v) (hf : o + cs.length ≤ X.size) (h1 : ∀ v ∈ cs, v.oneCell' = true) (ty : TypeId) :
    (Builtin.copy_ #[dT, sT] ty #[.slice (some ⟨g, o, none⟩) dLen dCap, .slice (some a) sLen sCap]).run P w = .ok (goInt m) (w.setRow g (spl X o cs)) := by
  have hl := run_first (P := P) (n := sLen) (c := sCap) hn hsrc
  have hst := run_store_spl (P := P) h o cs hf h1
  simp [Builtin.copy_, run_underlying hu, Builtin.lenOf, sizeOf, typeInfo, hi, hm, hl, hst]
/-- 'clear(s)' of some elements of such a block. -/
theorem run_clear_spl {w : World} {dT e : TypeId} {z : Value} (hu : P.underlying dT = some (.slice e)) (hz : ∀ w, (zeroValue e).run P w = .ok z w) {g : Nat} {t : TypeId} {X : Array Value} (h : Blk w g t X) (o m c : Nat) (hm : 0 < m) (cs : List Value) (hc : (Builtin.zeroCells z.cells m).toList = cs)
    (hf : o + cs.length ≤ X.size) (h1 : ∀ v ∈ cs, v.oneCell' = true) (ty : TypeId) :
    (Builtin.clear_ #[dT] ty #[.slice (some ⟨g, o, none⟩) m c]).run P w = .ok (.tuple #[]) (w.setRow g (spl X o cs)) := by
  have hst := run_store_spl (P := P) h o cs hf h1
  obtain ⟨k, rfl⟩ : ∃ k, m = k + 1 := ⟨m - 1, by omega⟩
  simp [Builtin.clear_, run_underlying hu, hz, hc, hst]
/-- 'append(s, x...)' with room. -/
theorem run_append_spl {w : World} {t e : TypeId} {i : TypeInfo} (hu : P.underlying t = some (.slice e)) (hi : P.info? e = some i) {g : Nat} {X : Array Value} (h : Blk w g e X) (n c : Nat) (a : Addr) (m k : Nat) (cs : List Value) (hn : cs.length = m * i.size) (hsrc : ∀ j v, cs[j]? = some v → w.cell? (a.add j) = some v)
    (h1 : ∀ v ∈ cs, v.oneCell' = true) (hroom : n + m ≤ c) (hf : n * i.size + cs.length ≤ X.size) (ty : TypeId) :
    (Builtin.append_ #[t, t] ty #[.slice (some ⟨g, 0, none⟩) n c, .slice (some a) m k]).run P w = .ok (.slice (some ⟨g, 0, none⟩) (n + m) c) (w.setRow g (spl X (n * i.size) cs)) :=
  run_append_room w t ty e i hu hi g n c X h a m k cs hn hsrc h1 hroom hf

/-- A row of n elements, N cells each, that the call owns: in a block by itself, with room for c. -/
structure RowAt (e : TypeId) (N : Nat) (w : World) (A : Option Addr) (n c : Nat) (cs : List Value) : Prop where
  len : cs.length = n * N
  le : n ≤ c
  big : c ≤ 9223372036854775807
  one : ∀ v ∈ cs, v.oneCell' = true
  lies : (A = none ∧ c = 0) ∨ ∃ b X, A = some ⟨b, 0, none⟩ ∧ Blk w b e X ∧ c * N ≤ X.size ∧ X.toList.take (n * N) = cs
section
variable {e : TypeId} {N : Nat} {w w' : World} {A : Option Addr} {n c : Nat} {cs : List Value}
theorem RowAt.nil (e : TypeId) (N : Nat) (w : World) : RowAt e N w none 0 0 [] := ⟨by simp, by omega, by omega, fun _ h => absurd h (by simp), .inl ⟨rfl, rfl⟩⟩
/-- The row's own block. -/
def own (A : Option Addr) (k : Nat) : Prop := ∃ a, A = some a ∧ a.block = k
theorem RowAt.keep (h : RowAt e N w A n c cs) (hb : ∀ k, own A k → k < w.heap.size → w'.heap[k]? = w.heap[k]?) : RowAt e N w' A n c cs :=
  ⟨h.len, h.le, h.big, h.one, h.lies.imp id fun ⟨b, X, h1, h2, h3, h4⟩ => ⟨b, X, h1, (hb b ⟨_, h1, rfl⟩ h2.lt).trans h2, h3, h4⟩⟩
theorem RowAt.below (h : RowAt e N w A n c cs) (hb : Below w.heap.size w w') : RowAt e N w' A n c cs := h.keep fun k _ hk => hb.block k hk
theorem RowAt.lt (h : RowAt e N w A n c cs) {k : Nat} (hk : own A k) : k < w.heap.size := by
  obtain ⟨a, rfl, rfl⟩ := hk
  rcases h.lies with ⟨h1, _⟩ | ⟨b, X, h1, h2, _⟩
  · cases h1
  · cases h1; exact h2.lt
theorem RowAt.type (h : RowAt e N w A n c cs) {k : Nat} (hk : own A k) : ∃ X, w.heap[k]? = some (.cells X e (0, 0)) := by
  obtain ⟨a, rfl, rfl⟩ := hk
  rcases h.lies with ⟨h1, _⟩ | ⟨b, X, h1, h2, _⟩
  · cases h1
  · cases h1; exact ⟨X, h2⟩
/-- An element's cells. -/
theorem RowAt.cell (h : RowAt e N w A n c cs) {b : Nat} (hA : A = some ⟨b, 0, none⟩) {j : Nat} {v : Value} (hv : cs[j]? = some v) : w.cell? ⟨b, j, none⟩ = some v := by
  subst hA
  rcases h.lies with ⟨h1, _⟩ | ⟨b', X, h1, h2, h3, h4⟩
  · cases h1
  · cases h1
    rw [h2.cell]
    rw [← h4, List.getElem?_take] at hv
    split at hv
    · simpa using hv
    · cases hv
theorem RowAt.some (h : RowAt e N w A n c cs) (hn : 0 < n) : ∃ b X, A = some ⟨b, 0, none⟩ ∧ Blk w b e X ∧ c * N ≤ X.size ∧ X.toList.take (n * N) = cs := by
  rcases h.lies with ⟨_, h2⟩ | h
  · have := h.le; omega
  · exact h
end
/-- All that is foreign stays. -/
structure Keep (F : Nat → Prop) (w w' : World) : Prop where
  os : w'.os = w.os
  tape : w'.tape = w.tape
  output : w'.output = w.output
  size : w.heap.size ≤ w'.heap.size
  block : ∀ k, F k → k < w.heap.size → w'.heap[k]? = w.heap[k]?
section
variable {F G : Nat → Prop} {w w' w'' : World}
theorem Keep.refl (F : Nat → Prop) (w : World) : Keep F w w := ⟨rfl, rfl, rfl, Nat.le_refl _, fun _ _ _ => rfl⟩
theorem Keep.trans (h : Keep F w w') (k : Keep F w' w'') : Keep F w w'' := ⟨k.os.trans h.os, k.tape.trans h.tape, k.output.trans h.output, Nat.le_trans h.size k.size, fun i f hi => (k.block i f (Nat.lt_of_lt_of_le hi h.size)).trans (h.block i f hi)⟩
theorem Keep.of (h : Below w.heap.size w w') : Keep F w w' := ⟨h.os, h.tape, h.output, h.size, fun k _ hk => h.block k hk⟩
theorem Keep.mono (h : Keep F w w') (k : ∀ i, G i → i < w.heap.size → F i) : Keep G w w' := ⟨h.os, h.tape, h.output, h.size, fun i g hi => h.block i (k i g hi) hi⟩
theorem Keep.below (h : Keep F w w') {B : Nat} (hB : B ≤ w.heap.size) (hF : ∀ k, k < B → F k) : Below B w w' := ⟨h.os, h.tape, h.output, h.size, fun k hk => h.block k (hF k hk) (by omega)⟩
theorem Keep.row (w : World) (g : Nat) (cs : Array Value) (hg : ¬ F g) : Keep F w (w.setRow g cs) := ⟨rfl, rfl, rfl, by simp [World.setRow], fun k f _ => setRow_other w g k cs (fun e => hg (e ▸ f))⟩
theorem Keep.drew (h : Keep F w w') : Keep F w w'.drew := ⟨h.os, h.tape, h.output, h.size, h.block⟩
theorem Keep.drewN (h : Keep F w w') (n : Nat) : Keep F w (w'.drewN n) := ⟨h.os, h.tape, h.output, h.size, h.block⟩
end
end Go.Proofs.YtjeenmeoiidmnaaDoor.RowN
