/- Steps for drawn regions 'awake() && ..'. No function is named. -/
import Derived.Test.YtnpggkpcadefjaaDoorM23
import Derived.Test.YtnpggkpcadefjaaDoorBlk
import Derived.Test.YtnpggkpcadefjaaDoorLoads
import Derived.Laws.AppendOwn
import Derived.Laws.IdiomCopy
import Derived.Deep.AppendSrc
import Derived.Lib.AppendZerosOnto
set_option linter.unusedVariables false
namespace Go.Proofs.YtnpggkpcadefjaaDoor.Draw
open Go.RowKit Go.Proofs.YtnpggkpcadefjaaDoor.Mem Go.Proofs.YtnpggkpcadefjaaDoor.Blk Go.Proofs.YtnpggkpcadefjaaDoor.Free Go.Proofs.YtnpggkpcadefjaaDoor.Steps Go.Proofs.YtnpggkpcadefjaaDoor.Sums

theorem st_pick {o : Oper} {a : Act} {w : World} {K : Act → World → Prop} {Q : Exit → Act → World → Prop} (c x y : Operand) (ho : o.op = .pick c x y) (v : Value) (hc : a.eval c = .bool true) (hx : a.eval x = v) (hK : K (a.put o.dst v) w) : Step Tryd.prog o a w K Q :=
  wp_value v (by simp [execOp, ho, hc, hx, asBool]) hK
theorem st_not {o : Oper} {a : Act} {w : World} {K : Act → World → Prop} {Q : Exit → Act → World → Prop} {t : TypeId} (x : Operand) (ho : o.op = .unOp .not t x) (b : Bool) (hx : a.eval x = .bool b) (hK : K (a.put o.dst (.bool (!b))) w) : Step Tryd.prog o a w K Q :=
  wp_value (.bool (!b)) (by simp [execOp, ho, hx, Op.unary]) hK
theorem b_eqs (s : ByteArray) (x y : Operand) (w : World) : (do eqGuard .eql 9 x y (.string s) (.string s); binOp .eql 9 (.string s) (.string s) : Sem Value).run Tryd.prog w = .ok (.bool true) w := by
  simp [go_sem, eqGuard]
theorem b_eqb (a : Bool) (x y : Operand) (w : World) : (do eqGuard .eql 4 x y (.bool a) (.bool a); binOp .eql 4 (.bool a) (.bool a) : Sem Value).run Tryd.prog w = .ok (.bool true) w := by
  simp [go_sem, eqGuard]
theorem b_eqe (a : Int) (x y : Operand) (w : World) : (do eqGuard .eql 39 x y (.int .i64 a) (.int .i64 a); binOp .eql 39 (.int .i64 a) (.int .i64 a) : Sem Value).run Tryd.prog w = .ok (.bool true) w := by
  simp [go_sem, eqGuard]
theorem b_eqi (a : Int) (x y : Operand) (w : World) : (do eqGuard .eql 3 x y (.int .i64 a) (.int .i64 a); binOp .eql 3 (.int .i64 a) (.int .i64 a) : Sem Value).run Tryd.prog w = .ok (.bool true) w := by
  simp [go_sem, eqGuard]
/-- A struct compared with itself. -/
theorem b_agg (t : TypeId) (cs : Array Value) (hg : Tryd.prog.eqGuardType Tryd.prog.depth t = false) (r : Bool) (he : ∀ w, (Op.equalIn 10000 t (.agg cs) (.agg cs)).run Tryd.prog w = .ok r w) (hr : r = true) (x y : Operand) (w : World) :
    (do eqGuard .eql t x y (.agg cs) (.agg cs); binOp .eql t (.agg cs) (.agg cs) : Sem Value).run Tryd.prog w = .ok (.bool true) w := by
  have h1 : (eqGuard .eql t x y (.agg cs) (.agg cs)).run Tryd.prog w = .ok () w := run_eqGuard_agg w _ _ _ _ _ _ hg
  rw [Sem.run_bind, h1, Result.andThen_ok, run_eql_struct, he w, hr]
  rfl
theorem list1 {f : Operand → Value} {x : Operand} {u : Value} (h1 : f x = u) : [x].map f = [u] := by simp [h1]
theorem list2 {f : Operand → Value} {x y : Operand} {u v : Value} (h1 : f x = u) (h2 : f y = v) : [x, y].map f = [u, v] := by simp [h1, h2]
theorem below_1 {w w' : World} (h : Below w.drew.heap.size w.drew w') : Below w.heap.size w w' := (below_drewN (Below.refl w.heap.size w) 1).trans h
/-- A literal of bytes lies there. -/
theorem lit_holds (w : World) (l : List Int) (cs : Array Value) (fz : Nat × Nat) (n g : Nat) (hc : cs = (l.map fun z => Value.int .u8 z).toArray) (hb : Bytes l) (hn : l.length = n) (hg : w.heap.size = g) (hm : n ≤ 1048576) : Holds (w.alloc (.cells cs 5 fz)) (g + 1) (some ⟨g, 0, none⟩) n n l := by
  subst hc hn hg
  refine ⟨rfl, Nat.le_refl _, by simp only [maxLen]; omega, hb, fun _ => ⟨w.heap.size, 0, rfl, by omega, fun j z hz => ?_⟩⟩
  rw [Nat.zero_add, cell_of_row _ w.heap.size j _ 5 fz (heap_alloc_new w _)]
  simp [hz]
end Go.Proofs.YtnpggkpcadefjaaDoor.Draw

/- Rows that the call owns, with room behind, whose elements take several cells: copied into, cleared, appended to. No program is named. -/
set_option linter.unusedVariables false
namespace Go.Proofs.YtnpggkpcadefjaaDoor.RowN
open Go.RowKit Go.Proofs.YtnpggkpcadefjaaDoor.Mem Go.Proofs.YtnpggkpcadefjaaDoor.Blk
variable {P : Program}
/-- Cells put over a row's cells, from place o on. -/
def spl (X : Array Value) (o : Nat) (vs : List Value) : Array Value := (X.toList.take o ++ vs ++ X.toList.drop (o + vs.length)).toArray
theorem spl_size {X : Array Value} {o : Nat} {vs : List Value} (h : o + vs.length ≤ X.size) : (spl X o vs).size = X.size := by
  simp [spl]
  omega
theorem run_store_spl {w : World} {g : Nat} {t : TypeId} {X : Array Value} (h : Blk w g t X) (o : Nat) (vs : List Value) (hf : o + vs.length ≤ X.size) (h1 : ∀ v ∈ vs, v.oneCell' = true) : (storeCells ⟨g, o, none⟩ vs 0).run P w = .ok () (w.setRow g (spl X o vs)) := by
  have := run_storeCells_at P g o t vs 0 X w h (by simpa using hf) h1
  simpa [spl] using this
theorem run_first {w : World} {N m : Nat} {a : Addr} {n c : Nat} {cs : List Value} (hl : cs.length = m * N) (h : ∀ j v, cs[j]? = some v → w.cell? (a.add j) = some v) : (Builtin.firstCells N m (.slice (some a) n c)).run P w = .ok cs.toArray w := run_firstCells_some w N m a n c cs hl h
/-- 'copy(d, s)' into a block that is known whole. -/
theorem run_copy_spl {w : World} {dT sT e : TypeId} {i : TypeInfo} (hu : P.underlying dT = some (.slice e)) (hi : P.info? e = some i) {g : Nat} {t : TypeId} {X : Array Value} (h : Blk w g t X) (o dLen dCap : Nat) (a : Addr) (sLen sCap m : Nat) (cs : List Value)
    (hm : Nat.min sLen dLen = m) (hn : cs.length = m * i.size) (hsrc : ∀ j v, cs[j]? = some v → w.cell? (a.add j) = some v) (hf : o + cs.length ≤ X.size) (h1 : ∀ v ∈ cs, v.oneCell' = true) (ty : TypeId) :
    (Builtin.copy_ #[dT, sT] ty #[.slice (some ⟨g, o, none⟩) dLen dCap, .slice (some a) sLen sCap]).run P w = .ok (goInt m) (w.setRow g (spl X o cs)) := by
  have hl := run_first (P := P) (n := sLen) (c := sCap) hn hsrc
  have hst := run_store_spl (P := P) h o cs hf h1
  simp [Builtin.copy_, run_underlying hu, Builtin.lenOf, sizeOf, typeInfo, hi, hm, hl, hst]
/-- 'clear(s)' of some elements of such a block. -/
theorem run_clear_spl {w : World} {dT e : TypeId} {z : Value} (hu : P.underlying dT = some (.slice e)) (hz : ∀ w, (zeroValue e).run P w = .ok z w) {g : Nat} {t : TypeId} {X : Array Value} (h : Blk w g t X) (o m c : Nat) (hm : 0 < m) (cs : List Value) (hc : (Builtin.zeroCells z.cells m).toList = cs)
    (hf : o + cs.length ≤ X.size) (h1 : ∀ v ∈ cs, v.oneCell' = true) (ty : TypeId) :
    (Builtin.clear_ #[dT] ty #[.slice (some ⟨g, o, none⟩) m c]).run P w = .ok (.tuple #[]) (w.setRow g (spl X o cs)) := by
  have hst := run_store_spl (P := P) h o cs hf h1
  obtain ⟨k, rfl⟩ : ∃ k, m = k + 1 := ⟨m - 1, by omega⟩
  simp [Builtin.clear_, run_underlying hu, hz, hc, hst]
/-- 'append(s, x...)' with room. -/
theorem run_append_spl {w : World} {t e : TypeId} {i : TypeInfo} (hu : P.underlying t = some (.slice e)) (hi : P.info? e = some i) {g : Nat} {X : Array Value} (h : Blk w g e X) (n c : Nat) (a : Addr) (m k : Nat) (cs : List Value) (hn : cs.length = m * i.size) (hsrc : ∀ j v, cs[j]? = some v → w.cell? (a.add j) = some v)
    (h1 : ∀ v ∈ cs, v.oneCell' = true) (hroom : n + m ≤ c) (hf : n * i.size + cs.length ≤ X.size) (ty : TypeId) :
    (Builtin.append_ #[t, t] ty #[.slice (some ⟨g, 0, none⟩) n c, .slice (some a) m k]).run P w = .ok (.slice (some ⟨g, 0, none⟩) (n + m) c) (w.setRow g (spl X (n * i.size) cs)) :=
  run_append_room w t ty e i hu hi g n c X h a m k cs hn hsrc h1 hroom hf

/-- A row of n elements, N cells each, that the call owns: in a block by itself, with room for c. -/
structure RowAt (e : TypeId) (N : Nat) (w : World) (A : Option Addr) (n c : Nat) (cs : List Value) : Prop where
  len : cs.length = n * N
  le : n ≤ c
  big : c ≤ 9223372036854775807
  one : ∀ v ∈ cs, v.oneCell' = true
  lies : (A = none ∧ c = 0) ∨ ∃ b X, A = some ⟨b, 0, none⟩ ∧ Blk w b e X ∧ c * N ≤ X.size ∧ X.toList.take (n * N) = cs
section
variable {e : TypeId} {N : Nat} {w w' : World} {A : Option Addr} {n c : Nat} {cs : List Value}
theorem RowAt.nil (e : TypeId) (N : Nat) (w : World) : RowAt e N w none 0 0 [] := ⟨by simp, by omega, by omega, fun _ h => absurd h (by simp), .inl ⟨rfl, rfl⟩⟩
/-- The row's own block. -/
def own (A : Option Addr) (k : Nat) : Prop := ∃ a, A = some a ∧ a.block = k
theorem RowAt.keep (h : RowAt e N w A n c cs) (hb : ∀ k, own A k → k < w.heap.size → w'.heap[k]? = w.heap[k]?) : RowAt e N w' A n c cs :=
  ⟨h.len, h.le, h.big, h.one, h.lies.imp id fun ⟨b, X, h1, h2, h3, h4⟩ => ⟨b, X, h1, (hb b ⟨_, h1, rfl⟩ h2.lt).trans h2, h3, h4⟩⟩
theorem RowAt.below (h : RowAt e N w A n c cs) (hb : Below w.heap.size w w') : RowAt e N w' A n c cs := h.keep fun k _ hk => hb.block k hk
theorem RowAt.lt (h : RowAt e N w A n c cs) {k : Nat} (hk : own A k) : k < w.heap.size := by
  obtain ⟨a, rfl, rfl⟩ := hk
  rcases h.lies with ⟨h1, _⟩ | ⟨b, X, h1, h2, _⟩
  · cases h1
  · cases h1; exact h2.lt
theorem RowAt.type (h : RowAt e N w A n c cs) {k : Nat} (hk : own A k) : ∃ X, w.heap[k]? = some (.cells X e (0, 0)) := by
  obtain ⟨a, rfl, rfl⟩ := hk
  rcases h.lies with ⟨h1, _⟩ | ⟨b, X, h1, h2, _⟩
  · cases h1
  · cases h1; exact ⟨X, h2⟩
/-- An element's cells. -/
theorem RowAt.cell (h : RowAt e N w A n c cs) {b : Nat} (hA : A = some ⟨b, 0, none⟩) {j : Nat} {v : Value} (hv : cs[j]? = some v) : w.cell? ⟨b, j, none⟩ = some v := by
  subst hA
  rcases h.lies with ⟨h1, _⟩ | ⟨b', X, h1, h2, h3, h4⟩
  · cases h1
  · cases h1
    rw [h2.cell]
    rw [← h4, List.getElem?_take] at hv
    split at hv
    · simpa using hv
    · cases hv
theorem RowAt.some (h : RowAt e N w A n c cs) (hn : 0 < n) : ∃ b X, A = some ⟨b, 0, none⟩ ∧ Blk w b e X ∧ c * N ≤ X.size ∧ X.toList.take (n * N) = cs := by
  rcases h.lies with ⟨_, h2⟩ | h
  · have := h.le; omega
  · exact h
end
/-- All that is foreign stays. -/
structure Keep (F : Nat → Prop) (w w' : World) : Prop where
  os : w'.os = w.os
  tape : w'.tape = w.tape
  output : w'.output = w.output
  size : w.heap.size ≤ w'.heap.size
  block : ∀ k, F k → k < w.heap.size → w'.heap[k]? = w.heap[k]?
section
variable {F G : Nat → Prop} {w w' w'' : World}
theorem Keep.refl (F : Nat → Prop) (w : World) : Keep F w w := ⟨rfl, rfl, rfl, Nat.le_refl _, fun _ _ _ => rfl⟩
theorem Keep.trans (h : Keep F w w') (k : Keep F w' w'') : Keep F w w'' := ⟨k.os.trans h.os, k.tape.trans h.tape, k.output.trans h.output, Nat.le_trans h.size k.size, fun i f hi => (k.block i f (Nat.lt_of_lt_of_le hi h.size)).trans (h.block i f hi)⟩
theorem Keep.of (h : Below w.heap.size w w') : Keep F w w' := ⟨h.os, h.tape, h.output, h.size, fun k _ hk => h.block k hk⟩
theorem Keep.mono (h : Keep F w w') (k : ∀ i, G i → i < w.heap.size → F i) : Keep G w w' := ⟨h.os, h.tape, h.output, h.size, fun i g hi => h.block i (k i g hi) hi⟩
theorem Keep.below (h : Keep F w w') {B : Nat} (hB : B ≤ w.heap.size) (hF : ∀ k, k < B → F k) : Below B w w' := ⟨h.os, h.tape, h.output, h.size, fun k hk => h.block k (hF k hk) (by omega)⟩
theorem Keep.row (w : World) (g : Nat) (cs : Array Value) (hg : ¬ F g) : Keep F w (w.setRow g cs) := ⟨rfl, rfl, rfl, by simp [World.setRow], fun k f _ => setRow_other w g k cs (fun e => hg (e ▸ f))⟩
theorem Keep.drew (h : Keep F w w') : Keep F w w'.drew := ⟨h.os, h.tape, h.output, h.size, h.block⟩
theorem Keep.drewN (h : Keep F w w') (n : Nat) : Keep F w (w'.drewN n) := ⟨h.os, h.tape, h.output, h.size, h.block⟩
end
end Go.Proofs.YtnpggkpcadefjaaDoor.RowN

/- An element appended to a row that the call owns; what is final stays final. No function is named. -/
set_option linter.unusedVariables false
set_option maxRecDepth 100000
namespace Go.Proofs.YtnpggkpcadefjaaDoor.RowA
open Go.RowKit Go.Proofs.YtnpggkpcadefjaaDoor.Mem Go.Proofs.YtnpggkpcadefjaaDoor.Blk Go.Proofs.YtnpggkpcadefjaaDoor.RowN
/-- The same, and the block is just as large as the room. -/
structure RowX (e : TypeId) (N : Nat) (w : World) (A : Option Addr) (n c : Nat) (cs : List Value) : Prop where
  row : RowAt e N w A n c cs
  fits : ∀ b X, A = some ⟨b, 0, none⟩ → Blk w b e X → X.size = c * N
theorem RowX.nil (e : TypeId) (N : Nat) (w : World) : RowX e N w none 0 0 [] := ⟨RowAt.nil e N w, fun b X h => by cases h⟩
theorem RowX.keep {e : TypeId} {N : Nat} {w w' : World} {A : Option Addr} {n c : Nat} {cs : List Value} (h : RowX e N w A n c cs) (hb : ∀ k, own A k → k < w.heap.size → w'.heap[k]? = w.heap[k]?) : RowX e N w' A n c cs :=
  ⟨h.row.keep hb, fun b X hA hX => h.fits b X hA ((hb b ⟨_, hA, rfl⟩ (h.row.lt ⟨_, hA, rfl⟩)).symm.trans hX)⟩
theorem RowX.below {e : TypeId} {N : Nat} {w w' : World} {A : Option Addr} {n c : Nat} {cs : List Value} (h : RowX e N w A n c cs) (hb : Below w.heap.size w w') : RowX e N w' A n c cs := h.keep fun k _ hk => hb.block k hk
theorem RowX.of {e : TypeId} {N : Nat} {w : World} {base : Nat} {v : Value} {n : Nat} {cs : List Value} (h : w.ownsRow base e N v n cs) (h1 : ∀ v ∈ cs, v.oneCell' = true) : ∃ A c, v = .slice A n c ∧ RowX e N w A n c cs ∧ ∀ k, v.ownBlock = some k ↔ own A k := by
  rcases h.2 with ⟨hv, h0⟩ | ⟨g, cap, cur, hv, hlt, hh, hnc, hcap, hsz, hxs⟩
  · subst h0
    have : cs = [] := List.length_eq_zero_iff.1 (by simpa using h.1)
    subst this
    refine ⟨none, 0, hv, RowX.nil e N w, fun k => ?_⟩
    rw [hv]
    exact ⟨fun z => (by cases z), fun ⟨a, z, _⟩ => (by cases z)⟩
  · refine ⟨some ⟨g, 0, none⟩, cap, hv, ⟨⟨h.1, hnc, by unfold maxLen at hcap; omega, h1, .inr ⟨g, cur, rfl, hh, by omega, hxs⟩⟩, fun b X hA hX => ?_⟩, fun k => ?_⟩
    · cases hA
      have := hX.symm.trans hh
      simp at this
      rw [this]
      exact hsz
    · rw [hv]
      exact ⟨fun z => (by cases z; exact ⟨_, rfl, rfl⟩), fun ⟨a, z, y⟩ => (by cases z; cases y; rfl)⟩
theorem RowX.owns {e : TypeId} {N : Nat} {w : World} {base : Nat} {A : Option Addr} {n c : Nat} {cs : List Value} (h : RowX e N w A n c cs) (hb : ∀ k, own A k → base ≤ k) (h0 : A = none → n = 0) : w.ownsRow base e N (.slice A n c) n cs := by
  refine ⟨h.row.len, ?_⟩
  rcases h.row.lies with ⟨rfl, hc⟩ | ⟨b, X, rfl, hX, hs, ht⟩
  · have := h0 rfl
    subst this
    subst hc
    exact .inl ⟨rfl, rfl⟩
  · exact .inr ⟨b, c, X, rfl, hb b ⟨_, rfl, rfl⟩, hX, h.row.le, by have := h.row.big; unfold maxLen; omega, h.fits b X rfl hX, ht⟩
theorem row_in {e : TypeId} {N n : Nat} {A : Option Addr} {fin : List Value} {w w' : World} {b : Nat} {X X2 : Array Value} (hA : A = some ⟨b, 0, none⟩) (hX : Blk w b e X) (hX2 : Blk w' b e X2) (hs : X2.size = X.size) (hk : Keep (fun k => ¬ own A k) w w') (ht : X2.toList.take ((n + 1) * N) = fin) :
    ∀ A2 c2, RowX e N w A2 (n + 1) c2 fin → RowX e N w' A2 (n + 1) c2 fin := fun A2 c2 h => by
  by_cases q : own A2 b
  · obtain ⟨b2, Y, rfl, hY, hc2, _⟩ := h.row.some (by omega)
    obtain ⟨a, ha, hab⟩ := q
    cases ha
    obtain rfl : b2 = b := hab
    have : Y = X := by
      have := hY.symm.trans hX
      simp at this
      exact this
    subst this
    refine ⟨⟨h.row.len, h.row.le, h.row.big, h.row.one, .inr ⟨b2, X2, rfl, hX2, by omega, ht⟩⟩, fun b X hA hB => ?_⟩
    cases hA
    have e1 := hB.symm.trans hX2
    simp at e1
    rw [e1, hs]
    exact h.fits _ _ rfl hY
  · refine h.keep fun k hk' hlt => hk.block k (fun o => q ?_) hlt
    subst hA
    obtain ⟨a, ha, hab⟩ := o
    cases ha
    have hab : b = k := hab
    rw [hab]
    exact hk'
/-- An element appended to a row that the call owns. -/
theorem append_row {e sl : TypeId} {N : Nat} {i : TypeInfo} {z : Value} (hu : Tryd.prog.underlying sl = some (.slice e)) (hi : Tryd.prog.info? e = some i) (hz : i.zero = some z) (hN : i.size = N) (hzN : z.cells.size = N) (hb : i.bytes ≤ 4096)
    {A : Option Addr} {n c : Nat} {cs : List Value} {vb : Nat} {V : Array Value} {w : World} (hx : RowX e N w A n c cs) (hV : Blk w vb e V) (hs : V.size = N) (h1 : ∀ v ∈ V.toList, v.oneCell' = true) (hn : n ≤ 1000000) :
    ∃ A' c' w', (∀ ty, (Builtin.append_ #[sl, sl] ty #[.slice A n c, .slice (some ⟨vb, 0, none⟩) 1 1]).run Tryd.prog w = .ok (.slice A' (n + 1) c') w') ∧ RowX e N w' A' (n + 1) c' (cs ++ V.toList) ∧ (A' = A ∨ ∃ k, A' = some ⟨k, 0, none⟩ ∧ w.heap.size ≤ k) ∧ Keep (fun k => ¬ own A k) w w' ∧ ∀ A2 c2, RowX e N w A2 (n + 1) c2 (cs ++ V.toList) → RowX e N w' A2 (n + 1) c2 (cs ++ V.toList) := by
  have h := hx.row
  have hsrc : Src Tryd.prog i.size sl (.slice (some ⟨vb, 0, none⟩) 1 1) 1 V.toList w := Src.ofSlice w hu ⟨vb, 0, none⟩ 1 1 V.toList (by simp [hs, hN]) (fun j u hj => by
    rw [Addr.add_lit, Nat.zero_add, hV.cell]
    simpa using hj) h1
  have fl : (cs ++ V.toList).length = (n + 1) * N := by rw [List.length_append, h.len, Array.length_toList, hs, Nat.add_mul, Nat.one_mul]
  have f1 : ∀ v ∈ cs ++ V.toList, v.oneCell' = true := fun v hv => (List.mem_append.1 hv).elim (h.one v) (h1 v)
  by_cases room : n + 1 ≤ c
  · obtain ⟨b, X, rfl, hX, hXc, hXt⟩ : ∃ b X, A = some ⟨b, 0, none⟩ ∧ Blk w b e X ∧ c * N ≤ X.size ∧ X.toList.take (n * N) = cs := by
      rcases h.lies with ⟨_, h2⟩ | h'
      · omega
      · exact h'
    have mm : (n + 1) * N ≤ c * N := Nat.mul_le_mul_right N room
    have fit : n * i.size + V.toList.length ≤ X.size := by
      have e : n * N + N = (n + 1) * N := by rw [Nat.add_mul, Nat.one_mul]
      rw [hN, Array.length_toList, hs, e]
      exact Nat.le_trans mm hXc
    refine ⟨some ⟨b, 0, none⟩, c, w.setRow b (spl X (n * i.size) V.toList), fun ty => run_append_spl hu hi hX n c ⟨vb, 0, none⟩ 1 1 V.toList (by simp [hs, hN]) (fun j u hj => by
        rw [Addr.add_lit, Nat.zero_add, hV.cell]
        simpa using hj) h1 room fit ty, ⟨⟨fl, room, h.big, f1, .inr ⟨b, _, rfl, setRow_heap _ _ _ (spl X (n * i.size) V.toList) _ _ hX, by rw [spl_size fit]; exact hXc, ?_⟩⟩, fun b' Y hA hY => by
        cases hA
        have e1 := hY.symm.trans (setRow_heap w _ _ (spl X (n * i.size) V.toList) _ _ hX)
        simp at e1
        rw [e1, spl_size fit]
        exact hx.fits _ _ rfl hX⟩, .inl rfl, Keep.row (F := fun k => ¬ own (some ⟨b, 0, none⟩) k) w b _ (fun z => z ⟨_, rfl, rfl⟩), row_in rfl hX (setRow_heap _ _ _ (spl X (n * i.size) V.toList) _ _ hX) (spl_size fit) (Keep.row (F := fun k => ¬ own (some ⟨b, 0, none⟩) k) w b _ (fun z => z ⟨_, rfl, rfl⟩)) ?_⟩
    all_goals
      unfold spl
      rw [hN, hXt]
      exact List.take_left' fl
  · have hold : (Builtin.firstCells i.size n (.slice A n c)).run Tryd.prog w.drew = .ok cs.toArray w.drew := by
      rw [hN]
      rcases h.lies with ⟨rfl, h2⟩ | ⟨b, X, rfl, hX, hXc, hXt⟩
      · have : n = 0 := by have := h.le; omega
        subst this
        have hc : cs = [] := List.length_eq_zero_iff.1 (by simpa using h.len)
        rw [hc]
        exact run_firstCells_none w.drew N 0 0 c
      · exact run_firstCells_some w.drew N n ⟨b, 0, none⟩ n c cs h.len (fun j v hj => by
          rw [Addr.add_lit, Nat.zero_add]
          exact h.cell rfl hj)
    have g2 : grownCap w (n + 1) c e ≤ 9223372036854775807 := by
      have := grownCap_le_maxLen w (n + 1) c e (by unfold maxLen; omega)
      unfold maxLen at this
      omega
    have g1 := grownCap_ge w (n + 1) c e
    have hbb : (n + 1) * i.bytes ≤ 140737488355328 := Nat.le_trans (Nat.mul_le_mul (show n + 1 ≤ 1000001 by omega) hb) (by decide)
    refine ⟨some ⟨w.heap.size, 0, none⟩, grownCap w (n + 1) c e, _, fun ty => run_append_grow_src w sl sl ty e i z hu hi hz A n c cs hold _ 1 V.toList hsrc (by omega) (by omega) (growslice_fits (by omega) hbb), ⟨⟨fl, g1, g2, f1, .inr ⟨_, _, rfl, Blk.new w.drew e _, ?_, ?_⟩⟩, fun b' Y hA hY => ?_⟩, .inr ⟨_, rfl, Nat.le_refl _⟩, Keep.of ((below_drewN (Below.refl w.heap.size w) 1).alloc (Nat.le_refl _) _), fun A2 c2 z => z.below ((below_drewN (Below.refl w.heap.size w) 1).alloc (Nat.le_refl _) _)⟩
    · rw [Array.size_append, List.size_toArray, fl, size_zeroCells, hzN, ← Nat.add_mul]
      exact Nat.mul_le_mul_right N (by omega)
    · rw [Array.toList_append]
      exact List.take_left' fl
    · cases hA
      have e1 := hY.symm.trans (Blk.new w.drew e _)
      simp at e1
      rw [e1, Array.size_append, List.size_toArray, fl, size_zeroCells, hzN, ← Nat.add_mul]
      congr 1
      omega
end Go.Proofs.YtnpggkpcadefjaaDoor.RowA

