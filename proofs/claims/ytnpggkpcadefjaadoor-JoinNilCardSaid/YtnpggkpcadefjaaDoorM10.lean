/- A map in memory whose keys are structs that can be compared: what it holds, looked up, stored into, cleared. No program is named. -/
import Derived.Test.YtnpggkpcadefjaaDoorBlk
import Derived.Test.YtnpggkpcadefjaaDoorSteps
import Derived.Test.YtnpggkpcadefjaaDoorArgT
import Derived.Test.YtnpggkpcadefjaaDoorM09
import Derived.MapKept
import Derived.WideKeyRuns
import Derived.Laws.Tables
import Derived.Laws.StructEq
set_option linter.unusedVariables false
namespace Go.Proofs.YtnpggkpcadefjaaDoor.MapK
open Go.RowKit Go.Proofs.YtnpggkpcadefjaaDoor.Mem

section
variable {P : Program} {κ β : Type} {kt : TypeId} {ek : κ → Value} {ev : β → Value}
/-- The entries of a map, as pairs. -/
def Pairs (ek : κ → Value) (ev : β → Value) (L : List MapEntry) (es : List (κ × β)) : Prop := L.map (fun e => (e.key, e.val)) = es.map (fun q => (ek q.1, ev q.2))
theorem Pairs.nil : Pairs ek ev [] [] := rfl
theorem Pairs.cons {e : MapEntry} {L : List MapEntry} {es : List (κ × β)} (h : Pairs ek ev (e :: L) es) : ∃ k v r, es = (k, v) :: r ∧ e.key = ek k ∧ e.val = ev v ∧ Pairs ek ev L r := by
  unfold Pairs at h
  match es, h with
  | (k, v) :: r, h =>
    simp only [List.map_cons, List.cons.injEq, Prod.mk.injEq] at h
    exact ⟨k, v, r, rfl, h.1.1, h.1.2, h.2⟩
/-- A map lies in a block. -/
def MapAt (ek : κ → Value) (ev : β → Value) (w : World) (g : Nat) (es : List (κ × β)) : Prop := ∃ entries clock, w.heap[g]? = some (.map entries clock) ∧ Pairs ek ev entries.toList es
theorem MapAt.lt {w : World} {g : Nat} {es : List (κ × β)} (h : MapAt ek ev w g es) : g < w.heap.size := by
  obtain ⟨_, _, h, _⟩ := h
  exact (Array.getElem?_eq_some_iff.1 h).1
theorem MapAt.below {w w' : World} {B g : Nat} {es : List (κ × β)} (h : MapAt ek ev w g es) (hb : Below B w w') (hg : g < B) : MapAt ek ev w' g es := by
  obtain ⟨a, c, h1, h2⟩ := h
  exact ⟨a, c, (hb.block g hg).trans h1, h2⟩
theorem MapAt.same {w w' : World} {g : Nat} {es : List (κ × β)} (h : MapAt ek ev w g es) (hb : w'.heap[g]? = w.heap[g]?) : MapAt ek ev w' g es := by
  obtain ⟨a, c, h1, h2⟩ := h
  exact ⟨a, c, hb.trans h1, h2⟩
variable {mt et : TypeId}
theorem gob {w : World} {g : Nat} {a : Array MapEntry} {c : Nat} (h : w.heap[g]? = some (.map a c)) : (getObj g).run P w = .ok (.map a c) w := by
  simp [getObj, Sem.run, h]
theorem sob {w : World} {g : Nat} {a : Array MapEntry} {c : Nat} (o : Obj) (h : w.heap[g]? = some (.map a c)) : (setObj g o).run P w = .ok () { w with heap := w.heap.setIfInBounds g o } := by
  simp [setObj, Sem.run, h]
/-- The world behind a store into a map. -/
def stored (w : World) (g : Nat) (o : Obj) : World := { w with heap := w.heap.setIfInBounds g o }
theorem stored_other (w : World) (g : Nat) (o : Obj) (k : Nat) (h : k ≠ g) : (stored w g o).heap[k]? = w.heap[k]? := by
  unfold stored
  rw [Array.getElem?_setIfInBounds_ne (Ne.symm h)]
theorem stored_bel {w W : World} {B g : Nat} (h : Below B w W) (hg : B ≤ g) (o : Obj) : Below B w (stored W g o) :=
  ⟨h.os, h.tape, h.output, by simpa [stored] using h.size, fun k hk => (stored_other W g o k (by omega)).trans (h.block k hk)⟩
theorem stored_here {w : World} {g : Nat} {o' : Obj} (h : w.heap[g]? = some o') (o : Obj) : (stored w g o).heap[g]? = some o := by
  have hlt : g < w.heap.size := (Array.getElem?_eq_some_iff.1 h).1
  unfold stored
  simp [hlt]
/-- 'clear(m)'. -/
theorem run_clear_map (hm : P.underlying mt = some (.map kt et)) {w : World} {g : Nat} {es : List (κ × β)} (h : MapAt ek ev w g es) :
    ∃ o, (∀ ty, (Builtin.clear_ #[mt] ty #[.map (some g)]).run P w = .ok (.tuple #[]) (stored w g o)) ∧ MapAt ek ev (stored w g o) g [] := by
  obtain ⟨a, c, h1, h2⟩ := h
  refine ⟨.map #[] c, fun ty => ?_, ⟨_, _, stored_here h1 _, Pairs.nil⟩⟩
  unfold Builtin.clear_
  simp [Sem.run_bind, run_underlying hm, gob h1]
  have := sob (P := P) (.map #[] c) h1
  simp [Result.andThen, this, stored]
/-- 'make(map[K]V)'. -/
theorem new_map (w : World) (c : Nat) : MapAt ek ev (w.alloc (.map #[] c)) w.heap.size [] := ⟨_, _, heap_alloc_new w _, Pairs.nil⟩
variable [DecidableEq κ]
/-- What is to be known of a key's type: such a key may be one, two are compared, and the same one has the same bits. -/
structure KeyLaw {κ : Type} [DecidableEq κ] (P : Program) (kt : TypeId) (ek : κ → Value) : Prop where
  wide : (match P.underlying kt with | some (.array _ _) | some (.struct _) => true | _ => false) = true
  check : ∀ k e w, (Instr.checkKey e 10000 kt (ek k)).run P w = .ok () w
  equal : ∀ a b w, (Op.equal kt (ek a) (ek b)).run P w = .ok (decide (a = b)) w
  bits : ∀ k, Instr.sameBits 10000 (ek k) (ek k) = true
/-- Where a key stands, and what it holds. -/
def at_ (k : κ) : List (κ × β) → Nat → Option (Nat × β)
  | [], _ => none
  | q :: r, i => if k = q.1 then some (i, q.2) else at_ k r (i + 1)
/-- What a key holds. -/
def get (k : κ) (es : List (κ × β)) : Option β := (at_ k es 0).map (·.2)
/-- .. and the map behind a store. -/
def put (k : κ) (v : β) (es : List (κ × β)) : List (κ × β) := match at_ k es 0 with | some (i, _) => es.modify i fun q => (k, v) | none => es ++ [(k, v)]
theorem at_mem {k : κ} : ∀ {es : List (κ × β)} {i j : Nat} {v : β}, at_ k es i = some (j, v) → (k, v) ∈ es ∧ i ≤ j ∧ es[j - i]? = some (k, v)
  | [], _, _, _, h => by cases h
  | q :: r, i, j, v, h => by
    unfold at_ at h
    by_cases e : k = q.1
    · rw [if_pos e] at h
      cases h
      subst e
      exact ⟨List.mem_cons_self, Nat.le_refl _, by simp⟩
    · rw [if_neg e] at h
      obtain ⟨h1, h2, h3⟩ := at_mem h
      refine ⟨List.mem_cons_of_mem _ h1, by omega, ?_⟩
      rw [show j - i = (j - (i + 1)) + 1 by omega, List.getElem?_cons_succ]
      exact h3
theorem get_mem {k : κ} {es : List (κ × β)} {v : β} (h : get k es = some v) : (k, v) ∈ es := by
  unfold get at h
  cases e : at_ k es 0 with
  | none => rw [e] at h; cases h
  | some q =>
    obtain ⟨j, u⟩ := q
    rw [e] at h
    cases h
    exact (at_mem e).1
/-- Whatever holds of all entries, and of the new one, holds of all behind a store. -/
theorem put_all {Q : κ → β → Prop} {k : κ} {v : β} {es : List (κ × β)} (h : ∀ q ∈ es, Q q.1 q.2) (hv : Q k v) : ∀ q ∈ put k v es, Q q.1 q.2 := by
  unfold put
  intro q hq
  split at hq
  · rename_i i u e
    obtain ⟨n, hn⟩ := List.mem_iff_getElem?.1 hq
    rw [List.getElem?_modify] at hn
    cases ht : es[n]? with
    | none => rw [ht] at hn; cases hn
    | some t =>
      rw [ht] at hn
      by_cases c : i = n
      · simp [c] at hn
        rw [← hn]
        exact hv
      · simp [c] at hn
        rw [← hn]
        exact h _ (List.mem_of_getElem? ht)
  · rcases List.mem_append.1 hq with k' | k'
    · exact h q k'
    · simp only [List.mem_singleton] at k'
      subst k'
      exact hv
theorem asking (L : KeyLaw P kt ek) (k : κ) (w : World) : ∀ (es : List (κ × β)) (l : List MapEntry) (i : Nat), Pairs ek ev l es → (Instr.findAsking kt (ek k) l i).run P w = .ok ((at_ k es i).map fun q => (q.1, ev q.2)) w
  | es, [], i, h => by
    have : es = [] := by
      unfold Pairs at h
      simpa using h.symm
    subst this
    rfl
  | es, e :: l, i, h => by
    obtain ⟨a, v, r, rfl, h1, h2, h3⟩ := h.cons
    have ih := asking L k w r l (i + 1) h3
    unfold Instr.findAsking at_
    simp only [Sem.run_bind, h1, L.equal, Result.andThen_ok]
    by_cases c : k = a
    · simp [c, h2]
    · simp [c, ih]
/-- 'v, ok := m[k]'. -/
theorem run_lookup (L : KeyLaw P kt ek) (hm : P.underlying mt = some (.map kt et)) {w : World} {g : Nat} {es : List (κ × β)} (h : MapAt ek ev w g es) (z : Value) (hz : (zeroValue et).run P w = .ok z w) (k : κ) :
    (Instr.lookup mt (.map (some g)) (ek k) true).run P w = .ok (.tuple #[match get k es with | some v => ev v | none => z, .bool (get k es).isSome]) w := by
  obtain ⟨a, c, h1, h2⟩ := h
  have f := (run_findKey_eq (w := w) L.wide (ek k) a.toList).trans (asking L k w es a.toList 0 h2)
  unfold Instr.lookup
  simp only [Sem.run_bind, run_underlying hm, Result.andThen_ok, gob h1, Sem.run_pure, L.check, f]
  unfold get
  cases at_ k es 0 with
  | none => simp [Result.andThen, hz]
  | some q => simp
/-- 'm[k] = v'. -/
theorem run_update (L : KeyLaw P kt ek) (hm : P.underlying mt = some (.map kt et)) {w : World} {g : Nat} {es : List (κ × β)} (h : MapAt ek ev w g es) (k : κ) (v : β) :
    ∃ o, (Instr.mapUpdate mt (.map (some g)) (ek k) (ev v)).run P w = .ok () (stored w g o) ∧ MapAt ek ev (stored w g o) g (put k v es) := by
  obtain ⟨a, c, h1, h2⟩ := h
  have f := (run_findKey_eq (w := w) L.wide (ek k) a.toList).trans (asking L k w es a.toList 0 h2)
  unfold put
  cases e : at_ k es 0 with
  | none =>
    rw [e] at f
    refine ⟨.map (a.push { key := ek k, val := ev v, born := c }) (c + 1), ?_, ?_⟩
    · unfold Instr.mapUpdate
      simp only [Sem.run_bind, run_underlying hm, Result.andThen_ok, gob h1, L.check, f, Option.map_none]
      exact sob _ h1
    · refine ⟨_, _, stored_here h1 _, ?_⟩
      unfold Pairs at h2 ⊢
      simp [h2]
  | some q =>
    obtain ⟨i, u⟩ := q
    rw [e] at f
    have hi := (at_mem e).2.2
    rw [Nat.sub_zero] at hi
    have hl : a.toList.length = es.length := by
      have := congrArg List.length h2
      simpa using this
    have hlt : i < a.size := by
      have := (List.getElem?_eq_some_iff.1 hi).1
      simp at hl
      omega
    have hk : (a[i]?.map (·.key)).getD (ek k) = ek k := by
      have hq : (a.toList.map fun e => (e.key, e.val))[i]? = (es.map fun q => (ek q.1, ev q.2))[i]? := by rw [h2]
      rw [List.getElem?_map, List.getElem?_map, hi, Array.getElem?_toList] at hq
      rw [Array.getElem?_eq_getElem hlt] at hq ⊢
      simp at hq
      simp [hq.1]
    have kt' : (Instr.keyThatStays (ek k) (ek k)).run P w = .ok (ek k) w := by
      unfold Instr.keyThatStays
      rw [if_pos (L.bits k)]
      rfl
    refine ⟨.map (a.modify i fun e => { e with key := ek k, val := ev v }) c, ?_, ?_⟩
    · unfold Instr.mapUpdate
      simp only [Sem.run_bind, run_underlying hm, Result.andThen_ok, gob h1, L.check, f, Option.map_some, hk, kt']
      exact sob _ h1
    · refine ⟨_, _, stored_here h1 _, ?_⟩
      unfold Pairs at h2 ⊢
      apply List.ext_getElem?
      intro n
      have hn : (a.toList.map fun e => (e.key, e.val))[n]? = (es.map fun q => (ek q.1, ev q.2))[n]? := by rw [h2]
      simp only [List.getElem?_map, Array.toList_modify, List.getElem?_modify] at hn ⊢
      by_cases c' : i = n
      · subst c'
        rw [hi, Array.getElem?_toList, Array.getElem?_eq_getElem hlt]
        simp
      · simp [c'] at hn ⊢
        exact hn
end
end Go.Proofs.YtnpggkpcadefjaaDoor.MapK

/- Steps for maps: looked up, stored into, cleared. No function is named. -/
set_option linter.unusedVariables false
namespace Go.Proofs.YtnpggkpcadefjaaDoor.MapS
open Go.RowKit Go.Proofs.YtnpggkpcadefjaaDoor.Mem Go.Proofs.YtnpggkpcadefjaaDoor.Blk Go.Proofs.YtnpggkpcadefjaaDoor.Free Go.Proofs.YtnpggkpcadefjaaDoor.Steps Go.Proofs.YtnpggkpcadefjaaDoor.MapK
section
variable {o : Oper} {a : Act} {w : World} {K : Act → World → Prop} {Q : Exit → Act → World → Prop}
theorem st_lookup (mt : TypeId) (x y : Operand) (ho : o.op = .lookup mt x y true) (vx vy v : Value) (hx : a.eval x = vx) (hy : a.eval y = vy) (hr : (Instr.lookup mt vx vy true).run Tryd.prog w = .ok v w) (hK : K (a.put o.dst v) w) : Step Tryd.prog o a w K Q :=
  wp_value v (by simp [execOp, ho, hx, hy, hr, Result.andThen]) hK
theorem st_update (mt : TypeId) (x y z : Operand) (ho : o.op = .mapUpdate mt x y z) (vx vy vz : Value) (hx : a.eval x = vx) (hy : a.eval y = vy) (hz : a.eval z = vz) (w' : World) (hr : (Instr.mapUpdate mt vx vy vz).run Tryd.prog w = .ok () w') (hK : K (a.put o.dst undef) w') : Step Tryd.prog o a w K Q := by
  constructor
  unfold Oper.wp execOp
  simp only [ho, hx, hy, hz, Sem.run_bind, hr, Result.andThen_ok]
  exact hK
theorem st_extract (x : Operand) (i : Nat) (ho : o.op = .extract x i) (vs : Array Value) (v : Value) (hx : a.eval x = .tuple vs) (hv : vs[i]? = some v) (hK : K (a.put o.dst v) w) : Step Tryd.prog o a w K Q :=
  wp_value v (by simp [execOp, ho, hx, Instr.extract, hv]) hK
theorem st_nil (x : Operand) (ho : o.op = .nilCheck x) (ad : Addr) (hx : a.eval x = .pointer (some ad)) (hK : K (a.put o.dst (.pointer (some ad))) w) : Step Tryd.prog o a w K Q :=
  wp_value _ (by simp [execOp, ho, hx]) hK
end
theorem wpList_clear {ops : Array Oper} {rest : List Oper} {o : Oper} {a : Act} {w : World} {Q : Exit → Act → World → Prop} (hw : Region.wanted o (yielded ops a.tmps) = true) (mt : TypeId) (x : Operand) (ho : o.op = .call { callee := .builtin .clear, args := #[x], argTypes := #[mt] }) (v : Value) (hx : a.eval x = v) (w' : World)
    (hr : ∀ ty, (Builtin.clear_ #[mt] ty #[v]).run Tryd.prog w = .ok (.tuple #[]) w') (h : wpList Tryd.prog ops Q rest (a.put o.dst (.tuple #[])) w') : wpList Tryd.prog ops Q (o :: rest) a w :=
  wpList_step fun K hK => by
    rw [if_pos hw]
    unfold Oper.wp execOp
    simp only [ho]
    simp [resolve, invoke, hx, builtin, hr, Result.andThen]
    exact hK _ _ h
/-- All blocks below S0 stay; the block S0, once it is there, stays or holds X. -/
structure OnlyNew (S0 : Nat) (t : TypeId) (X : Array Value) (w1 w2 : World) : Prop where
  os : w2.os = w1.os
  tape : w2.tape = w1.tape
  output : w2.output = w1.output
  size : w1.heap.size ≤ w2.heap.size
  block : ∀ k, k < S0 → w2.heap[k]? = w1.heap[k]?
  new : S0 < w1.heap.size → w2.heap[S0]? = w1.heap[S0]? ∨ w2.heap[S0]? = some (.cells X t (0, 0))
theorem OnlyNew.refl {S0 : Nat} {t : TypeId} {X : Array Value} (w : World) : OnlyNew S0 t X w w := ⟨rfl, rfl, rfl, Nat.le_refl _, fun _ _ => rfl, fun _ => .inl rfl⟩
theorem OnlyNew.trans {S0 : Nat} {t : TypeId} {X : Array Value} {w1 w2 w3 : World} (h : OnlyNew S0 t X w1 w2) (k : OnlyNew S0 t X w2 w3) : OnlyNew S0 t X w1 w3 :=
  ⟨k.os.trans h.os, k.tape.trans h.tape, k.output.trans h.output, Nat.le_trans h.size k.size, fun i hi => (k.block i hi).trans (h.block i hi), fun hs => by
    rcases k.new (Nat.lt_of_lt_of_le hs h.size) with q | q
    · exact (h.new hs).imp (fun z => q.trans z) (fun z => q.trans z)
    · exact .inr q⟩
theorem OnlyNew.below {S0 : Nat} {t : TypeId} {X : Array Value} {w1 w2 : World} (h : OnlyNew S0 t X w1 w2) : Below S0 w1 w2 := ⟨h.os, h.tape, h.output, h.size, h.block⟩
theorem OnlyNew.alloc {S0 : Nat} {t : TypeId} {X : Array Value} {w : World} (h : w.heap.size = S0) (o : Obj) : OnlyNew S0 t X w (w.alloc o) :=
  ⟨rfl, rfl, rfl, by simp, fun k hk => Below.heap_alloc w o k (by omega), fun hs => by omega⟩
theorem OnlyNew.row {S0 : Nat} {t : TypeId} {X old : Array Value} {w : World} (h : Blk w S0 t old) : OnlyNew S0 t X w (w.setRow S0 X) :=
  ⟨rfl, rfl, rfl, by simp [World.setRow], fun k hk => setRow_other w S0 k X (by omega), fun _ => .inr (setRow_heap _ _ _ _ _ _ h)⟩
/-- A block made in a drawn region. -/
theorem st_alloc {o : Oper} {a : Act} {w : World} {K : Act → World → Prop} {Q : Exit → Act → World → Prop} (ty : TypeId) (ho : o.op = .alloc ty) (Z : Array Value) (hr : ∀ w, (Instr.alloc ty true (.tuple #[])).run Tryd.prog w = .ok (.pointer (some ⟨w.heap.size, 0, none⟩)) (w.alloc (.cells Z ty)))
    (hK : K (a.put o.dst (.pointer (some ⟨w.heap.size, 0, none⟩))) (w.alloc (.cells Z ty))) : Step Tryd.prog o a w K Q := by
  have h : (execOp a.eval o).run Tryd.prog w = .ok (.value (.pointer (some ⟨w.heap.size, 0, none⟩))) (w.alloc (.cells Z ty)) := by
    simp [execOp, ho, hr w, Result.andThen]
  constructor
  unfold Oper.wp
  rw [h]
  exact hK
end Go.Proofs.YtnpggkpcadefjaaDoor.MapS

/- Structs compared. -/
set_option linter.unusedVariables false
namespace Go.Proofs.YtnpggkpcadefjaaDoor.EqN
open Go.RowKit Go.Proofs.YtnpggkpcadefjaaDoor.Mem Go.Proofs.YtnpggkpcadefjaaDoor.ArgT
set_option maxRecDepth 100000
theorem toList_eq (a b : ByteArray) : (a.toList == b.toList) = decide (a = b) := by
  by_cases h : a = b
  · subst h; simp
  · have : a.toList ≠ b.toList := fun e => h (by
      cases a; cases b
      rw [ByteArray.toList_eq, ByteArray.toList_eq] at e
      simp at e
      rw [e])
    simp [h, this]
theorem eqf_nil (d : Nat) (xs ys : Array Value) (w : World) : (Op.eqFields d xs ys []).run Tryd.prog w = .ok true w := rfl
theorem eqf_cons (d : Nat) (xs ys : Array Value) (f : Field) (fs : List Field) (w : World) (a b : Value) (r s : Bool) (hn : (f.name != "_") = true) (ha : (part f.type xs f.offset).run Tryd.prog w = .ok a w) (hb : (part f.type ys f.offset).run Tryd.prog w = .ok b w)
    (hr : (Op.equalIn d f.type a b).run Tryd.prog w = .ok r w) (hs : (Op.eqFields d xs ys fs).run Tryd.prog w = .ok s w) : (Op.eqFields d xs ys (f :: fs)).run Tryd.prog w = .ok (r && s) w := by
  have h : ¬ f.name = "_" := by simpa using hn
  simp only [Op.eqFields, ne_eq, h, not_false_eq_true, if_true, Sem.run_bind, ha, hb, hr, Result.andThen_ok]
  cases r
  · simp
  · simp [hs]
theorem eq_s (d : Nat) (a b : ByteArray) (w : World) : (Op.equalIn (d + 1) 9 (.string a) (.string b)).run Tryd.prog w = .ok (decide (a = b)) w := by
  rw [run_equalIn_string w d _ a b Tryd.underlying9, toList_eq]
theorem eq_i (d : Nat) (a b : Int) (w : World) : (Op.equalIn (d + 1) 3 (.int .i64 a) (.int .i64 b)).run Tryd.prog w = .ok (decide (a = b)) w := by
  rw [run_equalIn_int w d _ .i64 .i64 a b Tryd.underlying3]
  rfl
set_option maxHeartbeats 2000000 in
theorem eq_Nm (d : Nat) (a0 : ByteArray) (a1 : ByteArray) (a2 : Int) (a3 : Int) (b0 : ByteArray) (b1 : ByteArray) (b2 : Int) (b3 : Int) (w : World) : (Op.equalIn (d + 2) 60 (.agg #[.string a0, .string a1, .int .i64 a2, .int .i64 a3]) (.agg #[.string b0, .string b1, .int .i64 b2, .int .i64 b3])).run Tryd.prog w = .ok (decide (a0 = b0) && (decide (a1 = b1) && (decide (a2 = b2) && (decide (a3 = b3) && true)))) w := by
  rw [run_equalIn_agg w (d + 1) _ _ _ (by kernel_rfl) (by kernel_rfl)]
  exact eqf_cons _ _ _ _ _ _ (.string a0) (.string b0) _ _ (by kernel_rfl) (by kernel_rfl) (by kernel_rfl) (eq_s (d + 0) a0 b0 w) (eqf_cons _ _ _ _ _ _ (.string a1) (.string b1) _ _ (by kernel_rfl) (by kernel_rfl) (by kernel_rfl) (eq_s (d + 0) a1 b1 w) (eqf_cons _ _ _ _ _ _ (.int .i64 a2) (.int .i64 b2) _ _ (by kernel_rfl) (by kernel_rfl) (by kernel_rfl) (eq_i (d + 0) a2 b2 w) (eqf_cons _ _ _ _ _ _ (.int .i64 a3) (.int .i64 b3) _ _ (by kernel_rfl) (by kernel_rfl) (by kernel_rfl) (eq_i (d + 0) a3 b3 w) (eqf_nil _ _ _ _))))
end Go.Proofs.YtnpggkpcadefjaaDoor.EqN

/- Maps: looked up without 'ok', an entry deleted; the key of a joiner. -/
set_option linter.unusedVariables false
set_option maxRecDepth 100000
namespace Go.Proofs.YtnpggkpcadefjaaDoor.MapL
open Go.RowKit Go.Proofs.YtnpggkpcadefjaaDoor.Mem Go.Proofs.YtnpggkpcadefjaaDoor.Blk Go.Proofs.YtnpggkpcadefjaaDoor.MapK Go.Proofs.YtnpggkpcadefjaaDoor.JoiC Go.Proofs.YtnpggkpcadefjaaDoor.Free Go.Proofs.YtnpggkpcadefjaaDoor.Steps

section
variable {P : Program} {κ β : Type} {kt mt et : TypeId} {ek : κ → Value} {ev : β → Value} [DecidableEq κ]
/-- 'm[k]'. -/
theorem run_lookup1 (L : KeyLaw P kt ek) (hm : P.underlying mt = some (.map kt et)) {w : World} {g : Nat} {es : List (κ × β)} (h : MapAt ek ev w g es) (z : Value) (hz : (zeroValue et).run P w = .ok z w) (k : κ) :
    (Instr.lookup mt (.map (some g)) (ek k) false).run P w = .ok (match MapK.get k es with | some v => ev v | none => z) w := by
  obtain ⟨a, c, h1, h2⟩ := h
  have f := (run_findKey_eq (w := w) L.wide (ek k) a.toList).trans (asking L k w es a.toList 0 h2)
  unfold Instr.lookup
  simp only [Sem.run_bind, run_underlying hm, Result.andThen_ok, gob h1, Sem.run_pure, L.check, f]
  unfold MapK.get
  cases at_ k es 0 with
  | none => simp [hz]
  | some q => simp
/-- A map with one entry less. -/
def rem (k : κ) (es : List (κ × β)) : List (κ × β) := match at_ k es 0 with | some (i, _) => es.eraseIdx i | none => es
theorem erase_map {α γ : Type} (f : α → γ) : ∀ (l : List α) (i : Nat), (l.eraseIdx i).map f = (l.map f).eraseIdx i
  | [], _ => rfl
  | _ :: _, 0 => rfl
  | a :: l, i + 1 => by simp [erase_map f l i]
theorem run_delete (L : KeyLaw P kt ek) (hm : P.underlying mt = some (.map kt et)) {w : World} {g : Nat} {es : List (κ × β)} (h : MapAt ek ev w g es) (k : κ) :
    ∃ o, (∀ ty, (Builtin.delete_ #[mt, kt] ty #[.map (some g), ek k]).run P w = .ok (.tuple #[]) (MapK.stored w g o)) ∧ MapAt ek ev (MapK.stored w g o) g (rem k es) := by
  obtain ⟨a, c, h1, h2⟩ := h
  have f := (run_findKey_eq (w := w) L.wide (ek k) a.toList).trans (asking L k w es a.toList 0 h2)
  unfold rem
  cases e : at_ k es 0 with
  | none =>
    rw [e] at f
    refine ⟨.map a c, fun ty => ?_, ⟨_, _, stored_here h1 _, h2⟩⟩
    unfold Builtin.delete_
    simp [Sem.run_bind, run_underlying hm, gob h1, L.check, f, Result.andThen, sob (P := P) (.map a c) h1, MapK.stored]
  | some q =>
    obtain ⟨i, u⟩ := q
    rw [e] at f
    refine ⟨.map (a.eraseIdxIfInBounds i) c, fun ty => ?_, ⟨_, _, stored_here h1 _, ?_⟩⟩
    · unfold Builtin.delete_
      simp [Sem.run_bind, run_underlying hm, gob h1, L.check, f, Result.andThen, sob (P := P) (.map (a.eraseIdxIfInBounds i) c) h1, MapK.stored]
    · unfold Pairs at h2 ⊢
      have : (a.eraseIdxIfInBounds i).toList = a.toList.eraseIdx i := by
        unfold Array.eraseIdxIfInBounds
        split
        · simp
        · rename_i hn
          rw [List.eraseIdx_of_length_le (by simpa using hn)]
      rw [this, erase_map, h2, ← erase_map]
/-- Where a key stands, by its entry. -/
theorem at_idx (k : κ) : ∀ (es : List (κ × β)) (i : Nat), at_ k es i = (es.findIdx? fun q => decide (q.1 = k)).bind fun j => es[j]?.map fun q => (i + j, q.2)
  | [], _ => rfl
  | q :: r, i => by
    unfold at_
    rw [List.findIdx?_cons]
    by_cases e : k = q.1
    · rw [if_pos e, decide_eq_true e.symm]
      rfl
    · rw [if_neg e, decide_eq_false fun z => e z.symm, at_idx k r (i + 1)]
      cases (r.findIdx? fun q => decide (q.1 = k)) with
      | none => rfl
      | some j =>
        simp only [Option.map_some, Option.bind_some, Bool.false_eq_true, if_false, List.getElem?_cons_succ]
        congr 1
        funext z
        rw [show i + 1 + j = i + (j + 1) by omega]
end
section
variable {o : Oper} {a : Act} {w : World} {K : Act → World → Prop} {Q : Exit → Act → World → Prop}
theorem st_lookup1 (mt : TypeId) (x y : Operand) (ho : o.op = .lookup mt x y false) (vx vy v : Value) (hx : a.eval x = vx) (hy : a.eval y = vy) (hr : (Instr.lookup mt vx vy false).run Tryd.prog w = .ok v w) (hK : K (a.put o.dst v) w) : Step Tryd.prog o a w K Q :=
  wp_value v (by simp [execOp, ho, hx, hy, hr, Result.andThen]) hK
theorem st_delete (mt kt : TypeId) (x y : Operand) (ho : o.op = .call { callee := .builtin .delete, args := #[x, y], argTypes := #[mt, kt] }) (vx vy : Value) (hx : a.eval x = vx) (hy : a.eval y = vy) (w' : World) (hr : ∀ ty, (Builtin.delete_ #[mt, kt] ty #[vx, vy]).run Tryd.prog w = .ok (.tuple #[]) w') (hK : K (a.put o.dst (.tuple #[])) w') : Step Tryd.prog o a w K Q := by
  constructor
  unfold Oper.wp
  simp [execOp, ho, resolve, invoke, builtin, hx, hy, hr, Result.andThen]
  exact hK
end
def nk (n : Nm) : Value := .agg #[.string n.src, .string n.dst, .int .i64 n.proto, .int .i64 n.id]
theorem key_law : KeyLaw Tryd.prog 60 nk where
  wide := by kernel_rfl
  check := fun k e w => by kernel_rfl
  equal := fun a b w => by
    obtain ⟨a0, a1, a2, a3⟩ := a
    obtain ⟨b0, b1, b2, b3⟩ := b
    have h := EqN.eq_Nm 9998 a0 a1 a2 a3 b0 b1 b2 b3 w
    have e : Op.equal 60 = Op.equalIn 10000 60 := rfl
    rw [e]
    refine h.trans ?_
    congr 1
    rw [Bool.eq_iff_iff]
    simp only [Bool.and_eq_true, decide_eq_true_eq, and_true, Nm.mk.injEq]
  bits := fun k => by
    unfold nk
    show Instr.sameBits (9999 + 1) _ _ = true
    simp [Instr.sameBits, beq_toListBytes]
end Go.Proofs.YtnpggkpcadefjaaDoor.MapL

