/- A map in memory whose keys are structs that can be compared: what it holds, looked up, stored into, cleared. No program is named. -/
import Derived.Test.YtjeenmeoiidmnaaDoorBlk
import Derived.MapKept
import Derived.WideKeyRuns
set_option linter.unusedVariables false
namespace Go.Proofs.YtjeenmeoiidmnaaDoor.MapK
open Go.RowKit Go.Proofs.YtjeenmeoiidmnaaDoor.Mem

section
variable {P : Program} {κ β : Type} {kt : TypeId} {ek : κ → Value} {ev : β → Value}
/-- The entries of a map, as pairs. -/
def Pairs (ek : κ → Value) (ev : β → Value) (L : List MapEntry) (es : List (κ × β)) : Prop := L.map (fun e => (e.key, e.val)) = es.map (fun q => (ek q.1, ev q.2))
theorem Pairs.nil : Pairs ek ev [] [] := rfl
theorem Pairs.cons {e : MapEntry} {L : List MapEntry} {es : List (κ × β)} (h : Pairs ek ev (e :: L) es) : ∃ k v r, es = (k, v) :: r ∧ e.key = ek k ∧ e.val = ev v ∧ Pairs ek ev L r := by
  unfold Pairs at h
  match es, h with
  | (k, v) :: r, h =>
    simp only [List.map_cons, List.cons.injEq, Prod.mk.injEq] at h
    exact ⟨k, v, r, rfl, h.1.1, h.1.2, h.2⟩
/-- A map lies in a block. -/
def MapAt (ek : κ → Value) (ev : β → Value) (w : World) (g : Nat) (es : List (κ × β)) : Prop := ∃ entries clock, w.heap[g]? = some (.map entries clock) ∧ Pairs ek ev entries.toList es
theorem MapAt.lt {w : World} {g : Nat} {es : List (κ × β)} (h : MapAt ek ev w g es) : g < w.heap.size := by
  obtain ⟨_, _, h, _⟩ := h
  exact (Array.getElem?_eq_some_iff.1 h).1
theorem MapAt.below {w w' : World} {B g : Nat} {es : List (κ × β)} (h : MapAt ek ev w g es) (hb : Below B w w') (hg : g < B) : MapAt ek ev w' g es := by
  obtain ⟨a, c, h1, h2⟩ := h
  exact ⟨a, c, (hb.block g hg).trans h1, h2⟩
theorem MapAt.same {w w' : World} {g : Nat} {es : List (κ × β)} (h : MapAt ek ev w g es) (hb : w'.heap[g]? = w.heap[g]?) : MapAt ek ev w' g es := by
  obtain ⟨a, c, h1, h2⟩ := h
  exact ⟨a, c, hb.trans h1, h2⟩
variable {mt et : TypeId}
theorem gob {w : World} {g : Nat} {a : Array MapEntry} {c : Nat} (h : w.heap[g]? = some (.map a c)) : (getObj g).run P w = .ok (.map a c) w := by
  simp [getObj, Sem.run, h]
theorem sob {w : World} {g : Nat} {a : Array MapEntry} {c : Nat} (o : Obj) (h : w.heap[g]? = some (.map a c)) : (setObj g o).run P w = .ok () { w with heap := w.heap.setIfInBounds g o } := by
  simp [setObj, Sem.run, h]
/-- The world behind a store into a map. -/
def stored (w : World) (g : Nat) (o : Obj) : World := { w with heap := w.heap.setIfInBounds g o }
theorem stored_other (w : World) (g : Nat) (o : Obj) (k : Nat) (h : k ≠ g) : (stored w g o).heap[k]? = w.heap[k]? := by
  unfold stored
  rw [Array.getElem?_setIfInBounds_ne (Ne.symm h)]
theorem stored_bel {w W : World} {B g : Nat} (h : Below B w W) (hg : B ≤ g) (o : Obj) : Below B w (stored W g o) :=
  ⟨h.os, h.tape, h.output, by simpa [stored] using h.size, fun k hk => (stored_other W g o k (by omega)).trans (h.block k hk)⟩
theorem stored_here {w : World} {g : Nat} {o' : Obj} (h : w.heap[g]? = some o') (o : Obj) : (stored w g o).heap[g]? = some o := by
  have hlt : g < w.heap.size := (Array.getElem?_eq_some_iff.1 h).1
  unfold stored
  simp [hlt]
/-- 'clear(m)'. -/
theorem run_clear_map (hm : P.underlying mt = some (.map kt et)) {w : World} {g : Nat} {es : List (κ × β)} (h : MapAt ek ev w g es) :
    ∃ o, (∀ ty, (Builtin.clear_ #[mt] ty #[.map (some g)]).run P w = .ok (.tuple #[]) (stored w g o)) ∧ MapAt ek ev (stored w g o) g [] := by
  obtain ⟨a, c, h1, h2⟩ := h
  refine ⟨.map #[] c, fun ty => ?_, ⟨_, _, stored_here h1 _, Pairs.nil⟩⟩
  unfold Builtin.clear_
  simp [Sem.run_bind, run_underlying hm, gob h1]
  have := sob (P := P) (.map #[] c) h1
  simp [Result.andThen, this, stored]
/-- 'make(map[K]V)'. -/
theorem new_map (w : World) (c : Nat) : MapAt ek ev (w.alloc (.map #[] c)) w.heap.size [] := ⟨_, _, heap_alloc_new w _, Pairs.nil⟩
variable [DecidableEq κ]
/-- What is to be known of a key's type: such a key may be one, two are compared, and the same one has the same bits. -/
structure KeyLaw {κ : Type} [DecidableEq κ] (P : Program) (kt : TypeId) (ek : κ → Value) : Prop where
  wide : (match P.underlying kt with | some (.array _ _) | some (.struct _) => true | _ => false) = true
  check : ∀ k e w, (Instr.checkKey e 10000 kt (ek k)).run P w = .ok () w
  equal : ∀ a b w, (Op.equal kt (ek a) (ek b)).run P w = .ok (decide (a = b)) w
  bits : ∀ k, Instr.sameBits 10000 (ek k) (ek k) = true
/-- Where a key stands, and what it holds. -/
def at_ (k : κ) : List (κ × β) → Nat → Option (Nat × β)
  | [], _ => none
  | q :: r, i => if k = q.1 then some (i, q.2) else at_ k r (i + 1)
/-- What a key holds. -/
def get (k : κ) (es : List (κ × β)) : Option β := (at_ k es 0).map (·.2)
/-- .. and the map behind a store. -/
def put (k : κ) (v : β) (es : List (κ × β)) : List (κ × β) := match at_ k es 0 with | some (i, _) => es.modify i fun q => (k, v) | none => es ++ [(k, v)]
theorem at_mem {k : κ} : ∀ {es : List (κ × β)} {i j : Nat} {v : β}, at_ k es i = some (j, v) → (k, v) ∈ es ∧ i ≤ j ∧ es[j - i]? = some (k, v)
  | [], _, _, _, h => by cases h
  | q :: r, i, j, v, h => by
    unfold at_ at h
    by_cases e : k = q.1
    · rw [if_pos e] at h
      cases h
      subst e
      exact ⟨List.mem_cons_self, Nat.le_refl _, by simp⟩
    · rw [if_neg e] at h
      obtain ⟨h1, h2, h3⟩ := at_mem h
      refine ⟨List.mem_cons_of_mem _ h1, by omega, ?_⟩
      rw [show j - i = (j - (i + 1)) + 1 by omega, List.getElem?_cons_succ]
      exact h3
theorem get_mem {k : κ} {es : List (κ × β)} {v : β} (h : get k es = some v) : (k, v) ∈ es := by
  unfold get at h
  cases e : at_ k es 0 with
  | none => rw [e] at h; cases h
  | some q =>
    obtain ⟨j, u⟩ := q
    rw [e] at h
    cases h
    exact (at_mem e).1
/-- Whatever holds of all entries, and of the new one, holds of all behind a store. -/
theorem put_all {Q : κ → β → Prop} {k : κ} {v : β} {es : List (κ × β)} (h : ∀ q ∈ es, Q q.1 q.2) (hv : Q k v) : ∀ q ∈ put k v es, Q q.1 q.2 := by
  unfold put
  intro q hq
  split at hq
  · rename_i i u e
    obtain ⟨n, hn⟩ := List.mem_iff_getElem?.1 hq
    rw [List.getElem?_modify] at hn
    cases ht : es[n]? with
    | none => rw [ht] at hn; cases hn
    | some t =>
      rw [ht] at hn
      by_cases c : i = n
      · simp [c] at hn
        rw [← hn]
        exact hv
      · simp [c] at hn
        rw [← hn]
        exact h _ (List.mem_of_getElem? ht)
  · rcases List.mem_append.1 hq with k' | k'
    · exact h q k'
    · simp only [List.mem_singleton] at k'
      subst k'
      exact hv
theorem asking (L : KeyLaw P kt ek) (k : κ) (w : World) : ∀ (es : List (κ × β)) (l : List MapEntry) (i : Nat), Pairs ek ev l es → (Instr.findAsking kt (ek k) l i).run P w = .ok ((at_ k es i).map fun q => (q.1, ev q.2)) w
  | es, [], i, h => by
    have : es = [] := by
      unfold Pairs at h
      simpa using h.symm
    subst this
    rfl
  | es, e :: l, i, h => by
    obtain ⟨a, v, r, rfl, h1, h2, h3⟩ := h.cons
    have ih := asking L k w r l (i + 1) h3
    unfold Instr.findAsking at_
    simp only [Sem.run_bind, h1, L.equal, Result.andThen_ok]
    by_cases c : k = a
    · simp [c, h2]
    · simp [c, ih]
/-- 'v, ok := m[k]'. -/
theorem run_lookup (L : KeyLaw P kt ek) (hm : P.underlying mt = some (.map kt et)) {w : World} {g : Nat} {es : List (κ × β)} (h : MapAt ek ev w g es) (z : Value) (hz : (zeroValue et).run P w = .ok z w) (k : κ) :
    (Instr.lookup mt (.map (some g)) (ek k) true).run P w = .ok (.tuple #[match get k es with | some v => ev v | none => z, .bool (get k es).isSome]) w := by
  obtain ⟨a, c, h1, h2⟩ := h
  have f := (run_findKey_eq (w := w) L.wide (ek k) a.toList).trans (asking L k w es a.toList 0 h2)
  unfold Instr.lookup
  simp only [Sem.run_bind, run_underlying hm, Result.andThen_ok, gob h1, Sem.run_pure, L.check, f]
  unfold get
  cases at_ k es 0 with
  | none => simp [Result.andThen, hz]
  | some q => simp
/-- 'm[k] = v'. -/
theorem run_update (L : KeyLaw P kt ek) (hm : P.underlying mt = some (.map kt et)) {w : World} {g : Nat} {es : List (κ × β)} (h : MapAt ek ev w g es) (k : κ) (v : β) :
    ∃ o, (Instr.mapUpdate mt (.map (some g)) (ek k) (ev v)).run P w = .ok () (stored w g o) ∧ MapAt ek ev (stored w g o) g (put k v es) := by
  obtain ⟨a, c, h1, h2⟩ := h
  have f := (run_findKey_eq (w := w) L.wide (ek k) a.toList).trans (asking L k w es a.toList 0 h2)
  unfold put
  cases e : at_ k es 0 with
  | none =>
    rw [e] at f
    refine ⟨.map (a.push { key := ek k, val := ev v, born := c }) (c + 1), ?_, ?_⟩
    · unfold Instr.mapUpdate
      simp only [Sem.run_bind, run_underlying hm, Result.andThen_ok, gob h1, L.check, f, Option.map_none]
      exact sob _ h1
    · refine ⟨_, _, stored_here h1 _, ?_⟩
      unfold Pairs at h2 ⊢
      simp [h2]
  | some q =>
    obtain ⟨i, u⟩ := q
    rw [e] at f
    have hi := (at_mem e).2.2
    rw [Nat.sub_zero] at hi
    have hl : a.toList.length = es.length := by
      have := congrArg List.length h2
      simpa using this
    have hlt : i < a.size := by
      have := (List.getElem?_eq_some_iff.1 hi).1
      simp at hl
      omega
    have hk : (a[i]?.map (·.key)).getD (ek k) = ek k := by
      have hq : (a.toList.map fun e => (e.key, e.val))[i]? = (es.map fun q => (ek q.1, ev q.2))[i]? := by rw [h2]
      rw [List.getElem?_map, List.getElem?_map, hi, Array.getElem?_toList] at hq
      rw [Array.getElem?_eq_getElem hlt] at hq ⊢
      simp at hq
      simp [hq.1]
    have kt' : (Instr.keyThatStays (ek k) (ek k)).run P w = .ok (ek k) w := by
      unfold Instr.keyThatStays
      rw [if_pos (L.bits k)]
      rfl
    refine ⟨.map (a.modify i fun e => { e with key := ek k, val := ev v }) c, ?_, ?_⟩
    · unfold Instr.mapUpdate
      simp only [Sem.run_bind, run_underlying hm, Result.andThen_ok, gob h1, L.check, f, Option.map_some, hk, kt']
      exact sob _ h1
    · refine ⟨_, _, stored_here h1 _, ?_⟩
      unfold Pairs at h2 ⊢
      apply List.ext_getElem?
      intro n
      have hn : (a.toList.map fun e => (e.key, e.val))[n]? = (es.map fun q => (ek q.1, ev q.2))[n]? := by rw [h2]
      simp only [List.getElem?_map, Array.toList_modify, List.getElem?_modify] at hn ⊢
      by_cases c' : i = n
      · subst c'
        rw [hi, Array.getElem?_toList, Array.getElem?_eq_getElem hlt]
        simp
      · simp [c'] at hn ⊢
        exact hn
end
end Go.Proofs.YtjeenmeoiidmnaaDoor.MapK
