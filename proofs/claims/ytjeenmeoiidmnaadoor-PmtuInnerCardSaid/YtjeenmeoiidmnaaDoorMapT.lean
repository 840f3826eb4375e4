/- A map in memory whose keys are texts: looked up, MapK.stored into, how long it is. No program is named. -/
import Derived.Test.YtjeenmeoiidmnaaDoorMapS
import Derived.MapKept
set_option linter.unusedVariables false
namespace Go.Proofs.YtjeenmeoiidmnaaDoor.MapT
open Go.RowKit Go.Proofs.YtjeenmeoiidmnaaDoor.Mem Go.Proofs.YtjeenmeoiidmnaaDoor.Blk Go.Proofs.YtjeenmeoiidmnaaDoor.MapK Go.Proofs.YtjeenmeoiidmnaaDoor.Free Go.Proofs.YtjeenmeoiidmnaaDoor.Steps

section
variable {P : Program} {β : Type} {kt mt et : TypeId} {ev : β → Value}
abbrev ek (d : ByteArray) : Value := .string d
theorem finding (k : ByteArray) : ∀ (es : List (ByteArray × β)) (l : List MapEntry) (i : Nat), Pairs ek ev l es → Instr.findNow .string (ek k) l i = some ((at_ k es i).map fun q => (q.1, ev q.2))
  | es, [], i, h => by
    have : es = [] := by
      unfold Pairs at h
      simpa using h.symm
    subst this
    rfl
  | es, e :: l, i, h => by
    obtain ⟨a, v, r, rfl, h1, h2, h3⟩ := h.cons
    have ih := finding k r l (i + 1) h3
    unfold Instr.findNow at_
    rw [h1]
    by_cases c : k = a
    · subst c
      have e1 : Instr.sameNow .string (ek k) (ek k) = some true := by
        show some (k == k) = some true
        rw [(MapKept.bytes_beq k k).2 rfl]
      rw [e1]
      simp [h2]
    · have e1 : Instr.sameNow .string (ek k) (ek a) = some false := by
        show some (k == a) = some false
        have : (k == a) = false := by
          cases q : (k == a) with
          | false => rfl
          | true => exact absurd ((MapKept.bytes_beq k a).1 q) c
        rw [this]
      rw [e1]
      simp [c, ih]
/-- 'v, ok := m[k]'. -/
theorem run_lookup (hk : P.underlying kt = some .string) (hm : P.underlying mt = some (.map kt et)) {w : World} {g : Nat} {es : List (ByteArray × β)} (h : MapAt ek ev w g es) (z : Value) (hz : (zeroValue et).run P w = .ok z w) (k : ByteArray) :
    (Instr.lookup mt (.map (some g)) (ek k) true).run P w = .ok (.tuple #[match MapK.get k es with | some v => ev v | none => z, .bool (MapK.get k es).isSome]) w := by
  obtain ⟨a, c, h1, h2⟩ := h
  have f := MapKept.run_findKey (P := P) (w := w) hk (finding k es a.toList 0 h2)
  have ck : ∀ e, (Instr.checkKey e 10000 kt (ek k)).run P w = .ok () w := fun e => MapKept.run_checkKey hk (by simp [MapKept.IsKey]) e 9999
  unfold Instr.lookup
  simp only [Sem.run_bind, run_underlying hm, Result.andThen_ok, gob h1, Sem.run_pure, ck, f]
  unfold MapK.get
  cases at_ k es 0 with
  | none => simp [Result.andThen, hz]
  | some q => simp
/-- 'm[k] = v'. -/
theorem run_update (hk : P.underlying kt = some .string) (hm : P.underlying mt = some (.map kt et)) {w : World} {g : Nat} {es : List (ByteArray × β)} (h : MapAt ek ev w g es) (k : ByteArray) (v : β) :
    ∃ o, (Instr.mapUpdate mt (.map (some g)) (ek k) (ev v)).run P w = .ok () (MapK.stored w g o) ∧ MapAt ek ev (MapK.stored w g o) g (put k v es) := by
  obtain ⟨a, c, h1, h2⟩ := h
  have f := MapKept.run_findKey (P := P) (w := w) hk (finding k es a.toList 0 h2)
  have ck : ∀ e, (Instr.checkKey e 10000 kt (ek k)).run P w = .ok () w := fun e => MapKept.run_checkKey hk (by simp [MapKept.IsKey]) e 9999
  unfold put
  cases e : at_ k es 0 with
  | none =>
    rw [e] at f
    refine ⟨.map (a.push { key := ek k, val := ev v, born := c }) (c + 1), ?_, ?_⟩
    · unfold Instr.mapUpdate
      simp only [Sem.run_bind, run_underlying hm, Result.andThen_ok, gob h1, ck, f, Option.map_none]
      exact sob _ h1
    · refine ⟨_, _, MapK.stored_here h1 _, ?_⟩
      unfold Pairs at h2 ⊢
      simp [h2]
  | some q =>
    obtain ⟨i, u⟩ := q
    rw [e] at f
    have hi := (at_mem e).2.2
    rw [Nat.sub_zero] at hi
    have hl : a.toList.length = es.length := by
      have := congrArg List.length h2
      simpa using this
    have hlt : i < a.size := by
      have := (List.getElem?_eq_some_iff.1 hi).1
      simp at hl
      omega
    have hq' : (a[i]?.map (·.key)).getD (ek k) = ek k := by
      have hq : (a.toList.map fun e => (e.key, e.val))[i]? = (es.map fun q => (ek q.1, ev q.2))[i]? := by rw [h2]
      rw [List.getElem?_map, List.getElem?_map, hi, Array.getElem?_toList] at hq
      rw [Array.getElem?_eq_getElem hlt] at hq ⊢
      simp at hq
      simp [hq.1]
    have kt' : (Instr.keyThatStays (ek k) (ek k)).run P w = .ok (ek k) w := MapKept.run_keyThatStays (d := .string) trivial
    refine ⟨.map (a.modify i fun e => { e with key := ek k, val := ev v }) c, ?_, ?_⟩
    · unfold Instr.mapUpdate
      simp only [Sem.run_bind, run_underlying hm, Result.andThen_ok, gob h1, ck, f, Option.map_some, hq', kt']
      exact sob _ h1
    · refine ⟨_, _, MapK.stored_here h1 _, ?_⟩
      unfold Pairs at h2 ⊢
      apply List.ext_getElem?
      intro n
      have hn : (a.toList.map fun e => (e.key, e.val))[n]? = (es.map fun q => (ek q.1, ev q.2))[n]? := by rw [h2]
      simp only [List.getElem?_map, Array.toList_modify, List.getElem?_modify] at hn ⊢
      by_cases c' : i = n
      · subst c'
        rw [hi, Array.getElem?_toList, Array.getElem?_eq_getElem hlt]
        simp
      · simp [c'] at hn ⊢
        exact hn
/-- 'len(m)'. -/
theorem run_len {κ : Type} {ek : κ → Value} (hm : P.underlying mt = some (.map kt et)) {w : World} {g : Nat} {es : List (κ × β)} (h : MapAt ek ev w g es) (ty : TypeId) :
    (Builtin.len_ #[mt] ty #[.map (some g)]).run P w = .ok (.int .i64 es.length) w := by
  obtain ⟨a, c, h1, h2⟩ := h
  have hl : a.size = es.length := by
    have := congrArg List.length h2
    simpa using this
  unfold Builtin.len_
  simp [Sem.run_bind, run_underlying hm, gob h1, Result.andThen, hl, goInt]
end
section
variable {ops : Array Oper} {rest : List Oper} {o : Oper} {a : Act} {w : World} {Q : Exit → Act → World → Prop}
theorem wpList_lookup (hw : Region.wanted o (yielded ops a.tmps) = true) (mt : TypeId) (x y : Operand) (b : Bool) (ho : o.op = .lookup mt x y b) (vx vy v : Value) (hx : a.eval x = vx) (hy : a.eval y = vy) (hr : (Instr.lookup mt vx vy b).run Tryd.prog w = .ok v w)
    (h : wpList Tryd.prog ops Q rest (a.put o.dst v) w) : wpList Tryd.prog ops Q (o :: rest) a w :=
  wpList_step fun K hK => by
    rw [if_pos hw]
    exact (wp_value (K := K) v (by simp [execOp, ho, hx, hy, hr, Result.andThen]) (hK _ _ h)).out
theorem wpList_len (hw : Region.wanted o (yielded ops a.tmps) = true) (mt : TypeId) (x : Operand) (ho : o.op = .call { callee := .builtin .len, args := #[x], argTypes := #[mt] }) (vx v : Value) (hx : a.eval x = vx) (hr : ∀ ty, (Builtin.len_ #[mt] ty #[vx]).run Tryd.prog w = .ok v w)
    (h : wpList Tryd.prog ops Q rest (a.put o.dst v) w) : wpList Tryd.prog ops Q (o :: rest) a w :=
  wpList_step fun K hK => by
    rw [if_pos hw]
    unfold Oper.wp execOp
    simp only [ho]
    simp [resolve, invoke, hx, builtin, hr, Result.andThen]
    exact hK _ _ h
end
end Go.Proofs.YtjeenmeoiidmnaaDoor.MapT
