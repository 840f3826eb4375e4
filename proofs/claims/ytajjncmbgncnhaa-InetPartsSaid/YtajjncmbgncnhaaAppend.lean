/- Appending a row of bytes, nil or not, to a row of bytes that the call owns. -/
import Derived.Test.YtajjncmbgncnhaaBytes
import Derived.Test.YtajjncmbgncnhaaChecked
import Derived.Maps.AppendAt
import Derived.OwnWalk
import Derived.RegionTactic
import Derived.Laws.BytesArg
namespace Go.Proofs.Ytajjncmbgncnhaa.Mem
open Go.RowKit Go.Proofs.Ytajjncmbgncnhaa.Sums

/-- The call owns the row v of n bytes, which are l. -/
def Owns (w : World) (base : Nat) (v : Value) (n : Nat) (l : List Int) : Prop := w.ownsRow base 5 1 v n (l.map (Value.int .u8)) ∧ Bytes l

theorem byte_info : (Try.prog.info? 5).map (fun i => (i.zero, i.size, i.bytes)) = some (some (.int .u8 0), 1, 1) := by kernel_rfl

theorem Owns.nil (w : World) (base : Nat) : Owns w base (.slice none 0 0) 0 [] := ⟨World.ownsRow_nil _ _ _ _, fun _ h => by cases h⟩

theorem Owns.len {w : World} {base n : Nat} {v : Value} {l : List Int} (h : Owns w base v n l) : l.length = n := by have := h.1.1; simpa using this

theorem Owns.slice {w : World} {base n : Nat} {v : Value} {l : List Int} (h : Owns w base v n l) : ∃ A c, v = .slice A n c ∧ Holds w w.heap.size A n c l := by
  rcases h.1.2 with ⟨rfl, rfl⟩ | ⟨g, cap, cur, rfl, _⟩
  · have : l = [] := List.eq_nil_of_length_eq_zero h.len
    subst this
    exact ⟨none, 0, rfl, Holds.nil _ _ _⟩
  · exact ⟨_, _, rfl, Holds.of_own h.1 h.2⟩

theorem Owns.block {w : World} {base n : Nat} {v : Value} {l : List Int} (h : Owns w base v n l) : ∀ k, v.ownBlock = some k → base ≤ k ∧ k < w.heap.size := h.1.lt

theorem Owns.lit (w : World) (base : Nat) (hb : base ≤ w.heap.size) (l : List Int) (cs : Array Value) (hc : cs.toList = l.map (Value.int .u8)) (hm : l.length ≤ maxLen) (h : Bytes l) :
    Owns (w.alloc (.cells cs 5)) base (.slice (some ⟨w.heap.size, 0, none⟩) l.length l.length) l.length l := by
  have hs : cs.size = l.length * 1 := by rw [← Array.length_toList, hc]; simp
  have := World.ownsRow_lit (base := base) (e := 5) (size := 1) w cs l.length hb hm hs
  rw [hc] at this
  exact ⟨this, h⟩

theorem Holds.lit (w : World) (l : List Int) (cs : Array Value) (hc : cs.toList = l.map (Value.int .u8)) (hm : l.length ≤ maxLen) (h : Bytes l) :
    Holds (w.alloc (.cells cs 5)) (w.heap.size + 1) (some ⟨w.heap.size, 0, none⟩) l.length l.length l := by
  have := Holds.of_own (Owns.lit w 0 (Nat.zero_le _) l cs hc hm h).1 h
  simpa using this

theorem run_append_bytes (w : World) (ty : TypeId) (base : Nat) (v : Value) (n : Nat) (l : List Int) (h : Owns w base v n l) (B : Nat) (A : Option Addr) (m c : Nat) (k : List Int) (hk : Holds w B A m c k)
    (hs : n + m ≤ 1048576) (hbase : base ≤ w.heap.size) :
    ∃ v' w', (Builtin.append_ #[22, 22] ty #[v, .slice A m c]).run Try.prog w = .ok v' w' ∧ Owns w' base v' (n + m) (l ++ k) ∧ w.grownBy w' v.ownBlock ∧ (v'.ownBlock = v.ownBlock ∨ v'.ownBlock = some w.heap.size) := by
  obtain ⟨i, hi, hz, hsz, hby⟩ := info_parts byte_info
  rcases A with _ | ad
  · have hm : m = 0 := by
      rcases Nat.eq_zero_or_pos m with h0 | h0
      · exact h0
      · obtain ⟨_, _, e, _⟩ := hk.2.2.2.2 h0
        cases e
    subst hm
    have hn : k = [] := List.eq_nil_of_length_eq_zero hk.1
    subst hn
    refine ⟨v, w, ?_, by simpa using h, World.grownBy.refl _ _, .inl rfl⟩
    rcases h.1.2 with ⟨rfl, rfl⟩ | ⟨g, cap, cur, rfl, _, _, hnc, _⟩
    · simp [Builtin.append_, run_underlying Try.underlying22, sizeOf, typeInfo, hi, Builtin.lenOf, Builtin.firstCells]
    · simp [Builtin.append_, run_underlying Try.underlying22, sizeOf, typeInfo, hi, Builtin.lenOf, Builtin.firstCells, hnc, storeCells]
  · have hc : ∀ j u, (k.map (Value.int .u8))[j]? = some u → w.cell? (ad.add j) = some u := by
      intro j u hu
      have hj : j < k.length := by
        rcases Nat.lt_or_ge j k.length with hj | hj
        · exact hj
        · simp [List.getElem?_eq_none hj] at hu
      obtain ⟨b, o, e, _, hc⟩ := hk.2.2.2.2 (by have := hk.1; omega)
      injection e with e
      subst e
      rw [add_plain]
      simp [List.getElem?_eq_getElem hj] at hu
      rw [← hu]
      exact hc j _ (List.getElem?_eq_getElem hj)
    obtain ⟨v', w', hr, h2, h3, _, h5⟩ := run_append_own_at (P := Try.prog) w base 22 ty 5 i (.int .u8 0) 1 1 Try.underlying22 hi hz hsz hby rfl (by decide) v n _ h.1 ad m c (k.map (Value.int .u8))
      (by simpa using hk.1) hc (ints_oneCell _ _) (by simp only [maxLen]; omega) (by omega) hbase
    exact ⟨v', w', hr, ⟨by simpa using h2, h.2.append hk.2.2.2.1⟩, h3, h5⟩

theorem wpList_append_bytes {w : World} {ops : Array Oper} {rest : List Oper} {o : Oper} {a : Act} {Q : Exit → Act → World → Prop} (hgd : o.guard = none) (s x : Operand)
    (ho : o.op = .call { callee := .builtin .append, args := #[s, x], argTypes := #[22, 22] })
    (base : Nat) (v : Value) (n : Nat) (l : List Int) (hs : a.eval s = v) (h : Owns w base v n l) (B : Nat) (A : Option Addr) (m c : Nat) (k : List Int) (hx : a.eval x = .slice A m c) (hk : Holds w B A m c k)
    (hsm : n + m ≤ 1048576) (hbase : base ≤ w.heap.size)
    (K : ∀ v' w', Owns w' base v' (n + m) (l ++ k) → w.grownBy w' v.ownBlock → (v'.ownBlock = v.ownBlock ∨ v'.ownBlock = some w.heap.size) → wpList Try.prog ops Q rest (a.put o.dst v') w') :
    wpList Try.prog ops Q (o :: rest) a w := by
  refine wpList_plain hgd fun K' hK => ?_
  obtain ⟨v', w', hr, h2, h3, h4⟩ := run_append_bytes w o.type base v n l h B A m c k hk hsm hbase
  unfold Oper.wp execOp
  simp only [ho, resolve, invoke, builtin, Sem.run_bind, Sem.run_pure, Result.andThen_ok, List.map_toArray, List.map_cons, List.map_nil, hs, hx, hr]
  exact hK _ _ (K v' w' h2 h3 h4)

theorem run_string_bytes {w : World} {B : Nat} {A : Option Addr} {n c : Nat} {l : List Int} (h : Holds w B A n c l) :
    (convert 22 9 (.slice A n c)).run Try.prog w = .ok (.string (strOfNums l)) w := by
  by_cases h0 : n = 0
  · subst h0
    have e : l = [] := List.eq_nil_of_length_eq_zero h.1
    subst e
    rw [run_convert_bytes_string w 22 9 5 A 0 c Try.underlying22 Try.underlying5 Try.underlying9]
    cases A <;> simp [Conv.bytesToString, loadCells, strOfNums] <;> rfl
  · obtain ⟨b, o, rfl, _, hc⟩ := h.2.2.2.2 (by omega)
    refine run_convert_bytes_arg w 22 5 Try.underlying22 Try.underlying5 b o n c l h.1 (fun i hi => ?_) 9 Try.underlying9
    have hi' : i < l.length := by rw [h.1]; exact hi
    rw [hc i l[i] (List.getElem?_eq_getElem hi')]
    simp [hi']

/-- A slice that came in: its first elements. -/
theorem Holds.of_row {w : World} {a : Option Addr} {len cap : Nat} {zs : List Int}
    (h : (a = none ∧ len = 0 ∧ cap = 0 ∧ zs = []) ∨
      ∃ x, a = some x ∧ len ≤ cap ∧ cap ≤ maxLen ∧ zs.length = cap ∧ (∀ i, i < zs.length → w.cell? (x.add i) = some (.int .u8 (zs.getD i 0))) ∧ ∀ n ∈ zs, (Lit.int .u8 n).wf = true) :
    Holds w w.heap.size a len cap (zs.take len) := by
  rcases h with ⟨rfl, rfl, rfl, rfl⟩ | ⟨x, rfl, hl, hm, hz, hc, hw⟩
  · exact Holds.nil _ _ _
  · refine ⟨by rw [List.length_take]; omega, hl, hm, fun z h => ?_, fun hn => ?_⟩
    · have := hw z (List.mem_of_mem_take h)
      simp [Lit.wf, IntKind.min, IntKind.max, IntKind.signed, IntKind.bits] at this
      omega
    · obtain ⟨b, o, s⟩ := x
      have h0 := hc 0 (by omega)
      have hs : s = none := by simpa [Addr.add] using World.cell?_spot h0
      subst hs
      refine ⟨b, o, rfl, by simpa [add_plain] using World.block_lt_of_cell? w _ h0, fun j z hj => ?_⟩
      obtain ⟨hj', e⟩ := List.getElem?_eq_some_iff.1 hj
      rw [List.length_take] at hj'
      have := hc j (by omega)
      rw [add_plain] at this
      rw [this]
      rw [List.getElem_take] at e
      subst e
      simp [show j < zs.length by omega]

end Go.Proofs.Ytajjncmbgncnhaa.Mem
