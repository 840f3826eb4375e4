/- Rows of bytes that the call owns, made by append, by a literal or out of a string; what is appended to them, a row or a string. -/
import Derived.Test.YtjeenmeoiidmnaaDoorBytes
import Derived.Test.YtjeenmeoiidmnaaDoorChecked
import Derived.Maps.AppendAt
import Derived.OwnWalk
import Derived.RegionTactic
import Derived.Laws.BytesArg
import Derived.Lib.AppendStr
import Derived.Lib.ConvBytes
namespace Go.Proofs.YtjeenmeoiidmnaaDoor.Mem
open Go.RowKit Go.Proofs.YtjeenmeoiidmnaaDoor.Sums

/-- The call owns the row v of n bytes, which are l; no cell of the row is frozen. -/
def Owns (w : World) (base : Nat) (v : Value) (n : Nat) (l : List Int) : Prop :=
  l.length = n ∧ Bytes l ∧ ((v = .slice none 0 0 ∧ n = 0) ∨
    ∃ g cap cur fz, v = .slice (some ⟨g, 0, none⟩) n cap ∧ base ≤ g ∧ w.heap[g]? = some (.cells cur 5 fz) ∧ (fz.2 = 0 ∨ cur.size ≤ fz.1) ∧ n ≤ cap ∧ cap ≤ maxLen ∧ cur.size = cap ∧ cur.toList.take n = l.map (Value.int .u8))

theorem byte_info : (Tryd.prog.info? 5).map (fun i => (i.zero, i.size, i.bytes)) = some (some (.int .u8 0), 1, 1) := by kernel_rfl

theorem Owns.nil (w : World) (base : Nat) : Owns w base (.slice none 0 0) 0 [] := ⟨rfl, fun _ h => (by cases h), .inl ⟨rfl, rfl⟩⟩

theorem Owns.of_own {w : World} {base n : Nat} {v : Value} {l : List Int} (h : w.ownsRow base 5 1 v n (l.map (Value.int .u8))) (hb : Bytes l) : Owns w base v n l := by
  refine ⟨by have := h.1; simpa using this, hb, ?_⟩
  rcases h.2 with h | ⟨g, cap, cur, hv, hg, hh, hn, hc, hs, ht⟩
  · exact .inl h
  · exact .inr ⟨g, cap, cur, (0, 0), hv, hg, hh, .inl rfl, hn, hc, by omega, by simpa using ht⟩

theorem Owns.len {w : World} {base n : Nat} {v : Value} {l : List Int} (h : Owns w base v n l) : l.length = n := h.1

theorem Owns.lt {w : World} {base n : Nat} {v : Value} {l : List Int} (h : Owns w base v n l) : ∀ k, v.ownBlock = some k → base ≤ k ∧ k < w.heap.size := by
  intro k hk
  rcases h.2.2 with ⟨rfl, _⟩ | ⟨g, cap, cur, fz, rfl, hb, hg, _⟩
  · simp [Value.ownBlock] at hk
  · simp [Value.ownBlock] at hk
    subst hk
    exact ⟨hb, (Array.getElem?_eq_some_iff.1 hg).1⟩

theorem Owns.cell {w : World} {base n c g : Nat} {l : List Int} (h : Owns w base (.slice (some ⟨g, 0, none⟩) n c) n l) {j : Nat} {z : Int} (hz : l[j]? = some z) : w.cell? ⟨g, j, none⟩ = some (.int .u8 z) := by
  rcases h.2.2 with ⟨h, _⟩ | ⟨g', cap, cur, fz, hv, _, hg, _, _, _, hs, ht⟩
  · cases h
  · injection hv with e
    injection e with e
    injection e with e
    subst e
    rw [cell_of_row w g j cur 5 fz hg]
    have hj : j < n := by
      have := (List.getElem?_eq_some_iff.1 hz).1
      rw [h.1] at this
      exact this
    have : (cur.toList.take n)[j]? = some (.int .u8 z) := by rw [ht]; simp [hz]
    rw [List.getElem?_take, if_pos hj] at this
    simpa using this

theorem Owns.slice {w : World} {base n : Nat} {v : Value} {l : List Int} (h : Owns w base v n l) : ∃ A c, v = .slice A n c ∧ Holds w w.heap.size A n c l := by
  have h' := h
  rcases h.2.2 with ⟨rfl, rfl⟩ | ⟨g, cap, cur, fz, rfl, _, hg, _, hn, hc, _⟩
  · have : l = [] := List.eq_nil_of_length_eq_zero h.1
    subst this
    exact ⟨none, 0, rfl, Holds.nil _ _ _⟩
  · exact ⟨_, _, rfl, h.1, hn, hc, h.2.1, fun _ => ⟨g, 0, rfl, (Array.getElem?_eq_some_iff.1 hg).1, fun j z hz => by rw [Nat.zero_add]; exact h'.cell hz⟩⟩

theorem Owns.kept {w w' : World} {base n : Nat} {v : Value} {l : List Int} {row : Option Nat} (h : Owns w base v n l) (hg : w.grownBy w' row) (hne : v.ownBlock = none ∨ v.ownBlock ≠ row) : Owns w' base v n l := by
  refine ⟨h.1, h.2.1, ?_⟩
  rcases h.2.2 with hn | ⟨g, cap, cur, fz, rfl, hb, hgg, rest⟩
  · exact .inl hn
  · refine .inr ⟨g, cap, cur, fz, rfl, hb, ?_, rest⟩
    rw [hg.block g (Array.getElem?_eq_some_iff.1 hgg).1 (by simpa [Value.ownBlock] using hne)]
    exact hgg

theorem Owns.below {w w' : World} {B base n : Nat} {v : Value} {l : List Int} (h : Owns w base v n l) (hb : Below B w w') (hB : w.heap.size ≤ B) : Owns w' base v n l :=
  h.kept (row := none) ⟨hb.os, hb.tape, hb.output, hb.size, fun k hk _ => hb.block k (by omega)⟩ (by cases hv : v.ownBlock <;> simp)

theorem Owns.alloc {w : World} {base n : Nat} {v : Value} {l : List Int} (h : Owns w base v n l) (o : Obj) : Owns (w.alloc o) base v n l :=
  h.kept (World.grownBy_alloc w o none) (by cases hv : v.ownBlock <;> simp)

theorem Owns.mono {w : World} {base base' n : Nat} {v : Value} {l : List Int} (h : Owns w base v n l) (hb : base' ≤ base) : Owns w base' v n l := by
  refine ⟨h.1, h.2.1, ?_⟩
  rcases h.2.2 with hn | ⟨g, cap, cur, fz, rfl, hb', rest⟩
  · exact .inl hn
  · exact .inr ⟨g, cap, cur, fz, rfl, by omega, rest⟩

/-- A store into it. -/
theorem Owns.set {w : World} {base n c g : Nat} {l : List Int} (h : Owns w base (.slice (some ⟨g, 0, none⟩) n c) n l) (j : Nat) (z : Int) (h0 : 0 ≤ z) (h1 : z ≤ 255) :
    Owns (w.setCell ⟨g, j, none⟩ (.int .u8 z)) base (.slice (some ⟨g, 0, none⟩) n c) n (l.set j z) := by
  refine ⟨by rw [List.length_set]; exact h.1, fun y hy => ?_, ?_⟩
  · rcases List.mem_or_eq_of_mem_set hy with hy | rfl
    · exact h.2.1 y hy
    · exact ⟨h0, h1⟩
  · rcases h.2.2 with ⟨h, _⟩ | ⟨g', cap, cur, fz, hv, hb, hg, hf, hn, hc, hs, ht⟩
    · cases h
    · injection hv with e _ e2
      injection e with e
      injection e with e
      subst e e2
      refine .inr ⟨g, c, cur.setIfInBounds j (.int .u8 z), fz, rfl, hb, ?_, ?_, hn, hc, by simpa using hs, ?_⟩
      · rw [setCell_eq_setRow w g j cur _ fz _ hg]
        exact setRow_heap w g cur _ _ _ hg
      · simpa using hf
      · rw [Array.toList_setIfInBounds, List.take_set, ht, List.map_set]

theorem Owns.there {w : World} {base n c g : Nat} {l : List Int} (h : Owns w base (.slice (some ⟨g, 0, none⟩) n c) n l) (j : Nat) (hj : j < n) : ∃ u, w.cell? ⟨g, j, none⟩ = some u := by
  have hl : j < l.length := by rw [h.1]; exact hj
  exact ⟨_, h.cell (List.getElem?_eq_getElem hl)⟩

theorem Owns.free {w : World} {base n c g : Nat} {l : List Int} (h : Owns w base (.slice (some ⟨g, 0, none⟩) n c) n l) (j : Nat) (hj : j < n) : w.frozen? ⟨g, j, none⟩ = false := by
  rcases h.2.2 with ⟨h, _⟩ | ⟨g', cap, cur, fz, hv, hb, hg, hf, hn, hc, hs, ht⟩
  · cases h
  · injection hv with e _ e2
    injection e with e
    injection e with e
    subst e e2
    obtain ⟨lo, hi⟩ := fz
    simp only [World.frozen?, hg, Bool.and_eq_false_iff, decide_eq_false_iff_not]
    simp only at hf
    rcases hf with hf | hf
    · right; omega
    · left; omega

theorem Owns.form {w : World} {base n c : Nat} {A : Option Addr} {l : List Int} (h : Owns w base (.slice A n c) n l) (hn : 0 < n) : ∃ g, A = some ⟨g, 0, none⟩ ∧ base ≤ g ∧ g < w.heap.size := by
  rcases h.2.2 with ⟨hv, h0⟩ | ⟨g, cap, cur, fz, hv, hb, hg, _⟩
  · omega
  · injection hv with e
    exact ⟨g, e, hb, (Array.getElem?_eq_some_iff.1 hg).1⟩

theorem Owns.holds {w : World} {base n c : Nat} {A : Option Addr} {l : List Int} (h : Owns w base (.slice A n c) n l) : Holds w w.heap.size A n c l := by
  obtain ⟨A', c', hv, hh⟩ := h.slice
  injection hv with e1 _ e2
  subst e1 e2
  exact hh

theorem Owns.lits (w : World) (base : Nat) (hb : base ≤ w.heap.size) (l : List Int) (n g : Nat) (cs : Array Value) (hc : cs.toList = l.map (Value.int .u8)) (hn : l.length = n) (hg : w.heap.size = g) (hm : n ≤ 1048576) (h : Bytes l) :
    Owns (w.alloc (.cells cs 5)) base (.slice (some ⟨g, 0, none⟩) n n) n l := by
  subst hn hg
  have hs : cs.size = l.length * 1 := by rw [← Array.length_toList, hc]; simp
  have := World.ownsRow_lit (base := base) (e := 5) (size := 1) w cs l.length hb (by simp only [maxLen]; omega) hs
  rw [hc] at this
  exact Owns.of_own this h

theorem Owns.lit (w : World) (base : Nat) (hb : base ≤ w.heap.size) (l : List Int) (cs : Array Value) (hc : cs.toList = l.map (Value.int .u8)) (hm : l.length ≤ maxLen) (h : Bytes l) :
    Owns (w.alloc (.cells cs 5)) base (.slice (some ⟨w.heap.size, 0, none⟩) l.length l.length) l.length l := by
  have hs : cs.size = l.length * 1 := by rw [← Array.length_toList, hc]; simp
  have := World.ownsRow_lit (base := base) (e := 5) (size := 1) w cs l.length hb hm hs
  rw [hc] at this
  exact Owns.of_own this h

theorem Holds.lit (w : World) (l : List Int) (cs : Array Value) (hc : cs.toList = l.map (Value.int .u8)) (hm : l.length ≤ maxLen) (h : Bytes l) :
    Holds (w.alloc (.cells cs 5)) (w.heap.size + 1) (some ⟨w.heap.size, 0, none⟩) l.length l.length l := by
  obtain ⟨A, c, hv, hh⟩ := (Owns.lit w 0 (Nat.zero_le _) l cs hc hm h).slice
  injection hv with e1 _ e2
  subst e1 e2
  simpa using hh

/-! ### A string's bytes -/
def nums (s : ByteArray) : List Int := s.data.toList.map fun b => (b.toNat : Int)
theorem nums_len (s : ByteArray) : (nums s).length = s.size := by rw [nums, List.length_map, Array.length_toList]; rfl
theorem nums_bytes (s : ByteArray) : Bytes (nums s) := by
  intro z hz
  simp only [nums, List.mem_map] at hz
  obtain ⟨b, _, rfl⟩ := hz
  have := b.toNat_lt
  omega
theorem strCells_nums (s : ByteArray) : Lib.strCells s = (nums s).map (Value.int .u8) := by simp [Lib.strCells, nums, List.map_map]

/-- A string turned into a row of bytes. -/
theorem run_bytes_string (w : World) (s : ByteArray) (hs : s.size ≤ maxLen) :
    ∃ w' v, (convert 9 60 (.string s)).run Tryd.prog w = .ok v w' ∧ Owns w' w.heap.size v s.size (nums s) ∧ Below w.heap.size w w' := by
  refine ⟨_, _, Lib.run_convert_string_bytes w 9 60 5 s Tryd.underlying9 Tryd.underlying60 Tryd.underlying5, ⟨nums_len s, nums_bytes s, .inr ⟨_, _, _, _, rfl, Nat.le_refl _, Lib.bytesWorld_at_new w 5 s, .inr (Nat.le_refl _), grownCap_ge _ _ _ _, grownCap_le_maxLen _ _ _ _ hs, ?_, ?_⟩⟩, ?_⟩
  · have := grownCap_ge w s.size 0 5
    have e : s.data.size = s.size := rfl
    simp [Lib.bytesCells, e]
    omega
  · have L : (s.data.toList.map fun b => Value.int .u8 b.toNat).length = s.size := by rw [List.length_map, Array.length_toList]; rfl
    simp only [Lib.bytesCells, Array.toList_append, Array.toList_map]
    rw [List.take_append_of_le_length (by rw [L]; exact Nat.le_refl _), List.take_of_length_le (by rw [L]; exact Nat.le_refl _)]
    simp [nums, List.map_map]
  · exact ⟨rfl, rfl, rfl, by rw [Lib.bytesWorld_size]; omega, fun k hk => Lib.bytesWorld_at_old w _ s k hk⟩

/-! ### Appending -/
theorem run_storeCells_free (P : Program) (g : Nat) (t : TypeId) (fz : Nat × Nat) : ∀ (vs : List Value) (o i : Nat) (cur : Array Value) (w : World), w.heap[g]? = some (.cells cur t fz) → (fz.2 = 0 ∨ cur.size ≤ fz.1) →
    o + i + vs.length ≤ cur.size → (∀ v ∈ vs, v.oneCell' = true) →
    (storeCells ⟨g, o, none⟩ vs i).run P w = .ok () (w.setRow g (cur.toList.take (o + i) ++ vs ++ cur.toList.drop (o + i + vs.length)).toArray)
  | [], o, i, cur, w, hg, _, _, _ => by
    simp only [storeCells, List.append_nil, List.length_nil, Nat.add_zero, List.take_append_drop, Array.toArray_toList]
    rw [setRow_self w g cur t fz hg]
    rfl
  | v :: rest, o, i, cur, w, hg, hfz, hl, h1 => by
    have hi : o + i < cur.size := by simp at hl; omega
    have hcell : w.cell? ⟨g, o + i, none⟩ = some cur[o + i] := by simp [World.cell?, hg, hi]
    have hfro : w.frozen? ⟨g, o + i, none⟩ = false := by
      obtain ⟨lo, hi'⟩ := fz
      simp only [World.frozen?, hg, Bool.and_eq_false_iff, decide_eq_false_iff_not]
      simp only at hfz
      rcases hfz with hfz | hfz
      · right; omega
      · left; omega
    have hst : (store ((⟨g, o, none⟩ : Addr).add i) v).run P w = .ok () (w.setRow g (cur.setIfInBounds (o + i) v)) := by
      rw [add_plain, run_store P w _ v _ (h1 v (by simp)), hcell]
      simp [hfro, setCell_eq_setRow w g (o + i) cur t fz v hg]
    have ih := run_storeCells_free P g t fz rest o (i + 1) (cur.setIfInBounds (o + i) v) (w.setRow g (cur.setIfInBounds (o + i) v)) (setRow_heap w g cur _ t _ hg) (by simpa using hfz) (by simp at hl ⊢; omega) (fun x hx => h1 x (by simp [hx]))
    simp only [storeCells, Sem.run_bind, hst, Result.andThen_ok, ih, setRow_setRow]
    congr 3
    have e := list_seg_step cur.toList (o + i) v rest (by simp at hl ⊢; omega)
    simpa [Array.toList_setIfInBounds, Nat.add_assoc] using e

/-- What stands behind a store of more bytes into the room of a row. -/
theorem Owns.more {w : World} {base g cap n m : Nat} {cur : Array Value} {fz : Nat × Nat} {l k : List Int} (hb : base ≤ g) (hg : w.heap[g]? = some (.cells cur 5 fz)) (hf : fz.2 = 0 ∨ cur.size ≤ fz.1) (hc : cap ≤ maxLen) (hs : cur.size = cap)
    (hl : l.length = n) (hk : k.length = m) (hbl : Bytes l) (hbk : Bytes k) (ht : cur.toList.take n = l.map (Value.int .u8)) (hroom : n + m ≤ cap) :
    Owns (w.setRow g (cur.toList.take n ++ k.map (Value.int .u8) ++ cur.toList.drop (n + (k.map (Value.int .u8)).length)).toArray) base (.slice (some ⟨g, 0, none⟩) (n + m) cap) (n + m) (l ++ k) ∧
    w.grownBy (w.setRow g (cur.toList.take n ++ k.map (Value.int .u8) ++ cur.toList.drop (n + (k.map (Value.int .u8)).length)).toArray) (some g) := by
  have hsz : (cur.toList.take n ++ k.map (Value.int .u8) ++ cur.toList.drop (n + (k.map (Value.int .u8)).length)).toArray.size = cap := by simp; omega
  refine ⟨⟨by rw [List.length_append]; omega, hbl.append hbk, .inr ⟨g, cap, _, fz, rfl, hb, setRow_heap w g cur _ _ _ hg, ?_, hroom, hc, hsz, ?_⟩⟩, ⟨rfl, rfl, rfl, by simp, fun j _ hj => setRow_other w g j _ (fun e => hj (by rw [e]))⟩⟩
  · rw [hsz, ← hs]; exact hf
  · rw [ht, ← List.map_append]
    have : ((l ++ k).map (Value.int .u8)).length = n + m := by simp; omega
    rw [List.take_append_of_le_length (by rw [this]; exact Nat.le_refl _), List.take_of_length_le (by rw [this]; exact Nat.le_refl _)]

theorem Owns.fresh (w : World) (base : Nat) (hb : base ≤ w.heap.size) (n c : Nat) (l : List Int) (cs : Array Value) (hl : l.length = n) (hbl : Bytes l) (hn : n ≤ c) (hc : c ≤ maxLen) (hs : cs.size = c) (ht : cs.toList.take n = l.map (Value.int .u8)) (row : Option Nat) :
    Owns (w.drew.alloc (.cells cs 5)) base (.slice (some ⟨w.heap.size, 0, none⟩) n c) n l ∧ w.grownBy (w.drew.alloc (.cells cs 5)) row :=
  ⟨⟨hl, hbl, .inr ⟨w.heap.size, c, cs, (0, 0), rfl, hb, heap_alloc_new w.drew _, .inl rfl, hn, hc, hs, ht⟩⟩, ⟨rfl, rfl, rfl, by simp, fun k hk _ => Below.heap_alloc w.drew _ k hk⟩⟩

set_option maxRecDepth 100000 in
theorem run_append_bytes (w : World) (ty : TypeId) (base : Nat) (v : Value) (n : Nat) (l : List Int) (h : Owns w base v n l) (B : Nat) (A : Option Addr) (m c : Nat) (k : List Int) (hk : Holds w B A m c k)
    (hs : n + m ≤ 1048576) (hbase : base ≤ w.heap.size) :
    ∃ v' w', (Builtin.append_ #[60, 60] ty #[v, .slice A m c]).run Tryd.prog w = .ok v' w' ∧ Owns w' base v' (n + m) (l ++ k) ∧ w.grownBy w' v.ownBlock ∧ (v'.ownBlock = v.ownBlock ∨ v'.ownBlock = some w.heap.size) := by
  obtain ⟨i, hi, hz, hsz, hby⟩ := info_parts byte_info
  have hml : n + m ≤ maxLen := by simp only [maxLen]; omega
  rcases A with _ | ad
  · have hm : m = 0 := by
      rcases Nat.eq_zero_or_pos m with h0 | h0
      · exact h0
      · obtain ⟨_, _, e, _⟩ := hk.2.2.2.2 h0
        cases e
    subst hm
    have hn : k = [] := List.eq_nil_of_length_eq_zero hk.1
    subst hn
    refine ⟨v, w, ?_, by simpa using h, World.grownBy.refl _ _, .inl rfl⟩
    rcases h.2.2 with ⟨rfl, rfl⟩ | ⟨g, cap, cur, fz, rfl, _, _, _, hnc, _⟩
    · simp [Builtin.append_, run_underlying Tryd.underlying60, sizeOf, typeInfo, hi, Builtin.lenOf, Builtin.firstCells]
    · simp [Builtin.append_, run_underlying Tryd.underlying60, sizeOf, typeInfo, hi, Builtin.lenOf, Builtin.firstCells, hnc, storeCells]
  · have hc : ∀ j u, (k.map (Value.int .u8))[j]? = some u → w.cell? (ad.add j) = some u := by
      intro j u hu
      have hj : j < k.length := by
        rcases Nat.lt_or_ge j k.length with hj | hj
        · exact hj
        · simp [List.getElem?_eq_none hj] at hu
      obtain ⟨b, o, e, _, hc⟩ := hk.2.2.2.2 (by have := hk.1; omega)
      injection e with e
      subst e
      rw [add_plain]
      simp [List.getElem?_eq_getElem hj] at hu
      rw [← hu]
      exact hc j _ (List.getElem?_eq_getElem hj)
    rcases h.2.2 with ⟨rfl, rfl⟩ | ⟨g, cap, cur, fz, rfl, hbg, hg, hf, hnc, hcm, hcs, ht⟩
    · have hl0 : l = [] := List.eq_nil_of_length_eq_zero h.1
      subst hl0
      obtain ⟨v', w', hr, h2, h3, _, h5⟩ := run_append_own_at (P := Tryd.prog) w base 60 ty 5 i (.int .u8 0) 1 1 Tryd.underlying60 hi hz hsz hby rfl (by decide) (.slice none 0 0) 0 []
        (World.ownsRow_nil _ _ _ _) ad m c (k.map (Value.int .u8)) (by simpa using hk.1) hc (ints_oneCell _ _) (by omega) (by omega) hbase
      exact ⟨v', w', hr, Owns.of_own (by simpa using h2) (h.2.1.append hk.2.2.2.1), h3, h5⟩
    · by_cases hroom : n + m ≤ cap
      · have hf1 := run_firstCells_some (P := Tryd.prog) w 1 m ad m c (k.map (Value.int .u8)) (by simpa using hk.1) hc
        have hst := run_storeCells_free Tryd.prog g 5 fz (k.map (Value.int .u8)) n 0 cur w hg hf (by simp; have := hk.1; omega) (ints_oneCell _ _)
        simp only [Nat.add_zero] at hst
        obtain ⟨o1, o2⟩ := Owns.more (m := m) hbg hg hf hcm hcs h.1 hk.1 h.2.1 hk.2.2.2.1 ht hroom
        refine ⟨_, _, ?_, o1, o2, .inl rfl⟩
        simp [Builtin.append_, run_underlying Tryd.underlying60, sizeOf, typeInfo, hi, hsz, Builtin.lenOf, hroom, hf1, Addr.add_lit, hst]
      · have hr := run_append_grow (P := Tryd.prog) w 60 ty 5 i (.int .u8 0) Tryd.underlying60 hi hz ⟨g, 0, none⟩ n cap (l.map (Value.int .u8)) (by rw [hsz]; simpa using h.1)
          (fun j u hu => by
            rw [add_plain, Nat.zero_add]
            rw [List.getElem?_map, Option.map_eq_some_iff] at hu
            obtain ⟨z, hz, rfl⟩ := hu
            exact h.cell hz) ad m c (k.map (Value.int .u8)) (by rw [hsz]; simpa using hk.1) hc (by omega) (by omega) (by rw [hby]; exact growslice_fits (by omega) (by omega))
        have hge := grownCap_ge w (n + m) cap 5
        have hcl := grownCap_le_maxLen w (n + m) cap 5 hml
        obtain ⟨o1, o2⟩ := Owns.fresh w base hbase (n + m) (grownCap w (n + m) cap 5) (l ++ k)
          ((l.map (Value.int .u8)).toArray ++ (k.map (Value.int .u8)).toArray ++ Builtin.zeroCells (Value.int .u8 0).cells (grownCap w (n + m) cap 5 - (n + m))) (by rw [List.length_append, h.1, hk.1]) (h.2.1.append hk.2.2.2.1) hge hcl
          (by have e : (Value.int .u8 0).cells.size = 1 := rfl
              simp only [Array.size_append, List.size_toArray, List.length_map, h.1, hk.1, size_zeroCells, e]; omega)
          (by simp only [Array.toList_append]
              rw [← List.map_append, List.take_append_of_le_length (by simp; have := h.1; have := hk.1; omega), List.take_of_length_le (by simp; have := h.1; have := hk.1; omega)])
          (Value.ownBlock (.slice (some ⟨g, 0, none⟩) n cap))
        exact ⟨_, _, hr, o1, o2, .inr rfl⟩

theorem wpList_append_bytes {w : World} {ops : Array Oper} {rest : List Oper} {o : Oper} {a : Act} {Q : Exit → Act → World → Prop} (hgd : o.guard = none) (s x : Operand)
    (ho : o.op = .call { callee := .builtin .append, args := #[s, x], argTypes := #[60, 60] })
    (base : Nat) (v : Value) (n : Nat) (l : List Int) (hs : a.eval s = v) (h : Owns w base v n l) (B : Nat) (A : Option Addr) (m c : Nat) (k : List Int) (hx : a.eval x = .slice A m c) (hk : Holds w B A m c k)
    (hsm : n + m ≤ 1048576) (hbase : base ≤ w.heap.size)
    (K : ∀ v' w', Owns w' base v' (n + m) (l ++ k) → w.grownBy w' v.ownBlock → (v'.ownBlock = v.ownBlock ∨ v'.ownBlock = some w.heap.size) → wpList Tryd.prog ops Q rest (a.put o.dst v') w') :
    wpList Tryd.prog ops Q (o :: rest) a w := by
  refine wpList_plain hgd fun K' hK => ?_
  obtain ⟨v', w', hr, h2, h3, h4⟩ := run_append_bytes w o.type base v n l h B A m c k hk hsm hbase
  unfold Oper.wp execOp
  simp only [ho, resolve, invoke, builtin, Sem.run_bind, Sem.run_pure, Result.andThen_ok, List.map_toArray, List.map_cons, List.map_nil, hs, hx, hr]
  exact hK _ _ (K v' w' h2 h3 h4)

/-- .. as a step of a region whose order is open. -/
theorem step_append_bytes {w : World} {ops : Array Oper} {o : Oper} {a : Act} {K : Act → World → Prop} {Q : Exit → Act → World → Prop} {E : Prop} (hgd : o.guard = none) (s x : Operand)
    (ho : o.op = .call { callee := .builtin .append, args := #[s, x], argTypes := #[60, 60] })
    (base : Nat) (v : Value) (n : Nat) (l : List Int) (hs : a.eval s = v) (h : Owns w base v n l) (B : Nat) (A : Option Addr) (m c : Nat) (k : List Int) (hx : a.eval x = .slice A m c) (hk : Holds w B A m c k)
    (hsm : n + m ≤ 1048576) (hbase : base ≤ w.heap.size)
    (hK : ∀ v' w', Owns w' base v' (n + m) (l ++ k) → w.grownBy w' v.ownBlock → (v'.ownBlock = v.ownBlock ∨ v'.ownBlock = some w.heap.size) → K (a.put o.dst v') w') :
    if Region.wanted o (yielded ops a.tmps) = true then Oper.wp Tryd.prog o a w K Q else E := by
  have hw : Region.wanted o (yielded ops a.tmps) = true := by simp [Region.wanted, hgd]
  rw [if_pos hw]
  obtain ⟨v', w', hr, h2, h3, h4⟩ := run_append_bytes w o.type base v n l h B A m c k hk hsm hbase
  unfold Oper.wp execOp
  simp only [ho, resolve, invoke, builtin, Sem.run_bind, Sem.run_pure, Result.andThen_ok, List.map_toArray, List.map_cons, List.map_nil, hs, hx, hr]
  exact hK _ _ h2 h3 h4

set_option maxRecDepth 100000 in
/-- A string's bytes appended. -/
theorem run_append_text (w : World) (ty : TypeId) (base : Nat) (v : Value) (n : Nat) (l : List Int) (h : Owns w base v n l) (s : ByteArray) (hs : n + s.size ≤ 1048576) (hbase : base ≤ w.heap.size) :
    ∃ v' w', (Builtin.append_ #[60, 9] ty #[v, .string s]).run Tryd.prog w = .ok v' w' ∧ Owns w' base v' (n + s.size) (l ++ nums s) ∧ w.grownBy w' v.ownBlock ∧ (v'.ownBlock = v.ownBlock ∨ base ≤ w.heap.size) := by
  obtain ⟨i, hi, hz, hsz, hby⟩ := info_parts byte_info
  have hml : n + s.size ≤ maxLen := by simp only [maxLen]; omega
  rcases h.2.2 with ⟨rfl, rfl⟩ | ⟨g, cap, cur, fz, rfl, hbg, hg, hf, hnc, hcm, hcs, ht⟩
  · have hl0 : l = [] := List.eq_nil_of_length_eq_zero h.1
    subst hl0
    obtain ⟨v', w', hr, h2, h3, _⟩ := Lib.run_append_own_string (P := Tryd.prog) w base 60 9 ty 5 i Tryd.underlying60 Tryd.underlying9 hi hz hsz hby (.slice none 0 0) 0 [] (World.ownsRow_nil _ _ _ _) s (by omega) (by omega) hbase
    exact ⟨v', w', hr, Owns.of_own (by simpa [strCells_nums] using h2) (h.2.1.append (nums_bytes s)), h3, .inr hbase⟩
  · by_cases hroom : n + s.size ≤ cap
    · have hf1 := Lib.run_firstCells_string (P := Tryd.prog) w 1 s
      have hst := run_storeCells_free Tryd.prog g 5 fz (Lib.strCells s) n 0 cur w hg hf (by rw [Lib.strCells_length]; omega) (Lib.strCells_oneCell s)
      simp only [Nat.add_zero] at hst
      obtain ⟨o1, o2⟩ := Owns.more (m := s.size) hbg hg hf hcm hcs h.1 (nums_len s) h.2.1 (nums_bytes s) ht hroom
      rw [← strCells_nums] at o1 o2
      refine ⟨_, _, ?_, o1, o2, .inl rfl⟩
      simp [Builtin.append_, run_underlying Tryd.underlying60, run_underlying Tryd.underlying9, sizeOf, typeInfo, hi, hsz, Builtin.lenOf, hroom, hf1, Addr.add_lit, hst]
    · have hr := Lib.run_append_grow_string (P := Tryd.prog) w 60 9 ty 5 i (.int .u8 0) Tryd.underlying60 Tryd.underlying9 hi hz ⟨g, 0, none⟩ n cap (l.map (Value.int .u8)) (by rw [hsz]; simpa using h.1)
        (fun j u hu => by
          rw [add_plain, Nat.zero_add]
          rw [List.getElem?_map, Option.map_eq_some_iff] at hu
          obtain ⟨z, hz, rfl⟩ := hu
          exact h.cell hz) s (by omega) (by omega) (by rw [hby]; exact growslice_fits (by omega) (by omega))
      have hge := grownCap_ge w (n + s.size) cap 5
      have hcl := grownCap_le_maxLen w (n + s.size) cap 5 hml
      have hnl := nums_len s
      obtain ⟨o1, o2⟩ := Owns.fresh w base hbase (n + s.size) (grownCap w (n + s.size) cap 5) (l ++ nums s)
        ((l.map (Value.int .u8)).toArray ++ (Lib.strCells s).toArray ++ Builtin.zeroCells (Value.int .u8 0).cells (grownCap w (n + s.size) cap 5 - (n + s.size))) (by rw [List.length_append, h.1, hnl]) (h.2.1.append (nums_bytes s)) hge hcl
        (by have e : (Value.int .u8 0).cells.size = 1 := rfl
            simp only [Array.size_append, List.size_toArray, List.length_map, h.1, Lib.strCells_length, size_zeroCells, e]; omega)
        (by simp only [Array.toList_append, strCells_nums]
            rw [← List.map_append, List.take_append_of_le_length (by simp; have := h.1; omega), List.take_of_length_le (by simp; have := h.1; omega)])
        (Value.ownBlock (.slice (some ⟨g, 0, none⟩) n cap))
      exact ⟨_, _, hr, o1, o2, .inr hbase⟩

theorem wpList_append_text {w : World} {ops : Array Oper} {rest : List Oper} {o : Oper} {a : Act} {Q : Exit → Act → World → Prop} (hgd : o.guard = none) (x y : Operand)
    (ho : o.op = .call { callee := .builtin .append, args := #[x, y], argTypes := #[60, 9] })
    (base : Nat) (v : Value) (n : Nat) (l : List Int) (hv : a.eval x = v) (h : Owns w base v n l) (s : ByteArray) (hy : a.eval y = .string s) (hsm : n + s.size ≤ 1048576) (hbase : base ≤ w.heap.size)
    (K : ∀ v' w', Owns w' base v' (n + s.size) (l ++ nums s) → w.grownBy w' v.ownBlock → wpList Tryd.prog ops Q rest (a.put o.dst v') w') :
    wpList Tryd.prog ops Q (o :: rest) a w := by
  refine wpList_plain hgd fun K' hK => ?_
  obtain ⟨v', w', hr, h2, h3, h4⟩ := run_append_text w o.type base v n l h s hsm hbase
  unfold Oper.wp execOp
  simp only [ho, resolve, invoke, builtin, Sem.run_bind, Sem.run_pure, Result.andThen_ok, List.map_toArray, List.map_cons, List.map_nil, hv, hy, hr]
  exact hK _ _ (K v' w' h2 h3)

theorem run_string_bytes {w : World} {B : Nat} {A : Option Addr} {n c : Nat} {l : List Int} (h : Holds w B A n c l) :
    (convert 60 9 (.slice A n c)).run Tryd.prog w = .ok (.string (strOfNums l)) w := by
  by_cases h0 : n = 0
  · subst h0
    have e : l = [] := List.eq_nil_of_length_eq_zero h.1
    subst e
    rw [run_convert_bytes_string w 60 9 5 A 0 c Tryd.underlying60 Tryd.underlying5 Tryd.underlying9]
    cases A <;> simp [Conv.bytesToString, loadCells, strOfNums] <;> rfl
  · obtain ⟨b, o, rfl, _, hc⟩ := h.2.2.2.2 (by omega)
    refine run_convert_bytes_arg w 60 5 Tryd.underlying60 Tryd.underlying5 b o n c l h.1 (fun i hi => ?_) 9 Tryd.underlying9
    have hi' : i < l.length := by rw [h.1]; exact hi
    rw [hc i l[i] (List.getElem?_eq_getElem hi')]
    simp [hi']

/-- A slice that came in: its first elements. -/
theorem Holds.of_row {w : World} {a : Option Addr} {len cap : Nat} {zs : List Int}
    (h : (a = none ∧ len = 0 ∧ cap = 0 ∧ zs = []) ∨
      ∃ x, a = some x ∧ len ≤ cap ∧ cap ≤ maxLen ∧ zs.length = cap ∧ (∀ i, i < zs.length → w.cell? (x.add i) = some (.int .u8 (zs.getD i 0))) ∧ ∀ n ∈ zs, (Lit.int .u8 n).wf = true) :
    Holds w w.heap.size a len cap (zs.take len) := by
  rcases h with ⟨rfl, rfl, rfl, rfl⟩ | ⟨x, rfl, hl, hm, hz, hc, hw⟩
  · exact Holds.nil _ _ _
  · refine ⟨by rw [List.length_take]; omega, hl, hm, fun z h => ?_, fun hn => ?_⟩
    · have := hw z (List.mem_of_mem_take h)
      simp [Lit.wf, IntKind.min, IntKind.max, IntKind.signed, IntKind.bits] at this
      omega
    · obtain ⟨b, o, s⟩ := x
      have h0 := hc 0 (by omega)
      have hs : s = none := by simpa [Addr.add] using World.cell?_spot h0
      subst hs
      refine ⟨b, o, rfl, by simpa [add_plain] using World.block_lt_of_cell? w _ h0, fun j z hj => ?_⟩
      obtain ⟨hj', e⟩ := List.getElem?_eq_some_iff.1 hj
      rw [List.length_take] at hj'
      have := hc j (by omega)
      rw [add_plain] at this
      rw [this]
      rw [List.getElem_take] at e
      subst e
      simp [show j < zs.length by omega]

end Go.Proofs.YtjeenmeoiidmnaaDoor.Mem
