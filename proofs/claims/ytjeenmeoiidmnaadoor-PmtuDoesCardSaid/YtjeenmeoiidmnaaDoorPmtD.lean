/- The cache of paths in memory: the code's, the document's. -/
import Derived.Test.YtjeenmeoiidmnaaDoorPmtM
import Derived.Test.YtjeenmeoiidmnaaDoorMapT
import Derived.Test.YtjeenmeoiidmnaaDoorRowA
import Derived.Test.YtjeenmeoiidmnaaDoorRowP
import Derived.Test.YtjeenmeoiidmnaaDoorObj
set_option linter.unusedVariables false
set_option maxRecDepth 100000
namespace Go.Proofs.YtjeenmeoiidmnaaDoor.PmtD
open Go.RowKit Go.Proofs.YtjeenmeoiidmnaaDoor.Sums Go.Proofs.YtjeenmeoiidmnaaDoor.Mem Go.Proofs.YtjeenmeoiidmnaaDoor.Blk Go.Proofs.YtjeenmeoiidmnaaDoor.RowN Go.Proofs.YtjeenmeoiidmnaaDoor.RowA Go.Proofs.YtjeenmeoiidmnaaDoor.MapK Go.Proofs.YtjeenmeoiidmnaaDoor.MapT Go.Proofs.YtjeenmeoiidmnaaDoor.Obj Go.Proofs.YtjeenmeoiidmnaaDoor.PmtM

abbrev CT : TypeId := 43
abbrev ET : TypeId := 52
abbrev MT : TypeId := 41
abbrev RT : TypeId := 29
abbrev KT : TypeId := 50
abbrev ptr (g : Nat) : Value := .pointer (some ⟨g, 0, none⟩)
def ev (e : Int × Int) : Value := .agg #[.int .i64 e.1, .int .i64 e.2]
/-- The code's cache lies in blocks that are none of F. -/
structure PcAt (F : Nat → Prop) (w : World) (g : Nat) (es : List Ent) : Prop where
  ex : ∃ h, Blk w g CT #[.map (some h)] ∧ MapAt ek ev w h es ∧ ¬ F g ∧ ¬ F h
  good : PmtM.Good es
theorem pc_obj (g : Nat) (es : List Ent) : IsObj fun F w => PcAt F w g es where
  mono := fun h k => by
    obtain ⟨⟨m, h1, h2, h3, h4⟩, h5⟩ := h
    exact ⟨⟨m, h1, h2, fun z => h3 (k _ h1.lt z), fun z => h4 (k _ h2.lt z)⟩, h5⟩
  keep := fun h k => by
    obtain ⟨⟨m, h1, h2, h3, h4⟩, h5⟩ := h
    exact ⟨⟨m, (k _ h1.lt h3).trans h1, h2.same (k _ h2.lt h4), h3, h4⟩, h5⟩
theorem PcAt.below {F : Nat → Prop} {w w' : World} {g : Nat} {es : List Ent} (h : PcAt F w g es) (k : Below w.heap.size w w') : PcAt F w' g es := (pc_obj g es).keep h fun i hi _ => k.block i hi
theorem stored_keep {F : Nat → Prop} {w : World} {gm : Nat} (o : Obj) (h : ¬ F gm) : Keep F w (MapK.stored w gm o) :=
  ⟨rfl, rfl, rfl, by simp [MapK.stored], fun k f _ => stored_other w gm o k fun e => h (e ▸ f)⟩
theorem pc_stored {F : Nat → Prop} {w : World} {g gm : Nat} {es es' : List Ent} (hb : Blk w g CT #[.map (some gm)]) (hm : MapAt ek ev w gm es) (nf : ¬ F g) (nm : ¬ F gm) (o : Obj) (h2 : MapAt ek ev (MapK.stored w gm o) gm es') (hg : PmtM.Good es') : PcAt F (MapK.stored w gm o) g es' := by
  have ne : g ≠ gm := by
    rintro rfl
    obtain ⟨a, c, h, _⟩ := hm
    have := hb.symm.trans h
    cases this
  exact ⟨⟨gm, (stored_other w gm o g ne).trans hb, h2, nf, nm⟩, hg⟩
theorem PcAt.keep {F : Nat → Prop} {w w' : World} {g : Nat} {es : List Ent} (h : PcAt F w g es) (k : ∀ i, i < w.heap.size → ¬ F i → w'.heap[i]? = w.heap[i]?) : PcAt F w' g es := (pc_obj g es).keep h k
def kCells (q : Ent) : List Value := [.string q.1, .int .i64 q.2.1, .int .i64 q.2.2]
def kFlat (l : List Ent) : List Value := l.flatMap kCells
theorem kFlat_len (l : List Ent) : (kFlat l).length = l.length * 3 := by
  induction l with
  | nil => rfl
  | cons z l ih =>
    unfold kFlat at ih ⊢
    rw [List.flatMap_cons, List.length_append, ih, List.length_cons, Nat.add_mul]
    simp [kCells]
    omega
theorem kFlat_at : ∀ (l : List Ent) (k : Nat) (z : Ent), l[k]? = some z → ∀ j v, (kCells z)[j]? = some v → (kFlat l)[k * 3 + j]? = some v := by
  intro l
  induction l with
  | nil => intro k z h; simp at h
  | cons y ys ih =>
    intro k z h j v hv
    have e : kFlat (y :: ys) = kCells y ++ kFlat ys := by simp [kFlat]
    have l4 : (kCells y).length = 3 := rfl
    have j4 : j < 3 := (List.getElem?_eq_some_iff.1 hv).1
    rw [e]
    cases k with
    | zero =>
      simp at h
      subst h
      rw [List.getElem?_append_left (by omega)]
      simpa using hv
    | succ k =>
      rw [List.getElem?_cons_succ] at h
      rw [List.getElem?_append_right (by omega), l4, show (k + 1) * 3 + j - 3 = k * 3 + j by omega]
      exact ih k z h j v hv
/-- The document's cache. -/
structure PrAt (F : Nat → Prop) (w : World) (x : Nat) (es : List Ent) : Prop where
  ex : ∃ A c, Blk w x RT #[.slice A es.length c] ∧ RowX KT 3 w A es.length c (kFlat es) ∧ ¬ F x ∧ ∀ k, own A k → ¬ F k
  good : PmtM.Good es
theorem pr_obj (x : Nat) (es : List Ent) : IsObj fun F w => PrAt F w x es where
  mono := fun h k => by
    obtain ⟨⟨A, c, h1, h2, h3, h4⟩, h5⟩ := h
    exact ⟨⟨A, c, h1, h2, fun z => h3 (k _ h1.lt z), fun i hi z => h4 i hi (k _ (h2.row.lt hi) z)⟩, h5⟩
  keep := fun h k => by
    obtain ⟨⟨A, c, h1, h2, h3, h4⟩, h5⟩ := h
    exact ⟨⟨A, c, (k _ h1.lt h3).trans h1, h2.keep fun i hi hl => k i hl (h4 i hi), h3, h4⟩, h5⟩
theorem PrAt.below {F : Nat → Prop} {w w' : World} {g : Nat} {es : List Ent} (h : PrAt F w g es) (k : Below w.heap.size w w') : PrAt F w' g es := (pr_obj g es).keep h fun i hi _ => k.block i hi
theorem kFlat_append (a b : List Ent) : kFlat (a ++ b) = kFlat a ++ kFlat b := by simp [kFlat]
theorem kFlat_one (q : Ent) : kFlat [q] = kCells q := by simp [kFlat]
theorem kFlat_nth : ∀ (l : List Ent) (i j : Nat), i < l.length → j < 3 → (kFlat l)[i * 3 + j]? = (l[i]?).bind fun z => (kCells z)[j]? := fun l i j hi hj => by
  obtain ⟨z, hz⟩ : ∃ z, l[i]? = some z := ⟨_, List.getElem?_eq_getElem hi⟩
  rw [hz]
  obtain ⟨v, hv⟩ : ∃ v, (kCells z)[j]? = some v := ⟨_, List.getElem?_eq_getElem (show j < (kCells z).length from hj)⟩
  rw [kFlat_at l i z hz j v hv]
  exact hv.symm
/-- One entry of a row written anew. -/
theorem row_put {w : World} {A : Option Addr} {c : Nat} {es : List Ent} (h : RowX KT 3 w A es.length c (kFlat es)) {i : Nat} (hi : i < es.length) (q : Ent) :
    ∃ b X, A = some ⟨b, 0, none⟩ ∧ Blk w b KT X ∧ i * 3 + 3 ≤ X.size ∧ (storeVar KT ⟨b, i * 3, none⟩ (.agg (kCells q).toArray)).run Tryd.prog w = .ok () (w.setRow b (spl X (i * 3) (kCells q))) ∧ RowX KT 3 (w.setRow b (spl X (i * 3) (kCells q))) A (es.modify i fun _ => q).length c (kFlat (es.modify i fun _ => q)) := by
  obtain ⟨b, X, hA, hX, hs, ht⟩ := h.row.some (by omega)
  have hc := h.row.le
  have hf : i * 3 + 3 ≤ X.size := by omega
  have hs2 : (spl X (i * 3) (kCells q)).size = X.size := spl_size (by rw [show (kCells q).length = 3 from rfl]; exact hf)
  have hB : Blk (w.setRow b (spl X (i * 3) (kCells q))) b KT (spl X (i * 3) (kCells q)) := setRow_heap _ _ _ _ _ _ hX
  have o1 : ∀ v ∈ kCells q, v.oneCell' = true := by simp [kCells, Value.oneCell']
  have st := run_store_spl (P := Tryd.prog) hX (i * 3) (kCells q) (by rw [show (kCells q).length = 3 from rfl]; exact hf) o1
  have hl : (es.modify i fun _ => q).length = es.length := List.length_modify ..
  have one3 : ∀ l : List Ent, ∀ v ∈ kFlat l, v.oneCell' = true := by
    intro l v hv
    unfold kFlat at hv
    obtain ⟨z, -, hz⟩ := List.mem_flatMap.1 hv
    simp only [kCells, List.mem_cons, List.not_mem_nil, or_false] at hz
    rcases hz with rfl | rfl | rfl <;> rfl
  refine ⟨b, X, hA, hX, hf, ?_, ⟨?_, ?_⟩⟩
  · have sv : (storeVar KT ⟨b, i * 3, none⟩ (.agg (kCells q).toArray)).run Tryd.prog w = (storeCells ⟨b, i * 3, none⟩ (kCells q) 0).run Tryd.prog w := by
      have c3 : (Value.agg (kCells q).toArray).cells.size = 3 := rfl
      simp [storeVar, Sem.run_bind, Result.andThen, c3]
      rfl
    rw [sv]
    exact st
  · refine ⟨by rw [kFlat_len], by rw [hl]; exact hc, h.row.big, one3 _, .inr ⟨b, _, hA, hB, by rw [hs2]; exact hs, ?_⟩⟩
    rw [hl]
    apply List.ext_getElem?
    intro n
    have ln : (kFlat (es.modify i fun _ => q)).length = es.length * 3 := by rw [kFlat_len, hl]
    by_cases hn : n < es.length * 3
    · obtain ⟨k, j, hj, rfl⟩ : ∃ k j, j < 3 ∧ n = k * 3 + j := ⟨n / 3, n % 3, by omega, by omega⟩
      have hk : k < es.length := by omega
      rw [kFlat_nth _ k j (by rw [hl]; exact hk) hj, List.getElem?_modify, List.getElem?_take, if_pos hn]
      have X1 : (spl X (i * 3) (kCells q)).toList = X.toList.take (i * 3) ++ (kCells q ++ X.toList.drop (i * 3 + 3)) := by
        unfold spl
        rw [List.append_assoc]
        rfl
      rw [X1]
      have lt : (X.toList.take (i * 3)).length = i * 3 := by simp; omega
      have old : X.toList[k * 3 + j]? = (kFlat es)[k * 3 + j]? := by rw [← ht, List.getElem?_take, if_pos hn]
      rw [kFlat_nth _ k j hk hj] at old
      by_cases e : i = k
      · subst e
        rw [List.getElem?_append_right (by omega), lt, show i * 3 + j - i * 3 = j by omega, List.getElem?_append_left (show j < (kCells q).length from hj)]
        obtain ⟨z, hz⟩ : ∃ z, es[i]? = some z := ⟨_, List.getElem?_eq_getElem hk⟩
        rw [hz]
        simp
      · simp only [if_neg e, Option.map_eq_map, Option.map_id']
        rcases Nat.lt_or_ge k i with q' | q'
        · rw [List.getElem?_append_left (by omega), List.getElem?_take, if_pos (by omega)]
          exact old
        · rw [List.getElem?_append_right (by omega), lt, List.getElem?_append_right (show (kCells q).length ≤ _ by show 3 ≤ _; omega), List.getElem?_drop]
          rw [show i * 3 + 3 + (k * 3 + j - i * 3 - (kCells q).length) = k * 3 + j by show i * 3 + 3 + (k * 3 + j - i * 3 - 3) = _; omega]
          exact old
    · rw [List.getElem?_take, if_neg hn, List.getElem?_eq_none (by omega)]
  · intro b' X' hA' hX'
    have e1 : b' = b := by
      have := hA.symm.trans hA'
      simpa using this.symm
    subst e1
    have e2 : X' = spl X (i * 3) (kCells q) := by
      have := hX'.symm.trans hB
      simpa using this
    rw [e2, hs2]
    exact h.fits _ _ hA hX
end Go.Proofs.YtjeenmeoiidmnaaDoor.PmtD
