/- The contract of the document's Both: rows of bytes, one behind the other, in memory of their own. -/
import Derived.Test.YtmomkjgnopcobaaAppend
import Derived.LoopTactic
import Derived.OwnWalk
namespace Go.Proofs.Ytmomkjgnopcobaa.Both
open Go.RowKit Go.Proofs.Ytmomkjgnopcobaa.Sums Go.Proofs.Ytmomkjgnopcobaa.Mem

/-- A row among the arguments: its slice and its bytes. -/
structure Row where
  A : Option Addr
  n : Nat
  c : Nat
  l : List Int

def total : List Row → Nat
  | [] => 0
  | r :: rs => r.n + total rs
def flat : List Row → List Int
  | [] => []
  | r :: rs => r.l ++ flat rs

theorem take_more {rs : List Row} {k : Nat} {r : Row} (h : rs[k]? = some r) : rs.take (k + 1) = rs.take k ++ [r] := by
  obtain ⟨hk, e⟩ := List.getElem?_eq_some_iff.1 h
  rw [List.take_succ_eq_append_getElem hk, e]
theorem total_append (a b : List Row) : total (a ++ b) = total a + total b := by
  induction a with
  | nil => simp [total]
  | cons r a ih => simp [total, ih]; omega
theorem flat_append (a b : List Row) : flat (a ++ b) = flat a ++ flat b := by
  induction a with
  | nil => rfl
  | cons r a ih => simp [flat, ih]
theorem total_take {rs : List Row} {k : Nat} {r : Row} (h : rs[k]? = some r) : total (rs.take (k + 1)) = total (rs.take k) + r.n := by rw [take_more h, total_append]; rfl
theorem flat_take {rs : List Row} {k : Nat} {r : Row} (h : rs[k]? = some r) : flat (rs.take (k + 1)) = flat (rs.take k) ++ r.l := by rw [take_more h, flat_append]; simp [flat]
theorem total_le (rs : List Row) (k : Nat) : total (rs.take k) ≤ total rs := by
  have := total_append (rs.take k) (rs.drop k)
  rw [List.take_append_drop] at this
  omega

/-- The slice of slices at block b holds the rows. -/
def All (w : World) (B b : Nat) (rs : List Row) : Prop :=
  b < B ∧ ∀ k r, rs[k]? = some r → w.cell? ⟨b, k, none⟩ = some (.slice r.A r.n r.c) ∧ Holds w B r.A r.n r.c r.l

/-- Rows in a new slice of slices. -/
theorem All.lit {w : World} {B : Nat} (hB : B ≤ w.heap.size) (rs : List Row) (cs : Array Value) (t : TypeId) (hc : cs.toList = rs.map fun r => Value.slice r.A r.n r.c) (h : ∀ r ∈ rs, Holds w B r.A r.n r.c r.l) :
    All (w.alloc (.cells cs t)) (w.heap.size + 1) w.heap.size rs := by
  refine ⟨by omega, fun k r hk => ⟨?_, ((h r (List.mem_of_getElem? hk)).below ((Below.refl _ w).alloc hB _)).more (by omega)⟩⟩
  rw [cell_of_row _ w.heap.size k _ t (0, 0) (heap_alloc_new w _), ← Array.getElem?_toList, hc, List.getElem?_map, hk]
  rfl

theorem mem1 {P : Row → Prop} {a : Row} (ha : P a) : ∀ r ∈ [a], P r := by
  intro r h
  simp at h
  subst h
  exact ha
theorem mem2 {P : Row → Prop} {a b : Row} (ha : P a) (hb : P b) : ∀ r ∈ [a, b], P r := by
  intro r h
  simp at h
  rcases h with rfl | rfl
  · exact ha
  · exact hb
theorem mem3 {P : Row → Prop} {a b c : Row} (ha : P a) (hb : P b) (hc : P c) : ∀ r ∈ [a, b, c], P r := by
  intro r h
  simp at h
  rcases h with rfl | rfl | rfl
  · exact ha
  · exact hb
  · exact hc

end Go.Proofs.Ytmomkjgnopcobaa.Both
