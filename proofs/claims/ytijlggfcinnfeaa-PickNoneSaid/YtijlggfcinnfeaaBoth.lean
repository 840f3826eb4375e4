/- The contract of the document's Both: rows of bytes, one behind the other, in memory of their own. -/
import Derived.Test.YtijlggfcinnfeaaAppend
import Derived.LoopTactic
import Derived.OwnWalk
namespace Go.Proofs.Ytijlggfcinnfeaa.Both
open Go.RowKit Go.Proofs.Ytijlggfcinnfeaa.Sums Go.Proofs.Ytijlggfcinnfeaa.Mem

/-- A row among the arguments: its slice and its bytes. -/
structure Row where
  A : Option Addr
  n : Nat
  c : Nat
  l : List Int

def total : List Row → Nat
  | [] => 0
  | r :: rs => r.n + total rs
def flat : List Row → List Int
  | [] => []
  | r :: rs => r.l ++ flat rs

theorem take_more {rs : List Row} {k : Nat} {r : Row} (h : rs[k]? = some r) : rs.take (k + 1) = rs.take k ++ [r] := by
  obtain ⟨hk, e⟩ := List.getElem?_eq_some_iff.1 h
  rw [List.take_succ_eq_append_getElem hk, e]
theorem total_append (a b : List Row) : total (a ++ b) = total a + total b := by
  induction a with
  | nil => simp [total]
  | cons r a ih => simp [total, ih]; omega
theorem flat_append (a b : List Row) : flat (a ++ b) = flat a ++ flat b := by
  induction a with
  | nil => rfl
  | cons r a ih => simp [flat, ih]
theorem total_take {rs : List Row} {k : Nat} {r : Row} (h : rs[k]? = some r) : total (rs.take (k + 1)) = total (rs.take k) + r.n := by rw [take_more h, total_append]; rfl
theorem flat_take {rs : List Row} {k : Nat} {r : Row} (h : rs[k]? = some r) : flat (rs.take (k + 1)) = flat (rs.take k) ++ r.l := by rw [take_more h, flat_append]; simp [flat]
theorem total_le (rs : List Row) (k : Nat) : total (rs.take k) ≤ total rs := by
  have := total_append (rs.take k) (rs.drop k)
  rw [List.take_append_drop] at this
  omega

/-- The slice of slices at block b holds the rows. -/
def All (w : World) (B b : Nat) (rs : List Row) : Prop :=
  b < B ∧ ∀ k r, rs[k]? = some r → w.cell? ⟨b, k, none⟩ = some (.slice r.A r.n r.c) ∧ Holds w B r.A r.n r.c r.l

theorem both_any (b m c : Nat) (rs : List Row) (w : World) (h : All w w.heap.size b rs) (hm : rs.length = m) (h1 : m ≤ 1000) (h2 : total rs ≤ 1048576) :
    Calls Try.prog 7 #[.slice (some ⟨b, 0, none⟩) m c] w fun e w' => ∃ v, e = .returned v ∧ Owns w' w.heap.size v (total rs) (flat rs) ∧ Below w.heap.size w w' := by
  have hm' := Lib.hid hm
  clear hm
  go_enter Try.func7, Try.ntmps7
  go_wp2
  go_loopw [3, 4] (fun s i wr => ∃ (k : Nat) (v : Value), k ≤ m ∧ i = .int .i64 k ∧ s = v ∧ Owns wr w.heap.size v (total (rs.take k)) (flat (rs.take k)) ∧ Below w.heap.size w wr) (fun _ i _ => m - (intOf i).toNat)
  case atStart => exact ⟨0, _, by omega, rfl, rfl, Owns.nil _ _, Below.refl _ _⟩
  case round =>
    obtain ⟨k, v, hk, rfl, hs, ho, hb⟩ := hrel
    replace hs := hs.symm
    subst hs
    by_cases hlt : k < m
    · have hk' : k < rs.length := by rw [hm'.out]; exact hlt
      have hr := Lib.hid (List.getElem?_eq_getElem hk')
      generalize rs[k] = r at hr
      obtain ⟨hc, hh⟩ := h.2 k r hr.out
      have hc' := (hb.cell (p := ⟨b, k, none⟩) h.1).trans hc
      have hh' := hh.below hb
      have ht := Lib.hid (total_take hr.out)
      have hl := total_le rs (k + 1)
      have hl' : total (rs.take k) + r.n ≤ 1048576 := by have := ht.out; omega
      clear hc hl
      go_wp2_with (at_builtin
                   refine wpList_append_bytes rfl (.tmp 11) (.tmp 15) rfl w.heap.size v _ _ rfl ho w.heap.size r.A r.n r.c r.l rfl hh' hl' hb.size ?_
                   intro v1 w1 ho1 hg1 hat1)
      go_roundw
      case rel => exact ⟨k + 1, _, by omega, by go_num, rfl, by rw [ht.out, flat_take hr.out]; exact ho1, hb.grown hg1 hb.size fun g hg => (ho.lt g hg).1⟩
      case measure => simp [intOf]; omega
    · have e : rs.take k = rs := List.take_of_length_le (by rw [hm'.out]; omega)
      rw [e] at ho
      clear e
      go_wp2
      go_ret
      exact ⟨v, rfl, ho, hb⟩

/-- Rows in a new slice of slices. -/
theorem All.lit {w : World} {B : Nat} (hB : B ≤ w.heap.size) (rs : List Row) (cs : Array Value) (t : TypeId) (hc : cs.toList = rs.map fun r => Value.slice r.A r.n r.c) (h : ∀ r ∈ rs, Holds w B r.A r.n r.c r.l) :
    All (w.alloc (.cells cs t)) (w.heap.size + 1) w.heap.size rs := by
  refine ⟨by omega, fun k r hk => ⟨?_, ((h r (List.mem_of_getElem? hk)).below ((Below.refl _ w).alloc hB _)).more (by omega)⟩⟩
  rw [cell_of_row _ w.heap.size k _ t (0, 0) (heap_alloc_new w _), ← Array.getElem?_toList, hc, List.getElem?_map, hk]
  rfl

theorem both_lit {w : World} {B : Nat} (hB : B ≤ w.heap.size) (rs : List Row) (cs : Array Value) (t : TypeId) (hc : cs.toList = rs.map fun r => Value.slice r.A r.n r.c) (h : ∀ r ∈ rs, Holds w B r.A r.n r.c r.l)
    (g m : Nat) (hg : w.heap.size = g) (hm : rs.length = m) (h1 : m ≤ 1000) (h2 : total rs ≤ 1048576) :
    Calls Try.prog 7 #[.slice (some ⟨g, 0, none⟩) m m] (w.alloc (.cells cs t)) fun e w' =>
      ∃ A' c', e = .returned (.slice A' (total rs) c') ∧ Holds w' w'.heap.size A' (total rs) c' (flat rs) ∧ Owns w' w.heap.size (.slice A' (total rs) c') (total rs) (flat rs) ∧ Below w.heap.size w w' := by
  subst hg
  have a := All.lit hB rs cs t hc h
  refine (both_any w.heap.size m m rs _ (by simpa using a) hm h1 h2).mono fun e w' ⟨v, he, ho, hb⟩ => ?_
  obtain ⟨A', c', hv, hh⟩ := ho.slice
  subst hv
  exact ⟨A', c', he, hh, ho.mono (by simp), ((Below.refl _ w).alloc (Nat.le_refl _) _).trans (hb.mono (by simp))⟩

theorem mem1 {P : Row → Prop} {a : Row} (ha : P a) : ∀ r ∈ [a], P r := by
  intro r h
  simp at h
  subst h
  exact ha
theorem mem2 {P : Row → Prop} {a b : Row} (ha : P a) (hb : P b) : ∀ r ∈ [a, b], P r := by
  intro r h
  simp at h
  rcases h with rfl | rfl
  · exact ha
  · exact hb
theorem mem3 {P : Row → Prop} {a b c : Row} (ha : P a) (hb : P b) (hc : P c) : ∀ r ∈ [a, b, c], P r := by
  intro r h
  simp at h
  rcases h with rfl | rfl | rfl
  · exact ha
  · exact hb
  · exact hc

end Go.Proofs.Ytijlggfcinnfeaa.Both
