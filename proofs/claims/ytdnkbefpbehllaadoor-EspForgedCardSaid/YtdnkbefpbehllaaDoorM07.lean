/- The contract of the document's Both: rows of bytes, one behind the other, in memory of their own. -/
import Derived.Test.YtdnkbefpbehllaaDoorM01
import Derived.Test.YtdnkbefpbehllaaDoorM04
import Derived.LoopTactic
import Derived.OwnWalk
import Derived.Lib.SliceRun
namespace Go.Proofs.YtdnkbefpbehllaaDoor.Both
open Go.RowKit Go.Proofs.YtdnkbefpbehllaaDoor.Sums Go.Proofs.YtdnkbefpbehllaaDoor.Mem

/-- A row among the arguments: its slice and its bytes. -/
structure Row where
  A : Option Addr
  n : Nat
  c : Nat
  l : List Int

def total : List Row → Nat
  | [] => 0
  | r :: rs => r.n + total rs
def flat : List Row → List Int
  | [] => []
  | r :: rs => r.l ++ flat rs

theorem take_more {rs : List Row} {k : Nat} {r : Row} (h : rs[k]? = some r) : rs.take (k + 1) = rs.take k ++ [r] := by
  obtain ⟨hk, e⟩ := List.getElem?_eq_some_iff.1 h
  rw [List.take_succ_eq_append_getElem hk, e]
theorem total_append (a b : List Row) : total (a ++ b) = total a + total b := by
  induction a with
  | nil => simp [total]
  | cons r a ih => simp [total, ih]; omega
theorem flat_append (a b : List Row) : flat (a ++ b) = flat a ++ flat b := by
  induction a with
  | nil => rfl
  | cons r a ih => simp [flat, ih]
theorem total_take {rs : List Row} {k : Nat} {r : Row} (h : rs[k]? = some r) : total (rs.take (k + 1)) = total (rs.take k) + r.n := by rw [take_more h, total_append]; rfl
theorem flat_take {rs : List Row} {k : Nat} {r : Row} (h : rs[k]? = some r) : flat (rs.take (k + 1)) = flat (rs.take k) ++ r.l := by rw [take_more h, flat_append]; simp [flat]
theorem total_le (rs : List Row) (k : Nat) : total (rs.take k) ≤ total rs := by
  have := total_append (rs.take k) (rs.drop k)
  rw [List.take_append_drop] at this
  omega

/-- The slice of slices at block b holds the rows. -/
def All (w : World) (B b : Nat) (rs : List Row) : Prop :=
  b < B ∧ ∀ k r, rs[k]? = some r → w.cell? ⟨b, k, none⟩ = some (.slice r.A r.n r.c) ∧ Holds w B r.A r.n r.c r.l

theorem both_any (b m c : Nat) (rs : List Row) (w : World) (h : All w w.heap.size b rs) (hm : rs.length = m) (h1 : m ≤ 1000) (h2 : total rs ≤ 1048576) :
    Calls Tryd.prog 15 #[.slice (some ⟨b, 0, none⟩) m c] w fun e w' => ∃ v, e = .returned v ∧ Owns w' w.heap.size v (total rs) (flat rs) ∧ Below w.heap.size w w' := by
  have hm' := Lib.hid hm
  clear hm
  go_enter Tryd.func15, Tryd.ntmps15
  go_wp2
  go_loopw [3, 4] (fun s i wr => ∃ (k : Nat) (v : Value), k ≤ m ∧ i = .int .i64 k ∧ s = v ∧ Owns wr w.heap.size v (total (rs.take k)) (flat (rs.take k)) ∧ Below w.heap.size w wr) (fun _ i _ => m - (intOf i).toNat)
  case atStart => exact ⟨0, _, by omega, rfl, rfl, Owns.nil _ _, Below.refl _ _⟩
  case round =>
    obtain ⟨k, v, hk, rfl, hs, ho, hb⟩ := hrel
    replace hs := hs.symm
    subst hs
    by_cases hlt : k < m
    · have hk' : k < rs.length := by rw [hm'.out]; exact hlt
      have hr := Lib.hid (List.getElem?_eq_getElem hk')
      generalize rs[k] = r at hr
      obtain ⟨hc, hh⟩ := h.2 k r hr.out
      have hc' := (hb.cell (p := ⟨b, k, none⟩) h.1).trans hc
      have hh' := hh.below hb
      have ht := Lib.hid (total_take hr.out)
      have hl := total_le rs (k + 1)
      have hl' : total (rs.take k) + r.n ≤ 1048576 := by have := ht.out; omega
      clear hc hl
      go_wp2_with (at_builtin
                   refine wpList_append_bytes rfl (.tmp 11) (.tmp 15) rfl w.heap.size v _ _ rfl ho w.heap.size r.A r.n r.c r.l rfl hh' hl' hb.size ?_
                   intro v1 w1 ho1 hg1 hat1)
      go_roundw
      case rel => exact ⟨k + 1, _, by omega, by go_num, rfl, by rw [ht.out, flat_take hr.out]; exact ho1, hb.grown hg1 hb.size fun g hg => (ho.lt g hg).1⟩
      case measure => simp [intOf]; omega
    · have e : rs.take k = rs := List.take_of_length_le (by rw [hm'.out]; omega)
      rw [e] at ho
      clear e
      go_wp2
      go_ret
      exact ⟨v, rfl, ho, hb⟩

/-- Rows in a new slice of slices. -/
theorem All.lit {w : World} {B : Nat} (hB : B ≤ w.heap.size) (rs : List Row) (cs : Array Value) (t : TypeId) (hc : cs.toList = rs.map fun r => Value.slice r.A r.n r.c) (h : ∀ r ∈ rs, Holds w B r.A r.n r.c r.l) :
    All (w.alloc (.cells cs t)) (w.heap.size + 1) w.heap.size rs := by
  refine ⟨by omega, fun k r hk => ⟨?_, ((h r (List.mem_of_getElem? hk)).below ((Below.refl _ w).alloc hB _)).more (by omega)⟩⟩
  rw [cell_of_row _ w.heap.size k _ t (0, 0) (heap_alloc_new w _), ← Array.getElem?_toList, hc, List.getElem?_map, hk]
  rfl

theorem both_lit {w : World} {B : Nat} (hB : B ≤ w.heap.size) (rs : List Row) (cs : Array Value) (t : TypeId) (hc : cs.toList = rs.map fun r => Value.slice r.A r.n r.c) (h : ∀ r ∈ rs, Holds w B r.A r.n r.c r.l)
    (g m : Nat) (hg : w.heap.size = g) (hm : rs.length = m) (h1 : m ≤ 1000) (h2 : total rs ≤ 1048576) :
    Calls Tryd.prog 15 #[.slice (some ⟨g, 0, none⟩) m m] (w.alloc (.cells cs t)) fun e w' =>
      ∃ A' c', e = .returned (.slice A' (total rs) c') ∧ Holds w' w'.heap.size A' (total rs) c' (flat rs) ∧ Owns w' w.heap.size (.slice A' (total rs) c') (total rs) (flat rs) ∧ Below w.heap.size w w' := by
  subst hg
  have a := All.lit hB rs cs t hc h
  refine (both_any w.heap.size m m rs _ (by simpa using a) hm h1 h2).mono fun e w' ⟨v, he, ho, hb⟩ => ?_
  obtain ⟨A', c', hv, hh⟩ := ho.slice
  subst hv
  exact ⟨A', c', he, hh, ho.mono (by simp), ((Below.refl _ w).alloc (Nat.le_refl _) _).trans (hb.mono (by simp))⟩

theorem mem1 {P : Row → Prop} {a : Row} (ha : P a) : ∀ r ∈ [a], P r := by
  intro r h
  simp at h
  subst h
  exact ha
theorem mem2 {P : Row → Prop} {a b : Row} (ha : P a) (hb : P b) : ∀ r ∈ [a, b], P r := by
  intro r h
  simp at h
  rcases h with rfl | rfl
  · exact ha
  · exact hb
theorem mem3 {P : Row → Prop} {a b c : Row} (ha : P a) (hb : P b) (hc : P c) : ∀ r ∈ [a, b, c], P r := by
  intro r h
  simp at h
  rcases h with rfl | rfl | rfl
  · exact ha
  · exact hb
  · exact hc

end Go.Proofs.YtdnkbefpbehllaaDoor.Both

/- The document's words of layer 12: plain facts; the contracts of Length, Seal. -/
set_option linter.unusedVariables false
namespace Go.Proofs.YtdnkbefpbehllaaDoor.PadR
open Go.RowKit Go.Proofs.YtdnkbefpbehllaaDoor.Sums Go.Proofs.YtdnkbefpbehllaaDoor.Mem Go.Proofs.YtdnkbefpbehllaaDoor.Blk

/-- How long it is once sealed; how much stands between. -/
def long (n : Nat) : Nat := (n + 5) / 4 * 4
def cnt (n : Nat) : Nat := long n - n - 2
theorem cnt_lt (n : Nat) : cnt n < 4 := by unfold cnt long; omega
theorem cnt_long (n : Nat) : n + cnt n + 2 = long n := by unfold cnt long; omega
theorem cnt_stop {n k : Nat} (h : k ≤ cnt n) : ((n + k + 2) % 4 = 0) ↔ k = cnt n := by unfold cnt long at *; omega
/-- One, two, .. -/
def ups (k : Nat) : List Int := (List.range k).map fun i : Nat => ((i : Int) + 1)
theorem ups_len (k : Nat) : (ups k).length = k := by simp [ups]
theorem ups_next (k : Nat) : ups (k + 1) = ups k ++ [(k : Int) + 1] := by simp [ups, List.range_succ]
theorem ups_in {k : Nat} (h : k ≤ 255) : Bytes (ups k) := by
  intro z hz
  simp only [ups, List.mem_map, List.mem_range] at hz
  obtain ⟨i, hi, rfl⟩ := hz
  omega
def sealed (b : List Int) (next : Int) : List Int := b ++ ups (cnt b.length) ++ [(cnt b.length : Int), next]
def lengthI (n : Int) : Nat := if n < 0 then 0 else long n.toNat

end Go.Proofs.YtdnkbefpbehllaaDoor.PadR

/- The document's words of layer 12: the contract of Open. -/
set_option linter.unusedVariables false
namespace Go.Proofs.YtdnkbefpbehllaaDoor.PadO
open Go.RowKit Go.Proofs.YtdnkbefpbehllaaDoor.Sums Go.Proofs.YtdnkbefpbehllaaDoor.Mem Go.Proofs.YtdnkbefpbehllaaDoor.Blk Go.Proofs.YtdnkbefpbehllaaDoor.Bits Go.Proofs.YtdnkbefpbehllaaDoor.Ints Go.Proofs.YtdnkbefpbehllaaDoor.Free Go.Proofs.YtdnkbefpbehllaaDoor.Steps Go.Proofs.YtdnkbefpbehllaaDoor.Ops Go.Proofs.YtdnkbefpbehllaaDoor.PadR

/-- How much stands behind, as the row tells; is it in order? -/
def told (l : List Int) : Nat := (l.getD (l.length - 2) 0).toNat
def okO (l : List Int) : Bool := decide (told l + 2 ≤ l.length) && (List.range (told l)).all fun i => decide (l.getD (l.length - 2 - told l + i) 0 = (i : Int) + 1)

theorem byte_bd {l : List Int} (h : Bytes l) (i : Nat) : 0 ≤ l.getD i 0 ∧ l.getD i 0 ≤ 255 := by
  rw [List.getD_eq_getElem?_getD]
  cases e : l[i]? with
  | none => decide
  | some z => exact h z (List.mem_of_getElem? e)
theorem byte_elem (w : World) : (sizeOf (Tryd.prog.elem 25)).run Tryd.prog w = .ok 1 w := by kernel_rfl
theorem cut_to (A : Option Addr) (n c k : Nat) (hk : k ≤ n) (hn : n ≤ c) : ∃ A1, (A1 = A) ∧ ∀ w, (Instr.sliceAt 25 (.slice A n c) none (some (.int .i64 (k : Int))) none).run Tryd.prog w = .ok (.slice A1 k c) w := by
  refine ⟨A, rfl, fun w => ?_⟩
  rw [run_sliceAt_slice (P := Tryd.prog) (h := (by kernel_rfl)), run_slice_h (P := Tryd.prog) (w := w) (t := 25) (a := A) (len := n) (cap := c) (ht := (by kernel_rfl)) .i64 (k : Int) (by omega) (by omega), byte_elem]
  simp only [Result.andThen_ok, sliced, Int.toNat_natCast, Nat.zero_mul, Nat.sub_zero]
  by_cases h : c = 0
  · rw [if_pos h]
  · rw [if_neg h]
    cases A with
    | none => rfl
    | some a => simp [Addr.add]
theorem b_sub (a b : Int) (x y : Operand) (w : World) (h0 : -9223372036854775808 ≤ a - b) (h1 : a - b ≤ 9223372036854775807) : (do eqGuard .sub 3 x y (.int .i64 a) (.int .i64 b); binOp .sub 3 (.int .i64 a) (.int .i64 b) : Sem Value).run Tryd.prog w = .ok (.int .i64 (a - b)) w := by
  have e : IntKind.i64.wrap (a - b) = a - b := IntWalk.i64_in _ (by omega)
  simp [go_sem, eqGuard, e]
theorem st_byte_atz {o : Oper} {a : Act} {w : World} {K : Act → World → Prop} {Q : Exit → Act → World → Prop} (x y : Operand) (ho : o.op = .indexAddr 25 x y)
    (b p n c i : Nat) (z : Int) (hx : a.eval x = .slice (some ⟨b, p, none⟩) n c) (hy : a.eval y = .int .i64 z) (hz : z = (i : Int)) (hi : i < n)
    (h : K (a.put o.dst (.pointer (some ⟨b, p + i, none⟩))) w) : Step Tryd.prog o a w K Q := by
  subst hz
  exact st_byte_at (w := w) (Q := Q) x y ho b p n c i hx hy hi h
theorem ent_both : Enters Tryd.prog 15 := enters_of Tryd.func15 (by kernel_rfl) rfl
theorem all_up {w w' : World} {g : Nat} {rs : List Both.Row} (h : Both.All w w.heap.size g rs) (hb : Below w.heap.size w w') : Both.All w' w'.heap.size g rs :=
  ⟨Nat.lt_of_lt_of_le h.1 hb.size, fun k r hr => ⟨(hb.cell (p := ⟨g, k, none⟩) h.1).trans (h.2 k r hr).1, ((h.2 k r hr).2.below hb).more hb.size⟩⟩
theorem run_rows_1 (w : World) (v : Value) : (Instr.buildSlice 60 1 #[(0, v)]).run Tryd.prog w = (Instr.buildSlice 60 1 #[(0, v)]).run Tryd.prog w := rfl
theorem st_rows_1 {o : Oper} {a : Act} {w : World} {K : Act → World → Prop} {Q : Exit → Act → World → Prop} (x1 : Operand) (ho : o.op = .buildSlice 60 1 #[(0, x1)]) (A : Option Addr) (n c : Nat) (h1 : a.eval x1 = .slice A n c)
    (hK : K (a.put o.dst (.slice (some ⟨w.heap.size, 0, none⟩) 1 1)) (w.alloc (.cells #[.slice A n c] 25))) : Step Tryd.prog o a w K Q := by
  constructor
  have hb : (Instr.buildSlice 60 1 #[(0, .slice A n c)]).run Tryd.prog w = .ok (.slice (some ⟨w.heap.size, 0, none⟩) 1 1) (w.alloc (.cells #[.slice A n c] 25)) := by kernel_rfl
  have hr : (execOp a.eval o).run Tryd.prog w = .ok (.value (.slice (some ⟨w.heap.size, 0, none⟩) 1 1)) (w.alloc (.cells #[.slice A n c] 25)) := by
    simp [execOp, ho, h1, hb, Result.andThen]
  unfold Oper.wp
  rw [hr]
  exact hK
theorem all_take {l : List Int} {m b : Nat} : (List.range m).all (fun i => decide (l.getD (b + i) 0 = (i : Int) + 1)) = true ↔ ∀ i, i < m → l.getD (b + i) 0 = (i : Int) + 1 := by
  simp [List.all_eq_true]

end Go.Proofs.YtdnkbefpbehllaaDoor.PadO

