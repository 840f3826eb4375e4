/- Rows of ints that the call owns: nil, literals, appends; and ones that are known whole. No function is named. -/
import Derived.Test.YtmlihcillheeaaaDoorOps
set_option linter.unusedVariables false
namespace Go.Proofs.YtmlihcillheeaaaDoor.IntsO
open Go.RowKit Go.Proofs.YtmlihcillheeaaaDoor.Sums Go.Proofs.YtmlihcillheeaaaDoor.Mem Go.Proofs.YtmlihcillheeaaaDoor.Blk Go.Proofs.YtmlihcillheeaaaDoor.Bits3 Go.Proofs.YtmlihcillheeaaaDoor.Ints Go.Proofs.YtmlihcillheeaaaDoor.Free Go.Proofs.YtmlihcillheeaaaDoor.Steps Go.Proofs.YtmlihcillheeaaaDoor.Ops

def ivals (l : List Nat) : List Value := l.map fun n : Nat => Value.int .i64 (n : Int)
theorem ivals_len (l : List Nat) : (ivals l).length = l.length := by simp [ivals]
theorem ivals_app (a b : List Nat) : ivals (a ++ b) = ivals a ++ ivals b := by simp [ivals]
theorem ivals_get {l : List Nat} {i : Nat} (h : i < l.length) : (ivals l)[i]? = some (.int .i64 ((l.getD i 0 : Nat) : Int)) := by
  unfold ivals
  rw [List.getElem?_map, List.getD_eq_getElem?_getD, List.getElem?_eq_getElem h]
  rfl
theorem ivals_one (l : List Nat) : ∀ u ∈ ivals l, u.oneCell' = true := by
  intro u hu
  obtain ⟨n, _, rfl⟩ := List.mem_map.1 hu
  rfl
/-- A row of ints that the call owns. -/
def IOwn (w : World) (base : Nat) (v : Value) (l : List Nat) : Prop := w.ownsRow base 3 1 v l.length (ivals l)
section
variable {w w' : World} {base : Nat} {v : Value} {l : List Nat}
theorem IOwn.nil (w : World) (base : Nat) : IOwn w base (.slice none 0 0) [] := ⟨rfl, .inl ⟨rfl, rfl⟩⟩
theorem IOwn.kept {row : Option Nat} (h : IOwn w base v l) (hg : w.grownBy w' row) (hne : v.ownBlock = none ∨ v.ownBlock ≠ row) : IOwn w' base v l := World.ownsRow.kept h hg hne
theorem IOwn.below {B : Nat} (h : IOwn w base v l) (hb : Below B w w') (hB : w.heap.size ≤ B) : IOwn w' base v l :=
  h.kept (row := none) ⟨hb.os, hb.tape, hb.output, hb.size, fun k hk _ => hb.block k (by omega)⟩ (by cases hv : v.ownBlock <;> simp)
theorem IOwn.up (h : IOwn w base v l) (hb : Below w.heap.size w w') : IOwn w' base v l := h.below hb (Nat.le_refl _)
theorem IOwn.alloc (h : IOwn w base v l) (o : Obj) : IOwn (w.alloc o) base v l := World.ownsRow.alloc h o
theorem IOwn.drew (h : IOwn w base v l) : IOwn w.drew base v l := h
theorem IOwn.mono {b2 : Nat} (h : IOwn w base v l) (hb : b2 ≤ base) : IOwn w b2 v l := by
  refine ⟨h.1, ?_⟩
  rcases h.2 with hn | ⟨g, cap, cur, rfl, hb', rest⟩
  · exact .inl hn
  · exact .inr ⟨g, cap, cur, rfl, by omega, rest⟩
theorem IOwn.form (h : IOwn w base v l) (hn : 0 < l.length) : ∃ g cap, v = .slice (some ⟨g, 0, none⟩) l.length cap ∧ base ≤ g ∧ g < w.heap.size ∧ l.length ≤ cap ∧ cap ≤ maxLen := by
  rcases h.2 with ⟨_, h0⟩ | ⟨g, cap, cur, rfl, hb, hgg, h1, h2, _⟩
  · omega
  · refine ⟨g, cap, rfl, hb, ?_, h1, h2⟩
    rcases Nat.lt_or_ge g w.heap.size with q | q
    · exact q
    · rw [Array.getElem?_eq_none q] at hgg; cases hgg
theorem IOwn.shape (h : IOwn w base v l) : ∃ A cap, v = .slice A l.length cap := by
  rcases h.2 with ⟨rfl, h0⟩ | ⟨g, cap, cur, rfl, _⟩
  · exact ⟨none, 0, by rw [h0]⟩
  · exact ⟨_, cap, rfl⟩
theorem IOwn.lt (h : IOwn w base v l) : ∀ k, v.ownBlock = some k → base ≤ k ∧ k < w.heap.size := World.ownsRow.lt h
theorem IOwn.cell {g cap : Nat} (h : IOwn w base (.slice (some ⟨g, 0, none⟩) l.length cap) l) {i : Nat} (hi : i < l.length) : w.cell? ⟨g, i, none⟩ = some (.int .i64 ((l.getD i 0 : Nat) : Int)) := by
  have := World.ownsRow.cellAt h i (by omega)
  rw [this]
  exact ivals_get hi
theorem IOwn.of_row {g : Nat} (h : IRow w g l) (hb : base ≤ g) (hm : l.length ≤ 1048576) : IOwn w base (.slice (some ⟨g, 0, none⟩) l.length l.length) l := by
  refine ⟨by rw [ivals_len]; omega, .inr ⟨g, l.length, icells l, rfl, hb, h, Nat.le_refl _, by simp only [maxLen]; omega, by simp [icells], ?_⟩⟩
  rw [List.take_of_length_le (by simp [icells])]
  rfl
end

/-- A row of ints put behind another one. -/
theorem st_append_ints {o : Oper} {a : Act} {w : World} {K : Act → World → Prop} {Q : Exit → Act → World → Prop} (s x : Operand)
    (ho : o.op = .call { callee := .builtin .append, args := #[s, x], argTypes := #[50, 50] })
    (base : Nat) (v : Value) (l : List Nat) (hs : a.eval s = v) (h : IOwn w base v l) (g c : Nat) (ks : List Nat) (hx : a.eval x = .slice (some ⟨g, 0, none⟩) ks.length c)
    (hk : ∀ i, i < ks.length → w.cell? ⟨g, i, none⟩ = some (.int .i64 ((ks.getD i 0 : Nat) : Int))) (h0 : 0 < ks.length)
    (hsm : l.length + ks.length ≤ 1048576) (hbase : base ≤ w.heap.size)
    (hK : ∀ v' w', IOwn w' base v' (l ++ ks) → w.grownBy w' v.ownBlock → K (a.put o.dst v') w') : Step Tryd.prog o a w K Q := by
  constructor
  obtain ⟨i, hi, hz, hsz, hby⟩ := info_parts int_info
  refine Go.wp_append_lies w s x 50 ho base 3 i (.int .i64 0) 1 8 Tryd.underlying50 hi hz hsz hby rfl (by decide) v l.length (ivals l) hs h ⟨g, 0, none⟩ ks.length c (ivals ks) hx (by rw [ivals_len]; omega)
    (fun j u hu => ?_) (ivals_one ks) h0 (by simp only [maxLen]; omega) (by omega) hbase _ rfl fun g' cap w' ow gr _ _ => ?_
  · have hj : j < ks.length := by
      rw [← ivals_len]
      exact (List.getElem?_eq_some_iff.1 hu).1
    rw [add_plain, Nat.zero_add, hk j hj, ← ivals_get hj, hu]
  · refine hK _ w' ?_ gr
    unfold IOwn
    rw [List.length_append, ivals_app]
    exact ow
theorem run_slicei_1 (w : World) (a : Int) : (Instr.buildSlice 50 1 #[(0, .int .i64 a)]).run Tryd.prog w = .ok (.slice (some ⟨w.heap.size, 0, none⟩) 1 1) (w.alloc (.cells #[.int .i64 a] 3)) := by kernel_rfl
theorem st_slicei_1 {o : Oper} {a : Act} {w : World} {K : Act → World → Prop} {Q : Exit → Act → World → Prop} (x1 : Operand) (ho : o.op = .buildSlice 50 1 #[(0, x1)]) (u1 : Int) (h1 : a.eval x1 = .int .i64 u1)
    (hK : K (a.put o.dst (.slice (some ⟨w.heap.size, 0, none⟩) 1 1)) (w.alloc (.cells #[.int .i64 u1] 3))) : Step Tryd.prog o a w K Q := by
  constructor
  have hr : (execOp a.eval o).run Tryd.prog w = .ok (.value (.slice (some ⟨w.heap.size, 0, none⟩) 1 1)) (w.alloc (.cells #[.int .i64 u1] 3)) := by
    simp [execOp, ho, h1, run_slicei_1 w, Result.andThen]
  unfold Oper.wp
  rw [hr]
  exact hK
end Go.Proofs.YtmlihcillheeaaaDoor.IntsO
