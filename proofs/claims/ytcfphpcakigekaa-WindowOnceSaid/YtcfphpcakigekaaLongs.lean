/- Rows of u64 that the call owns: nil, literals, appends. No function is named. -/
import Derived.Test.YtcfphpcakigekaaAppend
import Derived.Test.YtcfphpcakigekaaBlk
import Derived.Laws.MakeOwn
import Derived.OwnWalk
set_option linter.unusedVariables false
namespace Go.Proofs.Ytcfphpcakigekaa.Longs
open Go.RowKit Go.Proofs.Ytcfphpcakigekaa.Sums Go.Proofs.Ytcfphpcakigekaa.Mem Go.Proofs.Ytcfphpcakigekaa.Blk

def Q64 : Nat := 18446744073709551616
theorem long_info : (Try.prog.info? 31).map (fun i => (i.zero, i.size, i.bytes)) = some (some (.int .u64 0), 1, 8) := by kernel_rfl
def qvals (l : List Nat) : List Value := l.map fun n : Nat => Value.int .u64 (n : Int)
theorem qvals_len (l : List Nat) : (qvals l).length = l.length := by simp [qvals]
theorem qvals_app (a b : List Nat) : qvals (a ++ b) = qvals a ++ qvals b := by simp [qvals]
theorem qvals_get {l : List Nat} {i : Nat} (h : i < l.length) : (qvals l)[i]? = some (.int .u64 ((l.getD i 0 : Nat) : Int)) := by
  unfold qvals
  rw [List.getElem?_map, List.getD_eq_getElem?_getD, List.getElem?_eq_getElem h]
  rfl
theorem qvals_one (l : List Nat) : ∀ u ∈ qvals l, u.oneCell' = true := by
  intro u hu
  obtain ⟨n, _, rfl⟩ := List.mem_map.1 hu
  rfl
/-- A row of u64 that the call owns. -/
def QOwn (w : World) (base : Nat) (v : Value) (l : List Nat) : Prop := w.ownsRow base 31 1 v l.length (qvals l)
section
variable {w w' : World} {base : Nat} {v : Value} {l : List Nat}
theorem QOwn.nil (w : World) (base : Nat) : QOwn w base (.slice none 0 0) [] := ⟨rfl, .inl ⟨rfl, rfl⟩⟩
theorem QOwn.kept {row : Option Nat} (h : QOwn w base v l) (hg : w.grownBy w' row) (hne : v.ownBlock = none ∨ v.ownBlock ≠ row) : QOwn w' base v l := World.ownsRow.kept h hg hne
theorem QOwn.below {B : Nat} (h : QOwn w base v l) (hb : Below B w w') (hB : w.heap.size ≤ B) : QOwn w' base v l :=
  h.kept (row := none) ⟨hb.os, hb.tape, hb.output, hb.size, fun k hk _ => hb.block k (by omega)⟩ (by cases hv : v.ownBlock <;> simp)
theorem QOwn.up (h : QOwn w base v l) (hb : Below w.heap.size w w') : QOwn w' base v l := h.below hb (Nat.le_refl _)
theorem QOwn.alloc (h : QOwn w base v l) (o : Obj) : QOwn (w.alloc o) base v l := World.ownsRow.alloc h o
theorem QOwn.drew (h : QOwn w base v l) : QOwn w.drew base v l := h
theorem QOwn.mono {b2 : Nat} (h : QOwn w base v l) (hb : b2 ≤ base) : QOwn w b2 v l := by
  refine ⟨h.1, ?_⟩
  rcases h.2 with hn | ⟨g, cap, cur, rfl, hb', rest⟩
  · exact .inl hn
  · exact .inr ⟨g, cap, cur, rfl, by omega, rest⟩
theorem QOwn.form (h : QOwn w base v l) (hn : 0 < l.length) : ∃ g cap, v = .slice (some ⟨g, 0, none⟩) l.length cap ∧ base ≤ g ∧ g < w.heap.size ∧ l.length ≤ cap ∧ cap ≤ maxLen := by
  rcases h.2 with ⟨_, h0⟩ | ⟨g, cap, cur, rfl, hb, hgg, h1, h2, _⟩
  · omega
  · refine ⟨g, cap, rfl, hb, ?_, h1, h2⟩
    rcases Nat.lt_or_ge g w.heap.size with q | q
    · exact q
    · rw [Array.getElem?_eq_none q] at hgg; cases hgg
theorem QOwn.shape (h : QOwn w base v l) : ∃ A cap, v = .slice A l.length cap := by
  rcases h.2 with ⟨rfl, h0⟩ | ⟨g, cap, cur, rfl, _⟩
  · exact ⟨none, 0, by rw [h0]⟩
  · exact ⟨_, cap, rfl⟩
theorem QOwn.lt (h : QOwn w base v l) : ∀ k, v.ownBlock = some k → base ≤ k ∧ k < w.heap.size := World.ownsRow.lt h
theorem QOwn.cell {g cap : Nat} (h : QOwn w base (.slice (some ⟨g, 0, none⟩) l.length cap) l) {i : Nat} (hi : i < l.length) : w.cell? ⟨g, i, none⟩ = some (.int .u64 ((l.getD i 0 : Nat) : Int)) := by
  have := World.ownsRow.cellAt h i (by omega)
  rw [this]
  exact qvals_get hi
end
/-- A number put behind a row of u64. -/
theorem wpList_append_long {w : World} {ops : Array Oper} {rest : List Oper} {o : Oper} {a : Act} {Q : Exit → Act → World → Prop} (hgd : o.guard = none) (s x : Operand)
    (ho : o.op = .call { callee := .builtin .append, args := #[s, x], argTypes := #[22, 22] })
    (base : Nat) (v : Value) (l : List Nat) (hs : a.eval s = v) (h : QOwn w base v l) (g c : Nat) (ks : List Nat) (hx : a.eval x = .slice (some ⟨g, 0, none⟩) ks.length c)
    (hk : ∀ i, i < ks.length → w.cell? ⟨g, i, none⟩ = some (.int .u64 ((ks.getD i 0 : Nat) : Int))) (h0 : 0 < ks.length)
    (hsm : l.length + ks.length ≤ 1048576) (hbase : base ≤ w.heap.size)
    (hK : ∀ g' cap w', QOwn w' base (.slice (some ⟨g', 0, none⟩) (l ++ ks).length cap) (l ++ ks) → w.grownBy w' v.ownBlock → (v.ownBlock = some g' ∨ g' = w.heap.size) → g' < w'.heap.size → wpList Try.prog ops Q rest (a.put o.dst (.slice (some ⟨g', 0, none⟩) (l ++ ks).length cap)) w') : wpList Try.prog ops Q (o :: rest) a w := by
  refine wpList_plain hgd fun K' hK' => ?_
  obtain ⟨i, hi, hz, hsz, hby⟩ := info_parts long_info
  rw [List.length_append] at hK
  refine Go.wp_append_lies w s x 22 ho base 31 i (.int .u64 0) 1 8 Try.underlying22 hi hz hsz hby rfl (by decide) v l.length (qvals l) hs h ⟨g, 0, none⟩ ks.length c (qvals ks) hx (by rw [qvals_len]; omega)
    (fun j u hu => ?_) (qvals_one ks) h0 (by simp only [maxLen]; omega) (by omega) hbase _ rfl fun g' cap w' ow gr hat hnew => ?_
  · have hj : j < ks.length := by
      rw [← qvals_len]
      exact (List.getElem?_eq_some_iff.1 hu).1
    rw [add_plain, Nat.zero_add, hk j hj, ← qvals_get hj, hu]
  · refine hK' _ _ (hK g' cap w' ?_ gr hat hnew)
    unfold QOwn
    rw [List.length_append, qvals_app]
    exact ow
end Go.Proofs.Ytcfphpcakigekaa.Longs
