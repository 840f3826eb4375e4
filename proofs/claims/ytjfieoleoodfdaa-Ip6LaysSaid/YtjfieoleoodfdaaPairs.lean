/- Rows of extension headers: their cells, an append of one more. -/
import Derived.Test.YtjfieoleoodfdaaBlk
import Derived.Test.YtjfieoleoodfdaaAppend
import Derived.Deep.AppendLies
import Derived.LoopTactic
import Derived.OwnWalk
set_option linter.unusedVariables false
namespace Go.Proofs.Ytjfieoleoodfdaa.Opts
open Go.RowKit Go.Proofs.Ytjfieoleoodfdaa.Sums Go.Proofs.Ytjfieoleoodfdaa.Mem Go.Proofs.Ytjfieoleoodfdaa.Blk

/-- The options' cells. -/
def cells : List (Int × ByteArray) → List Value
  | [] => []
  | (k, d) :: r => .int .i64 k :: .string d :: cells r
theorem cells_append (a b : List (Int × ByteArray)) : cells (a ++ b) = cells a ++ cells b := by
  induction a with
  | nil => rfl
  | cons x r ih => obtain ⟨k, d⟩ := x; simp [cells, ih]

theorem ext_info : (Try.prog.info? 43).map (fun i => (i.zero, i.size, i.bytes)) = some (some (.agg #[.int .i64 0, .string ⟨#[]⟩]), 2, 24) := by kernel_rfl

/-- append(v, Ext): one more element of two cells, out of a literal that was just made. -/
theorem wpList_pair {P : Program} {w : World} {ops : Array Oper} {rest : List Oper} {o : Oper} {a : Act} {Q : Exit → Act → World → Prop} (hgd : o.guard = none) (s x : Operand) (t e : TypeId)
    (ho : o.op = .call { callee := .builtin .append, args := #[s, x], argTypes := #[t, t] })
    (base : Nat) (z u1 u2 : Value) (bytes : Nat) (ht : P.underlying t = some (.slice e)) (hi : (P.info? e).map (fun i => (i.zero, i.size, i.bytes)) = some (some z, 2, bytes)) (hzs : z.cells.size = 2) (hby : bytes ≤ 32)
    (v : Value) (n : Nat) (xs : List Value) (hs : a.eval s = v) (hown : w.ownsRow base e 2 v n xs) (B : Nat) (hB : w.heap.size = B) (hx : a.eval x = .slice (some ⟨B, 0, none⟩) 1 1) (h1 : u1.oneCell' = true) (h2 : u2.oneCell' = true)
    (hn : n + 1 ≤ 1048576) (hbase : base ≤ w.heap.size)
    (K : ∀ v' w', w'.ownsRow base e 2 v' (n + 1) (xs ++ [u1, u2]) → (w.alloc (.cells #[u1, u2] e)).grownBy w' v.ownBlock → wpList P ops Q rest (a.put o.dst v') w') :
    wpList P ops Q (o :: rest) a (w.alloc (.cells #[u1, u2] e)) := by
  subst hB
  obtain ⟨i, hi, hz, hsz, hb⟩ := info_parts hi
  refine wpList_append_own_at _ hgd s x t ho base e i z 2 bytes ht hi hz hsz hb hzs (by decide) v n xs hs (hown.alloc _) ⟨w.heap.size, 0, none⟩ 1 1 [u1, u2] hx rfl ?_ ?_ ?_ ?_ ?_ ?_
  · intro j y hj
    match j, hj with
    | 0, hj =>
      simp at hj
      subst hj
      simp [Addr.add]
    | 1, hj =>
      simp at hj
      subst hj
      simp [Addr.add]
  · intro y hy
    simp at hy
    rcases hy with rfl | rfl
    · exact h1
    · exact h2
  · simp only [maxLen]; omega
  · have : (n + 1) * bytes ≤ 1048576 * 32 := Nat.mul_le_mul hn hby
    omega
  · simp; omega
  · exact fun v' w' h1 h2 _ _ => K v' w' h1 h2

end Go.Proofs.Ytjfieoleoodfdaa.Opts
