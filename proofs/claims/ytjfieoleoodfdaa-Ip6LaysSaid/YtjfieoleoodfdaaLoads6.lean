/- A load of one of a row's structs, in a walk; what a row gives at a place; sizes. -/
import Derived.Test.YtjfieoleoodfdaaExts
import Derived.Test.YtjfieoleoodfdaaLoads
import Derived.Test.YtjfieoleoodfdaaSmall6
set_option linter.unusedVariables false
namespace Go.Proofs.Ytjfieoleoodfdaa.Loads6
open Go.RowKit Go.Proofs.Ytjfieoleoodfdaa.Sums Go.Proofs.Ytjfieoleoodfdaa.Mem Go.Proofs.Ytjfieoleoodfdaa.P6 Go.Proofs.Ytjfieoleoodfdaa.Blk Go.Proofs.Ytjfieoleoodfdaa.Exts Go.Proofs.Ytjfieoleoodfdaa.Free

theorem wpList_load_pair {ops : Array Oper} {rest : List Oper} {o : Oper} {a : Act} {w : World} {Q : Exit → Act → World → Prop} (hw : Region.wanted o (yielded ops a.tmps) = true) (x : Operand) (ho : o.op = .load 43 x)
    (ad : Addr) (i : Nat) (k : Int) (d : ByteArray) (hx : a.eval x = .pointer (some (ad.add (i * 2)))) (h1 : w.cell? (ad.add (i * 2)) = some (.int .i64 k)) (h2 : w.cell? (ad.add (i * 2 + 1)) = some (.string d))
    (h : wpList Try.prog ops Q rest (a.put o.dst (.agg #[.int .i64 k, .string d])) w) : wpList Try.prog ops Q (o :: rest) a w :=
  wpList_step fun K hK => by rw [if_pos hw]; exact (st_load_pair x ho ad i k d hx h1 h2 (hK _ _ h)).out

end Go.Proofs.Ytjfieoleoodfdaa.Loads6
namespace Go.Proofs.Ytjfieoleoodfdaa.Exts
open Go.RowKit Go.Proofs.Ytjfieoleoodfdaa.P6
/-- What a row gives at a place. -/
theorem Row.at_ {w : World} {E : Option Addr} {m ce : Nat} {l : P6.Exts} (h : Row w (.slice E m ce) l) {k : Nat} (hk : k < m) :
    ∃ a q d, E = some a ∧ l[k]? = some (q, d) ∧ a.block < w.heap.size ∧ w.cell? (a.add (k * 2)) = some (.int .i64 q) ∧ w.cell? (a.add (k * 2 + 1)) = some (.string d) ∧ w.cell? ⟨(a.add (k * 2)).block, (a.add (k * 2)).off + 1, none⟩ = some (.string d) := by
  obtain ⟨A', c', e, hc⟩ := h
  injection e with e1 e2 e3
  subst e1 e3
  obtain ⟨q, d, hq⟩ : ∃ q d, l[k]? = some (q, d) := ⟨_, _, List.getElem?_eq_getElem (by omega)⟩
  obtain ⟨a, rfl, hlt, c1, c2⟩ := hc k q d hq
  refine ⟨a, q, d, rfl, hq, hlt, c1, c2, ?_⟩
  rw [← c2, ← Go.Deep.add_add]
  congr 1
theorem Row.len {w : World} {E : Option Addr} {m ce : Nat} {l : P6.Exts} (h : Row w (.slice E m ce) l) : l.length = m := by
  obtain ⟨A', c', e, _⟩ := h
  injection e with e1 e2 e3
  exact e2.symm

end Go.Proofs.Ytjfieoleoodfdaa.Exts
namespace Go.Proofs.Ytjfieoleoodfdaa.Loads6
open Go.RowKit Go.Proofs.Ytjfieoleoodfdaa.Sums Go.Proofs.Ytjfieoleoodfdaa.Mem Go.Proofs.Ytjfieoleoodfdaa.P6 Go.Proofs.Ytjfieoleoodfdaa.Blk Go.Proofs.Ytjfieoleoodfdaa.Exts
def Small (l : P6.Exts) : Prop := ∀ x ∈ l, x.2.size ≤ 1048576
theorem behind_append : ∀ a b : P6.Exts, behind (a ++ b) = behind a + behind b
  | [], b => by simp [behind]
  | x :: r, b => by rw [List.cons_append, behind, behind, behind_append r b]; omega
theorem behind_le : ∀ l : P6.Exts, Small l → behind l ≤ l.length * 1048578
  | [], _ => Nat.zero_le _
  | x :: r, h => by
    have h1 := behind_le r fun y hy => h y (by simp [hy])
    have h2 := h x (by simp)
    have h3 := opn_le x.1
    rw [behind, List.length_cons, Nat.succ_mul]
    unfold sz
    omega
theorem behind_take {l : P6.Exts} {k : Nat} {q : Int} {d : ByteArray} (h : l[k]? = some (q, d)) : behind (l.take (k + 1)) = behind (l.take k) + sz (q, d) := by
  rw [List.take_add_one, h, behind_append]
  simp [behind]
theorem behind_take_le (l : P6.Exts) (k : Nat) : behind (l.take k) ≤ behind l := by
  have := behind_append (l.take k) (l.drop k)
  rw [List.take_append_drop] at this
  omega
theorem Small.at_ {l : P6.Exts} (h : Small l) {k : Nat} {q : Int} {d : ByteArray} (e : l[k]? = some (q, d)) : d.size ≤ 1048576 := h _ (List.mem_of_getElem? e)
end Go.Proofs.Ytjfieoleoodfdaa.Loads6
