/- The contract of the document's Keys. -/
import Derived.Test.YtdnkbefpbehllaaDoorM13
import Derived.Test.YtdnkbefpbehllaaDoorM09
import Derived.Test.YtdnkbefpbehllaaDoorM04
import Derived.Test.YtdnkbefpbehllaaDoorM15
import Derived.Test.YtdnkbefpbehllaaDoorM07
set_option linter.unusedVariables false
namespace Go.Proofs.YtdnkbefpbehllaaDoor.AesKy
open Go.RowKit Go.Proofs.YtdnkbefpbehllaaDoor.Sums Go.Proofs.YtdnkbefpbehllaaDoor.Mem Go.Proofs.YtdnkbefpbehllaaDoor.Blk Go.Proofs.YtdnkbefpbehllaaDoor.Bits3 Go.Proofs.YtdnkbefpbehllaaDoor.Ints Go.Proofs.YtdnkbefpbehllaaDoor.Free Go.Proofs.YtdnkbefpbehllaaDoor.Steps Go.Proofs.YtdnkbefpbehllaaDoor.Ops Go.Proofs.YtdnkbefpbehllaaDoor.CutA Go.Proofs.YtdnkbefpbehllaaDoor.AesF Go.Proofs.YtdnkbefpbehllaaDoor.AesB Go.Proofs.YtdnkbefpbehllaaDoor.AesK Go.Proofs.YtdnkbefpbehllaaDoor.AesR Go.Proofs.YtdnkbefpbehllaaDoor.AesR2 Go.Proofs.YtdnkbefpbehllaaDoor.AesR3

theorem ints_app (a b : List Nat) : ints (a ++ b) = ints a ++ ints b := by simp [ints]
theorem getD_app {a b : List Nat} {i : Nat} (h : i < a.length) : (a ++ b).getD i 0 = a.getD i 0 := by
  rw [List.getD_eq_getElem?_getD, List.getD_eq_getElem?_getD, List.getElem?_append_left h]
theorem own_cell {w : World} {base n c g : Nat} {o : List Nat} (h : Owns w base (.slice (some ⟨g, 0, none⟩) n c) n (ints o)) {j : Nat} (hj : j < o.length) : w.cell? ⟨g, j, none⟩ = some (.int .u8 ((o.getD j 0 : Nat) : Int)) := by
  refine h.cell ?_
  unfold ints
  rw [List.getElem?_map, List.getD_eq_getElem?_getD, List.getElem?_eq_getElem hj]
  rfl
theorem own_oth {w : World} {base n q : Nat} {v : Value} {l : List Int} {t : TypeId} {cs : Array Value} (h : Owns w base v n l) (hq : Blk w q t cs) (ht : t ≠ 5) : v.ownBlock ≠ some q := by
  rcases h.2.2 with ⟨rfl, _⟩ | ⟨g, cap, cur, fz, rfl, _, hg, _⟩
  · simp [Value.ownBlock]
  · intro e
    have : g = q := by simpa [Value.ownBlock] using e
    subst this
    unfold Blk at hq
    rw [hg] at hq
    injection hq with e
    injection e with _ e _
    exact ht e.symm
theorem four_is (f : Nat → Nat) : [0, 1, 2, 3].map f = [f 0, f 1, f 2, f 3] := rfl
/-- What stands once k bytes of a word are put behind. -/
def bput (tw : List Nat) (o : List Nat) (b k : Nat) : List Nat := o ++ ([0, 1, 2, 3].map fun i => tw.getD i 0 ^^^ o.getD (b + i) 0).take k
theorem bput_zero (tw o : List Nat) (b : Nat) : bput tw o b 0 = o := by simp [bput]
theorem bput_next (tw o : List Nat) (b : Nat) {k : Nat} (h : k < 4) : bput tw o b (k + 1) = bput tw o b k ++ [tw.getD k 0 ^^^ o.getD (b + k) 0] := by
  rcases (show k = 0 ∨ k = 1 ∨ k = 2 ∨ k = 3 by omega) with rfl | rfl | rfl | rfl <;> simp [bput]
theorem bput_len (tw o : List Nat) (b : Nat) {k : Nat} (h : k ≤ 4) : (bput tw o b k).length = o.length + k := by
  rcases (show k = 0 ∨ k = 1 ∨ k = 2 ∨ k = 3 ∨ k = 4 by omega) with rfl | rfl | rfl | rfl | rfl <;> simp [bput]
theorem bput_byt {tw o : List Nat} (b : Nat) (k : Nat) (ht : Byt tw) (ho : Byt o) : Byt (bput tw o b k) := by
  refine Byt.app ho fun x hx => ?_
  obtain ⟨i, _, rfl⟩ := List.mem_map.1 (List.mem_of_mem_take hx)
  exact xor_lt (ht.get i) (ho.get _)
theorem run_slice8_1 (w : World) (u : Int) : (Instr.buildSlice 25 1 #[(0, .int .u8 u)]).run Tryd.prog w = .ok (.slice (some ⟨w.heap.size, 0, none⟩) 1 1) (w.alloc (.cells #[.int .u8 u] 5)) := by kernel_rfl
theorem st_slice8_1 {o : Oper} {a : Act} {w : World} {K : Act → World → Prop} {Q : Exit → Act → World → Prop} (x1 : Operand) (ho : o.op = .buildSlice 25 1 #[(0, x1)]) (u1 : Int) (h1 : a.eval x1 = .int .u8 u1)
    (hK : K (a.put o.dst (.slice (some ⟨w.heap.size, 0, none⟩) 1 1)) (w.alloc (.cells #[.int .u8 u1] 5))) : Step Tryd.prog o a w K Q := by
  constructor
  have hr : (execOp a.eval o).run Tryd.prog w = .ok (.value (.slice (some ⟨w.heap.size, 0, none⟩) 1 1)) (w.alloc (.cells #[.int .u8 u1] 5)) := by
    simp [execOp, ho, h1, run_slice8_1 w, Result.andThen]
  unfold Oper.wp
  rw [hr]
  exact hK
theorem st_byte_at0 {o : Oper} {a : Act} {w : World} {K : Act → World → Prop} {Q : Exit → Act → World → Prop} (x y : Operand) (ho : o.op = .indexAddr 25 x y)
    (b n c i : Nat) (z : Int) (hx : a.eval x = .slice (some ⟨b, 0, none⟩) n c) (hy : a.eval y = .int .i64 z) (hz : z = (i : Int)) (hi : i < n)
    (h : K (a.put o.dst (.pointer (some ⟨b, i, none⟩))) w) : Step Tryd.prog o a w K Q := by
  subst hz
  have := st_byte_at (w := w) (Q := Q) x y ho b 0 n c i hx hy hi (K := K)
  rw [Nat.zero_add] at this
  exact this h
theorem b_sub (a b : Int) (x y : Operand) (w : World) (h0 : -9223372036854775808 ≤ a - b) (h1 : a - b ≤ 9223372036854775807) : (do eqGuard .sub 3 x y (.int .i64 a) (.int .i64 b); binOp .sub 3 (.int .i64 a) (.int .i64 b) : Sem Value).run Tryd.prog w = .ok (.int .i64 (a - b)) w := by
  have e : IntKind.i64.wrap (a - b) = a - b := IntWalk.i64_in _ (by omega)
  simp [go_sem, eqGuard, e]

end Go.Proofs.YtdnkbefpbehllaaDoor.AesKy

