/- Arguments that are structs, opened: their fields; how long they are. -/
import Derived.Test.YtadjkidjkgnkoaaAppend
import Derived.Test.YtadjkidjkgnkoaaRows
import Derived.OpenShut
import Derived.ShutString
import Derived.ChangeOld
import Derived.SizedLaws
import Derived.Lib.SmallJoins
set_option linter.unusedVariables false
namespace Go.Proofs.Ytadjkidjkgnkoaa.Args
open Go.ChangeShapes Go.WideShapes Go.ChangeAt Go.RowKit Go.Proofs.Ytadjkidjkgnkoaa.Mem
open Go.ChangeMaps (open_string shut_string)
set_option maxRecDepth 100000

theorem own : ownKnob Try.prog.godebug = none := by kernel_rfl
theorem laidOut : laidOutB Try.prog = true := by kernel_rfl
theorem reach_lt : reachBytes ≤ 140737488355328 := by decide
theorem bytes_of {H : Type} {enc : TypeId × Value → H} {W : World} {cs : List Value} {fuel : Nat} {x : DataW H × List MemPlace}
    (h : DataW.trod enc Try.prog W 0 (fun _ => true) true fuel 22 cs = some x) : ∃ A n c l, cs = [.slice A n c] ∧ Holds W W.heap.size A n c l ∧ (n = 0 ∨ ∃ es sp, x.1 = .slice es sp ∧ es.length = n) := by
  rcases open_ints Try.underlying22 Try.underlying5 (by kernel_rfl) h with ⟨hcs, _⟩ | ⟨x, l, c, zs, hcs, _, hl, hm, hz, hxx, hcell, hwz⟩
  · exact ⟨none, 0, 0, [], hcs, Holds.nil W _ none, .inl rfl⟩
  · exact ⟨some x, l, c, zs.take l, hcs, Holds.of_row (.inr ⟨x, rfl, hl, hm, by simpa using hz, hcell, hwz⟩), .inr ⟨_, _, by rw [hxx], by simp at hz; simp [lits, hz]; omega⟩⟩
theorem size_of {H : Type} {ts : List TypeId} {ds : List (DataW H)} (h : (DataW.weightsEach Try.prog ts ds).all (· ≤ reachBytes) = true) (j : Nat) (t : TypeId) (s : ByteArray) (ht : ts[j]? = some t) (hd : ds[j]? = some (.lit (.string s.data.toList))) : s.size ≤ 140737488355328 := by
  have := Nat.le_trans (sized_string h ht hd) reach_lt
  rw [Lib.size_eq]
  exact this

set_option maxHeartbeats 1000000 in
theorem seg_of {H : Type} {enc : TypeId × Value → H} {W : World} {r : Reach} {b0 : Nat} {v : Value} {dd : DataW H} {pp : List MemPlace}
    (hv : Value.okWide Try.prog W r b0 24 v) (h : DataW.Trod enc Try.prog W 0 (fun _ => true) true 24 v dd pp) :
    ∃ (x0 : Int) (x1 : Int) (x2 : Int) (x3 : Int) (x4 : Int) (x5 : Int) (x6 : Int) (x7 : ByteArray) (A8 : Option Addr) (n8 c8 : Nat) (l8 : List Int), v = .agg #[.int .i64 x0, .int .i64 x1, .int .i64 x2, .int .i64 x3, .int .i64 x4, .int .i64 x5, .int .i64 x6, .string x7, .slice A8 n8 c8] ∧ Holds W W.heap.size A8 n8 c8 l8 ∧ ∃ D8, dd = .agg [.lit (.int .i64 x0), .lit (.int .i64 x1), .lit (.int .i64 x2), .lit (.int .i64 x3), .lit (.int .i64 x4), .lit (.int .i64 x5), .lit (.int .i64 x6), .lit (.string x7.data.toList), D8] ∧ (n8 = 0 ∨ ∃ es sp, D8 = .slice es sp ∧ es.length = n8) := by
  have zb : Try.prog.cellsOf 22 = 1 := by kernel_rfl
  have zi : Try.prog.cellsOf 3 = 1 := by kernel_rfl
  have zs : Try.prog.cellsOf 9 = 1 := by kernel_rfl
  have hs := Try.underlying24
  obtain ⟨⟨cs⟩, rfl, hsz⟩ := okWide_struct hs hv
  obtain ⟨fuel, hf⟩ := h
  obtain ⟨xs, m, _, hx, _, hlen, hg⟩ := DataW.trod_struct hs hf
  match cs, hsz.trans (show Try.prog.cellsOf 24 = 9 by kernel_rfl), xs, hlen with
  | [g0, g1, g2, g3, g4, g5, g6, g7, g8], _, [y0, y1, y2, y3, y4, y5, y6, y7, y8], _ =>
    have t0 : DataW.trod enc Try.prog W 0 (fun _ => true) true m 3 [g0] = some y0 := by simpa [Value.cells, zb, zi, zs] using hg 0 _ rfl
    obtain ⟨a0, e0, w0, _⟩ := DataW.trod_int Try.underlying3 t0
    simp at e0
    subst e0
    have t1 : DataW.trod enc Try.prog W 0 (fun _ => true) true m 3 [g1] = some y1 := by simpa [Value.cells, zb, zi, zs] using hg 1 _ rfl
    obtain ⟨a1, e1, w1, _⟩ := DataW.trod_int Try.underlying3 t1
    simp at e1
    subst e1
    have t2 : DataW.trod enc Try.prog W 0 (fun _ => true) true m 3 [g2] = some y2 := by simpa [Value.cells, zb, zi, zs] using hg 2 _ rfl
    obtain ⟨a2, e2, w2, _⟩ := DataW.trod_int Try.underlying3 t2
    simp at e2
    subst e2
    have t3 : DataW.trod enc Try.prog W 0 (fun _ => true) true m 3 [g3] = some y3 := by simpa [Value.cells, zb, zi, zs] using hg 3 _ rfl
    obtain ⟨a3, e3, w3, _⟩ := DataW.trod_int Try.underlying3 t3
    simp at e3
    subst e3
    have t4 : DataW.trod enc Try.prog W 0 (fun _ => true) true m 3 [g4] = some y4 := by simpa [Value.cells, zb, zi, zs] using hg 4 _ rfl
    obtain ⟨a4, e4, w4, _⟩ := DataW.trod_int Try.underlying3 t4
    simp at e4
    subst e4
    have t5 : DataW.trod enc Try.prog W 0 (fun _ => true) true m 3 [g5] = some y5 := by simpa [Value.cells, zb, zi, zs] using hg 5 _ rfl
    obtain ⟨a5, e5, w5, _⟩ := DataW.trod_int Try.underlying3 t5
    simp at e5
    subst e5
    have t6 : DataW.trod enc Try.prog W 0 (fun _ => true) true m 3 [g6] = some y6 := by simpa [Value.cells, zb, zi, zs] using hg 6 _ rfl
    obtain ⟨a6, e6, w6, _⟩ := DataW.trod_int Try.underlying3 t6
    simp at e6
    subst e6
    have t7 : DataW.trod enc Try.prog W 0 (fun _ => true) true m 9 [g7] = some y7 := by simpa [Value.cells, zb, zi, zs] using hg 7 _ rfl
    obtain ⟨a7, e7, w7, _⟩ := DataW.trod_string Try.underlying9 t7
    simp at e7
    subst e7
    have t8 : DataW.trod enc Try.prog W 0 (fun _ => true) true m 22 [g8] = some y8 := by simpa [Value.cells, zb, zi, zs] using hg 8 _ rfl
    obtain ⟨A8, n8, c8, l8, e8, hh8, hD8⟩ := bytes_of t8
    simp at e8
    subst e8
    exact ⟨a0, a1, a2, a3, a4, a5, a6, a7, A8, n8, c8, l8, rfl, hh8, y8.1, by
      simp only [Prod.mk.injEq] at hx
      rw [hx.1]
      simp [w0, w1, w2, w3, w4, w5, w6, w7], hD8⟩
theorem seg_sizes {H : Type} {ts : List TypeId} {ds : List (DataW H)} {x0 : Int} {x1 : Int} {x2 : Int} {x3 : Int} {x4 : Int} {x5 : Int} {x6 : Int} {x7 : ByteArray} {n8 : Nat} {D8 : DataW H} {d : DataW H} (h : (DataW.weightsEach Try.prog ts ds).all (· ≤ reachBytes) = true) (j : Nat) (ht : ts[j]? = some 24) (hd : ds[j]? = some d)
    (e : d = .agg [.lit (.int .i64 x0), .lit (.int .i64 x1), .lit (.int .i64 x2), .lit (.int .i64 x3), .lit (.int .i64 x4), .lit (.int .i64 x5), .lit (.int .i64 x6), .lit (.string x7.data.toList), D8]) (hD8 : n8 = 0 ∨ ∃ es sp, D8 = .slice es sp ∧ es.length = n8) : x7.size ≤ 140737488355328 ∧ n8 ≤ 140737488355328 := by
  subst e
  have hu := Try.underlying24
  have hv := Try.underlying22
  have hb : Try.prog.bytesOf 5 = 1 := by kernel_rfl
  have g : ∀ q, q ∈ DataW.weights Try.prog 24 (.agg [.lit (.int .i64 x0), .lit (.int .i64 x1), .lit (.int .i64 x2), .lit (.int .i64 x3), .lit (.int .i64 x4), .lit (.int .i64 x5), .lit (.int .i64 x6), .lit (.string x7.data.toList), D8]) → q ≤ 140737488355328 := fun q hq => by
    have h1 := List.all_eq_true.1 h q (DataW.weights_mem_each ht hd q hq)
    exact Nat.le_trans (by simpa using h1) reach_lt
  refine ⟨?_, ?_⟩
  · rw [Lib.size_eq]; exact g _ (by simp [DataW.weights, DataW.weightsEach, hu])
  · rcases hD8 with rfl | ⟨es, sp, rfl, rfl⟩
    · exact Nat.zero_le _
    · exact Nat.le_trans (Nat.le_add_right es.length sp.length) (g _ (by simp [DataW.weights, DataW.weightsEach, hu, hv, hb]))
end Go.Proofs.Ytadjkidjkgnkoaa.Args
