/- Arguments that are structs, opened: their fields; how long they are. -/
import Derived.Test.YtnpggkpcadefjaaDoorAppend
import Derived.Test.YtnpggkpcadefjaaDoorRows
import Derived.OpenShut
import Derived.ShutString
import Derived.ChangeOld
import Derived.SizedLaws
import Derived.Lib.SmallJoins
set_option linter.unusedVariables false
namespace Go.Proofs.YtnpggkpcadefjaaDoor.Args
open Go.ChangeShapes Go.WideShapes Go.ChangeAt Go.RowKit Go.Proofs.YtnpggkpcadefjaaDoor.Mem
open Go.ChangeMaps (open_string shut_string)
set_option maxRecDepth 100000

theorem own : ownKnob Tryd.prog.godebug = none := by kernel_rfl
theorem laidOut : laidOutB Tryd.prog = true := by kernel_rfl
theorem reach_lt : reachBytes ≤ 140737488355328 := by decide
theorem bytes_of {H : Type} {enc : TypeId × Value → H} {W : World} {cs : List Value} {fuel : Nat} {x : DataW H × List MemPlace}
    (h : DataW.trod enc Tryd.prog W 0 (fun _ => true) true fuel 30 cs = some x) : ∃ A n c l, cs = [.slice A n c] ∧ Holds W W.heap.size A n c l ∧ (n = 0 ∨ ∃ es sp, x.1 = .slice es sp ∧ es.length = n) := by
  rcases open_ints Tryd.underlying30 Tryd.underlying5 (by kernel_rfl) h with ⟨hcs, _⟩ | ⟨x, l, c, zs, hcs, _, hl, hm, hz, hxx, hcell, hwz⟩
  · exact ⟨none, 0, 0, [], hcs, Holds.nil W _ none, .inl rfl⟩
  · exact ⟨some x, l, c, zs.take l, hcs, Holds.of_row (.inr ⟨x, rfl, hl, hm, by simpa using hz, hcell, hwz⟩), .inr ⟨_, _, by rw [hxx], by simp at hz; simp [lits, hz]; omega⟩⟩
theorem size_of {H : Type} {ts : List TypeId} {ds : List (DataW H)} (h : (DataW.weightsEach Tryd.prog ts ds).all (· ≤ reachBytes) = true) (j : Nat) (t : TypeId) (s : ByteArray) (ht : ts[j]? = some t) (hd : ds[j]? = some (.lit (.string s.data.toList))) : s.size ≤ 140737488355328 := by
  have := Nat.le_trans (sized_string h ht hd) reach_lt
  rw [Lib.size_eq]
  exact this
theorem bytes_size {H : Type} {ts : List TypeId} {ds : List (DataW H)} {n : Nat} {d : DataW H} (h : (DataW.weightsEach Tryd.prog ts ds).all (· ≤ reachBytes) = true) (j : Nat) (ht : ts[j]? = some 30) (hd : ds[j]? = some d) (hD : n = 0 ∨ ∃ es sp, d = .slice es sp ∧ es.length = n) : n ≤ 140737488355328 := by
  have hv := Tryd.underlying30
  have hb : Tryd.prog.bytesOf 5 = 1 := by kernel_rfl
  have g : ∀ q, q ∈ DataW.weights Tryd.prog 30 d → q ≤ 140737488355328 := fun q hq => by
    have h1 := List.all_eq_true.1 h q (DataW.weights_mem_each ht hd q hq)
    exact Nat.le_trans (by simpa using h1) reach_lt
  rcases hD with rfl | ⟨es, sp, rfl, rfl⟩
  · exact Nat.zero_le _
  · exact Nat.le_trans (Nat.le_add_right es.length sp.length) (g _ (by simp [DataW.weights, hv, hb]))

set_option maxHeartbeats 1000000 in
theorem ip4_of {H : Type} {enc : TypeId × Value → H} {W : World} {r : Reach} {b0 : Nat} {v : Value} {dd : DataW H} {pp : List MemPlace}
    (hv : Value.okWide Tryd.prog W r b0 32 v) (h : DataW.Trod enc Tryd.prog W 0 (fun _ => true) true 32 v dd pp) :
    ∃ (x0 : Int) (x1 : Int) (x2 : Int) (x3 : Int) (x4 : Bool) (x5 : Bool) (x6 : Int) (x7 : ByteArray) (x8 : ByteArray) (x9 : ByteArray) (A10 : Option Addr) (n10 c10 : Nat) (l10 : List Int), v = .agg #[.int .i64 x0, .int .i64 x1, .int .i64 x2, .int .i64 x3, .bool x4, .bool x5, .int .i64 x6, .string x7, .string x8, .string x9, .slice A10 n10 c10] ∧ Holds W W.heap.size A10 n10 c10 l10 ∧ ∃ D10, dd = .agg [.lit (.int .i64 x0), .lit (.int .i64 x1), .lit (.int .i64 x2), .lit (.int .i64 x3), .lit (.bool x4), .lit (.bool x5), .lit (.int .i64 x6), .lit (.string x7.data.toList), .lit (.string x8.data.toList), .lit (.string x9.data.toList), D10] ∧ (n10 = 0 ∨ ∃ es sp, D10 = .slice es sp ∧ es.length = n10) := by
  have zb : Tryd.prog.cellsOf 30 = 1 := by kernel_rfl
  have zi : Tryd.prog.cellsOf 3 = 1 := by kernel_rfl
  have zs : Tryd.prog.cellsOf 9 = 1 := by kernel_rfl
  have zt : Tryd.prog.cellsOf 4 = 1 := by kernel_rfl
  have hs := Tryd.underlying32
  obtain ⟨⟨cs⟩, rfl, hsz⟩ := okWide_struct hs hv
  obtain ⟨fuel, hf⟩ := h
  obtain ⟨xs, m, _, hx, _, hlen, hg⟩ := DataW.trod_struct hs hf
  match cs, hsz.trans (show Tryd.prog.cellsOf 32 = 11 by kernel_rfl), xs, hlen with
  | [g0, g1, g2, g3, g4, g5, g6, g7, g8, g9, g10], _, [y0, y1, y2, y3, y4, y5, y6, y7, y8, y9, y10], _ =>
    have t0 : DataW.trod enc Tryd.prog W 0 (fun _ => true) true m 3 [g0] = some y0 := by simpa [Value.cells, zb, zi, zs, zt] using hg 0 _ rfl
    obtain ⟨a0, e0, w0, _⟩ := DataW.trod_int Tryd.underlying3 t0
    simp at e0
    subst e0
    have t1 : DataW.trod enc Tryd.prog W 0 (fun _ => true) true m 3 [g1] = some y1 := by simpa [Value.cells, zb, zi, zs, zt] using hg 1 _ rfl
    obtain ⟨a1, e1, w1, _⟩ := DataW.trod_int Tryd.underlying3 t1
    simp at e1
    subst e1
    have t2 : DataW.trod enc Tryd.prog W 0 (fun _ => true) true m 3 [g2] = some y2 := by simpa [Value.cells, zb, zi, zs, zt] using hg 2 _ rfl
    obtain ⟨a2, e2, w2, _⟩ := DataW.trod_int Tryd.underlying3 t2
    simp at e2
    subst e2
    have t3 : DataW.trod enc Tryd.prog W 0 (fun _ => true) true m 3 [g3] = some y3 := by simpa [Value.cells, zb, zi, zs, zt] using hg 3 _ rfl
    obtain ⟨a3, e3, w3, _⟩ := DataW.trod_int Tryd.underlying3 t3
    simp at e3
    subst e3
    have t4 : DataW.trod enc Tryd.prog W 0 (fun _ => true) true m 4 [g4] = some y4 := by simpa [Value.cells, zb, zi, zs, zt] using hg 4 _ rfl
    obtain ⟨a4, e4, w4⟩ := DataW.trod_bool Tryd.underlying4 t4
    simp at e4
    subst e4
    have t5 : DataW.trod enc Tryd.prog W 0 (fun _ => true) true m 4 [g5] = some y5 := by simpa [Value.cells, zb, zi, zs, zt] using hg 5 _ rfl
    obtain ⟨a5, e5, w5⟩ := DataW.trod_bool Tryd.underlying4 t5
    simp at e5
    subst e5
    have t6 : DataW.trod enc Tryd.prog W 0 (fun _ => true) true m 3 [g6] = some y6 := by simpa [Value.cells, zb, zi, zs, zt] using hg 6 _ rfl
    obtain ⟨a6, e6, w6, _⟩ := DataW.trod_int Tryd.underlying3 t6
    simp at e6
    subst e6
    have t7 : DataW.trod enc Tryd.prog W 0 (fun _ => true) true m 9 [g7] = some y7 := by simpa [Value.cells, zb, zi, zs, zt] using hg 7 _ rfl
    obtain ⟨a7, e7, w7, _⟩ := DataW.trod_string Tryd.underlying9 t7
    simp at e7
    subst e7
    have t8 : DataW.trod enc Tryd.prog W 0 (fun _ => true) true m 9 [g8] = some y8 := by simpa [Value.cells, zb, zi, zs, zt] using hg 8 _ rfl
    obtain ⟨a8, e8, w8, _⟩ := DataW.trod_string Tryd.underlying9 t8
    simp at e8
    subst e8
    have t9 : DataW.trod enc Tryd.prog W 0 (fun _ => true) true m 9 [g9] = some y9 := by simpa [Value.cells, zb, zi, zs, zt] using hg 9 _ rfl
    obtain ⟨a9, e9, w9, _⟩ := DataW.trod_string Tryd.underlying9 t9
    simp at e9
    subst e9
    have t10 : DataW.trod enc Tryd.prog W 0 (fun _ => true) true m 30 [g10] = some y10 := by simpa [Value.cells, zb, zi, zs, zt] using hg 10 _ rfl
    obtain ⟨A10, n10, c10, l10, e10, hh10, hD10⟩ := bytes_of t10
    simp at e10
    subst e10
    exact ⟨a0, a1, a2, a3, a4, a5, a6, a7, a8, a9, A10, n10, c10, l10, rfl, hh10, y10.1, by
      simp only [Prod.mk.injEq] at hx
      rw [hx.1]
      simp [w0, w1, w2, w3, w4, w5, w6, w7, w8, w9], hD10⟩
theorem ip4_sizes {H : Type} {ts : List TypeId} {ds : List (DataW H)} {x0 : Int} {x1 : Int} {x2 : Int} {x3 : Int} {x4 : Bool} {x5 : Bool} {x6 : Int} {x7 : ByteArray} {x8 : ByteArray} {x9 : ByteArray} {n10 : Nat} {D10 : DataW H} {d : DataW H} (h : (DataW.weightsEach Tryd.prog ts ds).all (· ≤ reachBytes) = true) (j : Nat) (ht : ts[j]? = some 32) (hd : ds[j]? = some d)
    (e : d = .agg [.lit (.int .i64 x0), .lit (.int .i64 x1), .lit (.int .i64 x2), .lit (.int .i64 x3), .lit (.bool x4), .lit (.bool x5), .lit (.int .i64 x6), .lit (.string x7.data.toList), .lit (.string x8.data.toList), .lit (.string x9.data.toList), D10]) (hD10 : n10 = 0 ∨ ∃ es sp, D10 = .slice es sp ∧ es.length = n10) : x7.size ≤ 140737488355328 ∧ x8.size ≤ 140737488355328 ∧ x9.size ≤ 140737488355328 ∧ n10 ≤ 140737488355328 := by
  subst e
  have hu := Tryd.underlying32
  have hv := Tryd.underlying30
  have hb : Tryd.prog.bytesOf 5 = 1 := by kernel_rfl
  have g : ∀ q, q ∈ DataW.weights Tryd.prog 32 (.agg [.lit (.int .i64 x0), .lit (.int .i64 x1), .lit (.int .i64 x2), .lit (.int .i64 x3), .lit (.bool x4), .lit (.bool x5), .lit (.int .i64 x6), .lit (.string x7.data.toList), .lit (.string x8.data.toList), .lit (.string x9.data.toList), D10]) → q ≤ 140737488355328 := fun q hq => by
    have h1 := List.all_eq_true.1 h q (DataW.weights_mem_each ht hd q hq)
    exact Nat.le_trans (by simpa using h1) reach_lt
  refine ⟨?_, ?_, ?_, ?_⟩
  · rw [Lib.size_eq]; exact g _ (by simp [DataW.weights, DataW.weightsEach, hu])
  · rw [Lib.size_eq]; exact g _ (by simp [DataW.weights, DataW.weightsEach, hu])
  · rw [Lib.size_eq]; exact g _ (by simp [DataW.weights, DataW.weightsEach, hu])
  · rcases hD10 with rfl | ⟨es, sp, rfl, rfl⟩
    · exact Nat.zero_le _
    · exact Nat.le_trans (Nat.le_add_right es.length sp.length) (g _ (by simp [DataW.weights, DataW.weightsEach, hu, hv, hb]))
end Go.Proofs.YtnpggkpcadefjaaDoor.Args
