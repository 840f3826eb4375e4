/- Arguments that are structs of structs, and slices of such, opened. -/
import Derived.Test.YtijlggfcinnfeaaArgs
import Derived.Deep.Slices
set_option linter.unusedVariables false
namespace Go.Proofs.Ytijlggfcinnfeaa.ArgT
open Go.ChangeShapes Go.WideShapes Go.ChangeAt Go.RowKit Go.Proofs.Ytijlggfcinnfeaa.Mem
open Go.ChangeMaps (open_string shut_string)
set_option maxRecDepth 100000

/-- What a value's data weighs is no more than a machine holds. -/
def Small {H : Type} (t : TypeId) (d : DataW H) : Prop := ∀ q, q ∈ DataW.weights Try.prog t d → q ≤ 140737488355328
theorem small_arg {H : Type} {ts : List TypeId} {ds : List (DataW H)} {t : TypeId} {d : DataW H} (h : (DataW.weightsEach Try.prog ts ds).all (· ≤ reachBytes) = true) (j : Nat) (ht : ts[j]? = some t) (hd : ds[j]? = some d) : Small t d := fun q hq => by
  have h1 := List.all_eq_true.1 h q (DataW.weights_mem_each ht hd q hq)
  exact Nat.le_trans (by simpa using h1) Args.reach_lt
theorem weightsAll_mem {H : Type} {P : Program} {e : TypeId} : ∀ {l : List (DataW H)} {d : DataW H}, d ∈ l → ∀ n ∈ d.weights P e, n ∈ DataW.weightsAll P e l
  | d' :: r, d, hd, n, hn => by
    simp only [DataW.weightsAll, List.mem_append]
    rcases List.mem_cons.1 hd with rfl | h
    · exact Or.inl hn
    · exact Or.inr (weightsAll_mem h n hn)
theorem small_elem {H : Type} {t e : TypeId} {es sp : List (DataW H)} (ht : Try.prog.underlying t = some (.slice e)) (h : Small t (.slice es sp)) {d : DataW H} (hd : d ∈ es) : Small e d := fun q hq => h q (by
  simp only [DataW.weights, ht, List.mem_cons, List.mem_append]
  exact .inr (.inl (weightsAll_mem hd q hq)))

set_option maxHeartbeats 2000000 in
theorem span_cells {H : Type} {enc : TypeId × Value → H} {W : World} {fuel : Nat} {cs : List Value} {x : DataW H × List MemPlace}
    (h : DataW.trod enc Try.prog W 0 (fun _ => true) true fuel 33 cs = some x) : ∃ (x0 : ByteArray) (x1 : ByteArray), cs = [.string x0, .string x1] ∧ x.1 = .agg [.lit (.string x0.data.toList), .lit (.string x1.data.toList)] := by
  have zs : Try.prog.cellsOf 9 = 1 := by kernel_rfl
  have hs := Try.underlying33
  obtain ⟨xs, m, _, hx, hsz, hlen, hg⟩ := DataW.trod_struct hs h
  match cs, hsz.trans (show Try.prog.cellsOf 33 = 2 by kernel_rfl), xs, hlen with
  | [g0, g1], _, [y0, y1], _ =>
    have t0 : DataW.trod enc Try.prog W 0 (fun _ => true) true m 9 [g0] = some y0 := by simpa [zs] using hg 0 _ rfl
    obtain ⟨a0, e0, w0, q0⟩ := DataW.trod_string Try.underlying9 t0
    simp at e0
    subst e0
    have t1 : DataW.trod enc Try.prog W 0 (fun _ => true) true m 9 [g1] = some y1 := by simpa [zs] using hg 1 _ rfl
    obtain ⟨a1, e1, w1, q1⟩ := DataW.trod_string Try.underlying9 t1
    simp at e1
    subst e1
    exact ⟨a0, a1, rfl, by
      rw [hx]
      simp [w0, w1]⟩
theorem span_val {H : Type} {enc : TypeId × Value → H} {W : World} {r : Reach} {b0 : Nat} {v : Value} {dd : DataW H} {pp : List MemPlace}
    (hv : Value.okWide Try.prog W r b0 33 v) (h : DataW.Trod enc Try.prog W 0 (fun _ => true) true 33 v dd pp) :
    ∃ (x0 : ByteArray) (x1 : ByteArray), v = .agg #[.string x0, .string x1] ∧ dd = .agg [.lit (.string x0.data.toList), .lit (.string x1.data.toList)] := by
  obtain ⟨⟨cs⟩, rfl, hsz⟩ := okWide_struct Try.underlying33 hv
  obtain ⟨fuel, hf⟩ := h
  obtain ⟨a0, a1, e, rest⟩ := span_cells hf
  simp only [Value.cells] at e
  subst e
  exact ⟨a0, a1, rfl, rest⟩
set_option maxHeartbeats 1000000 in
theorem span_small {H : Type} {x0 : ByteArray} {x1 : ByteArray}  (h : Small (H := H) 33 (.agg [.lit (.string x0.data.toList), .lit (.string x1.data.toList)]))  : x0.size ≤ 140737488355328 ∧ x1.size ≤ 140737488355328 := by
  have hu := Try.underlying33
  refine ⟨?_, ?_⟩
  · rw [Lib.size_eq]; exact h _ (by simp [DataW.weights, DataW.weightsEach, hu])
  · rw [Lib.size_eq]; exact h _ (by simp [DataW.weights, DataW.weightsEach, hu])

set_option maxHeartbeats 2000000 in
theorem ports_cells {H : Type} {enc : TypeId × Value → H} {W : World} {fuel : Nat} {cs : List Value} {x : DataW H × List MemPlace}
    (h : DataW.trod enc Try.prog W 0 (fun _ => true) true fuel 35 cs = some x) : ∃ (x0 : Int) (x1 : Int), cs = [.int .i64 x0, .int .i64 x1] ∧ x.1 = .agg [.lit (.int .i64 x0), .lit (.int .i64 x1)] := by
  have zi : Try.prog.cellsOf 3 = 1 := by kernel_rfl
  have hs := Try.underlying35
  obtain ⟨xs, m, _, hx, hsz, hlen, hg⟩ := DataW.trod_struct hs h
  match cs, hsz.trans (show Try.prog.cellsOf 35 = 2 by kernel_rfl), xs, hlen with
  | [g0, g1], _, [y0, y1], _ =>
    have t0 : DataW.trod enc Try.prog W 0 (fun _ => true) true m 3 [g0] = some y0 := by simpa [zi] using hg 0 _ rfl
    obtain ⟨a0, e0, w0, q0⟩ := DataW.trod_int Try.underlying3 t0
    simp at e0
    subst e0
    have t1 : DataW.trod enc Try.prog W 0 (fun _ => true) true m 3 [g1] = some y1 := by simpa [zi] using hg 1 _ rfl
    obtain ⟨a1, e1, w1, q1⟩ := DataW.trod_int Try.underlying3 t1
    simp at e1
    subst e1
    exact ⟨a0, a1, rfl, by
      rw [hx]
      simp [w0, w1]⟩
theorem ports_val {H : Type} {enc : TypeId × Value → H} {W : World} {r : Reach} {b0 : Nat} {v : Value} {dd : DataW H} {pp : List MemPlace}
    (hv : Value.okWide Try.prog W r b0 35 v) (h : DataW.Trod enc Try.prog W 0 (fun _ => true) true 35 v dd pp) :
    ∃ (x0 : Int) (x1 : Int), v = .agg #[.int .i64 x0, .int .i64 x1] ∧ dd = .agg [.lit (.int .i64 x0), .lit (.int .i64 x1)] := by
  obtain ⟨⟨cs⟩, rfl, hsz⟩ := okWide_struct Try.underlying35 hv
  obtain ⟨fuel, hf⟩ := h
  obtain ⟨a0, a1, e, rest⟩ := ports_cells hf
  simp only [Value.cells] at e
  subst e
  exact ⟨a0, a1, rfl, rest⟩

set_option maxHeartbeats 2000000 in
theorem pick_cells {H : Type} {enc : TypeId × Value → H} {W : World} {fuel : Nat} {cs : List Value} {x : DataW H × List MemPlace}
    (h : DataW.trod enc Try.prog W 0 (fun _ => true) true fuel 37 cs = some x) : ∃ (x0 : ByteArray) (x1 : ByteArray) (x2 : ByteArray) (x3 : ByteArray) (x4 : Int) (x5 : Int) (x6 : Int) (x7 : Int) (x8 : Int), cs = [.string x0, .string x1, .string x2, .string x3, .int .i64 x4, .int .i64 x5, .int .i64 x6, .int .i64 x7, .int .i64 x8] ∧ x.1 = .agg [.agg [.lit (.string x0.data.toList), .lit (.string x1.data.toList)], .agg [.lit (.string x2.data.toList), .lit (.string x3.data.toList)], .lit (.int .i64 x4), .agg [.lit (.int .i64 x5), .lit (.int .i64 x6)], .agg [.lit (.int .i64 x7), .lit (.int .i64 x8)]] := by
  have zi : Try.prog.cellsOf 3 = 1 := by kernel_rfl
  have zSpan : Try.prog.cellsOf 33 = 2 := by kernel_rfl
  have zPorts : Try.prog.cellsOf 35 = 2 := by kernel_rfl
  have hs := Try.underlying37
  obtain ⟨xs, m, _, hx, hsz, hlen, hg⟩ := DataW.trod_struct hs h
  match cs, hsz.trans (show Try.prog.cellsOf 37 = 9 by kernel_rfl), xs, hlen with
  | [g0, g1, g2, g3, g4, g5, g6, g7, g8], _, [y0, y1, y2, y3, y4], _ =>
    have t0 : DataW.trod enc Try.prog W 0 (fun _ => true) true m 33 [g0, g1] = some y0 := by simpa [zi, zSpan, zPorts] using hg 0 _ rfl
    obtain ⟨a0, a1, e0, w0⟩ := span_cells t0
    simp only [List.cons.injEq, and_true] at e0
    obtain ⟨rfl, rfl⟩ := e0
    have t1 : DataW.trod enc Try.prog W 0 (fun _ => true) true m 33 [g2, g3] = some y1 := by simpa [zi, zSpan, zPorts] using hg 1 _ rfl
    obtain ⟨a2, a3, e1, w1⟩ := span_cells t1
    simp only [List.cons.injEq, and_true] at e1
    obtain ⟨rfl, rfl⟩ := e1
    have t2 : DataW.trod enc Try.prog W 0 (fun _ => true) true m 3 [g4] = some y2 := by simpa [zi, zSpan, zPorts] using hg 2 _ rfl
    obtain ⟨a4, e2, w2, q4⟩ := DataW.trod_int Try.underlying3 t2
    simp at e2
    subst e2
    have t3 : DataW.trod enc Try.prog W 0 (fun _ => true) true m 35 [g5, g6] = some y3 := by simpa [zi, zSpan, zPorts] using hg 3 _ rfl
    obtain ⟨a5, a6, e3, w3⟩ := ports_cells t3
    simp only [List.cons.injEq, and_true] at e3
    obtain ⟨rfl, rfl⟩ := e3
    have t4 : DataW.trod enc Try.prog W 0 (fun _ => true) true m 35 [g7, g8] = some y4 := by simpa [zi, zSpan, zPorts] using hg 4 _ rfl
    obtain ⟨a7, a8, e4, w4⟩ := ports_cells t4
    simp only [List.cons.injEq, and_true] at e4
    obtain ⟨rfl, rfl⟩ := e4
    exact ⟨a0, a1, a2, a3, a4, a5, a6, a7, a8, rfl, by
      rw [hx]
      simp [w0, w1, w2, w3, w4]⟩
theorem pick_val {H : Type} {enc : TypeId × Value → H} {W : World} {r : Reach} {b0 : Nat} {v : Value} {dd : DataW H} {pp : List MemPlace}
    (hv : Value.okWide Try.prog W r b0 37 v) (h : DataW.Trod enc Try.prog W 0 (fun _ => true) true 37 v dd pp) :
    ∃ (x0 : ByteArray) (x1 : ByteArray) (x2 : ByteArray) (x3 : ByteArray) (x4 : Int) (x5 : Int) (x6 : Int) (x7 : Int) (x8 : Int), v = .agg #[.string x0, .string x1, .string x2, .string x3, .int .i64 x4, .int .i64 x5, .int .i64 x6, .int .i64 x7, .int .i64 x8] ∧ dd = .agg [.agg [.lit (.string x0.data.toList), .lit (.string x1.data.toList)], .agg [.lit (.string x2.data.toList), .lit (.string x3.data.toList)], .lit (.int .i64 x4), .agg [.lit (.int .i64 x5), .lit (.int .i64 x6)], .agg [.lit (.int .i64 x7), .lit (.int .i64 x8)]] := by
  obtain ⟨⟨cs⟩, rfl, hsz⟩ := okWide_struct Try.underlying37 hv
  obtain ⟨fuel, hf⟩ := h
  obtain ⟨a0, a1, a2, a3, a4, a5, a6, a7, a8, e, rest⟩ := pick_cells hf
  simp only [Value.cells] at e
  subst e
  exact ⟨a0, a1, a2, a3, a4, a5, a6, a7, a8, rfl, rest⟩
set_option maxHeartbeats 1000000 in
theorem pick_small {H : Type} {x0 : ByteArray} {x1 : ByteArray} {x2 : ByteArray} {x3 : ByteArray} {x4 : Int} {x5 : Int} {x6 : Int} {x7 : Int} {x8 : Int}  (h : Small (H := H) 37 (.agg [.agg [.lit (.string x0.data.toList), .lit (.string x1.data.toList)], .agg [.lit (.string x2.data.toList), .lit (.string x3.data.toList)], .lit (.int .i64 x4), .agg [.lit (.int .i64 x5), .lit (.int .i64 x6)], .agg [.lit (.int .i64 x7), .lit (.int .i64 x8)]]))  : x0.size ≤ 140737488355328 ∧ x1.size ≤ 140737488355328 ∧ x2.size ≤ 140737488355328 ∧ x3.size ≤ 140737488355328 := by
  have hu := Try.underlying37
  have huSpan := Try.underlying33
  have huPorts := Try.underlying35
  refine ⟨?_, ?_, ?_, ?_⟩
  · rw [Lib.size_eq]; exact h _ (by simp [DataW.weights, DataW.weightsEach, hu, huSpan, huPorts])
  · rw [Lib.size_eq]; exact h _ (by simp [DataW.weights, DataW.weightsEach, hu, huSpan, huPorts])
  · rw [Lib.size_eq]; exact h _ (by simp [DataW.weights, DataW.weightsEach, hu, huSpan, huPorts])
  · rw [Lib.size_eq]; exact h _ (by simp [DataW.weights, DataW.weightsEach, hu, huSpan, huPorts])

set_option maxHeartbeats 2000000 in
theorem flow_cells {H : Type} {enc : TypeId × Value → H} {W : World} {fuel : Nat} {cs : List Value} {x : DataW H × List MemPlace}
    (h : DataW.trod enc Try.prog W 0 (fun _ => true) true fuel 24 cs = some x) : ∃ (x0 : ByteArray) (x1 : ByteArray) (x2 : Int) (x3 : Int) (x4 : Int), cs = [.string x0, .string x1, .int .i64 x2, .int .i64 x3, .int .i64 x4] ∧ x.1 = .agg [.lit (.string x0.data.toList), .lit (.string x1.data.toList), .lit (.int .i64 x2), .lit (.int .i64 x3), .lit (.int .i64 x4)] := by
  have zi : Try.prog.cellsOf 3 = 1 := by kernel_rfl
  have zs : Try.prog.cellsOf 9 = 1 := by kernel_rfl
  have hs := Try.underlying24
  obtain ⟨xs, m, _, hx, hsz, hlen, hg⟩ := DataW.trod_struct hs h
  match cs, hsz.trans (show Try.prog.cellsOf 24 = 5 by kernel_rfl), xs, hlen with
  | [g0, g1, g2, g3, g4], _, [y0, y1, y2, y3, y4], _ =>
    have t0 : DataW.trod enc Try.prog W 0 (fun _ => true) true m 9 [g0] = some y0 := by simpa [zi, zs] using hg 0 _ rfl
    obtain ⟨a0, e0, w0, q0⟩ := DataW.trod_string Try.underlying9 t0
    simp at e0
    subst e0
    have t1 : DataW.trod enc Try.prog W 0 (fun _ => true) true m 9 [g1] = some y1 := by simpa [zi, zs] using hg 1 _ rfl
    obtain ⟨a1, e1, w1, q1⟩ := DataW.trod_string Try.underlying9 t1
    simp at e1
    subst e1
    have t2 : DataW.trod enc Try.prog W 0 (fun _ => true) true m 3 [g2] = some y2 := by simpa [zi, zs] using hg 2 _ rfl
    obtain ⟨a2, e2, w2, q2⟩ := DataW.trod_int Try.underlying3 t2
    simp at e2
    subst e2
    have t3 : DataW.trod enc Try.prog W 0 (fun _ => true) true m 3 [g3] = some y3 := by simpa [zi, zs] using hg 3 _ rfl
    obtain ⟨a3, e3, w3, q3⟩ := DataW.trod_int Try.underlying3 t3
    simp at e3
    subst e3
    have t4 : DataW.trod enc Try.prog W 0 (fun _ => true) true m 3 [g4] = some y4 := by simpa [zi, zs] using hg 4 _ rfl
    obtain ⟨a4, e4, w4, q4⟩ := DataW.trod_int Try.underlying3 t4
    simp at e4
    subst e4
    exact ⟨a0, a1, a2, a3, a4, rfl, by
      rw [hx]
      simp [w0, w1, w2, w3, w4]⟩
theorem flow_val {H : Type} {enc : TypeId × Value → H} {W : World} {r : Reach} {b0 : Nat} {v : Value} {dd : DataW H} {pp : List MemPlace}
    (hv : Value.okWide Try.prog W r b0 24 v) (h : DataW.Trod enc Try.prog W 0 (fun _ => true) true 24 v dd pp) :
    ∃ (x0 : ByteArray) (x1 : ByteArray) (x2 : Int) (x3 : Int) (x4 : Int), v = .agg #[.string x0, .string x1, .int .i64 x2, .int .i64 x3, .int .i64 x4] ∧ dd = .agg [.lit (.string x0.data.toList), .lit (.string x1.data.toList), .lit (.int .i64 x2), .lit (.int .i64 x3), .lit (.int .i64 x4)] := by
  obtain ⟨⟨cs⟩, rfl, hsz⟩ := okWide_struct Try.underlying24 hv
  obtain ⟨fuel, hf⟩ := h
  obtain ⟨a0, a1, a2, a3, a4, e, rest⟩ := flow_cells hf
  simp only [Value.cells] at e
  subst e
  exact ⟨a0, a1, a2, a3, a4, rfl, rest⟩
set_option maxHeartbeats 1000000 in
theorem flow_small {H : Type} {x0 : ByteArray} {x1 : ByteArray} {x2 : Int} {x3 : Int} {x4 : Int}  (h : Small (H := H) 24 (.agg [.lit (.string x0.data.toList), .lit (.string x1.data.toList), .lit (.int .i64 x2), .lit (.int .i64 x3), .lit (.int .i64 x4)]))  : x0.size ≤ 140737488355328 ∧ x1.size ≤ 140737488355328 := by
  have hu := Try.underlying24
  refine ⟨?_, ?_⟩
  · rw [Lib.size_eq]; exact h _ (by simp [DataW.weights, DataW.weightsEach, hu])
  · rw [Lib.size_eq]; exact h _ (by simp [DataW.weights, DataW.weightsEach, hu])
end Go.Proofs.Ytijlggfcinnfeaa.ArgT
