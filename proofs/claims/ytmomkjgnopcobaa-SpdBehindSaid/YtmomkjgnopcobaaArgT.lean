/- Arguments that are structs of structs, and slices of such, opened. -/
import Derived.Test.YtmomkjgnopcobaaArgs
import Derived.Deep.Slices
set_option linter.unusedVariables false
namespace Go.Proofs.Ytmomkjgnopcobaa.ArgT
open Go.ChangeShapes Go.WideShapes Go.ChangeAt Go.RowKit Go.Proofs.Ytmomkjgnopcobaa.Mem
open Go.ChangeMaps (open_string shut_string)
set_option maxRecDepth 100000

/-- What a value's data weighs is no more than a machine holds. -/
def Small {H : Type} (t : TypeId) (d : DataW H) : Prop := ∀ q, q ∈ DataW.weights Try.prog t d → q ≤ 140737488355328
theorem small_arg {H : Type} {ts : List TypeId} {ds : List (DataW H)} {t : TypeId} {d : DataW H} (h : (DataW.weightsEach Try.prog ts ds).all (· ≤ reachBytes) = true) (j : Nat) (ht : ts[j]? = some t) (hd : ds[j]? = some d) : Small t d := fun q hq => by
  have h1 := List.all_eq_true.1 h q (DataW.weights_mem_each ht hd q hq)
  exact Nat.le_trans (by simpa using h1) Args.reach_lt
theorem weightsAll_mem {H : Type} {P : Program} {e : TypeId} : ∀ {l : List (DataW H)} {d : DataW H}, d ∈ l → ∀ n ∈ d.weights P e, n ∈ DataW.weightsAll P e l
  | d' :: r, d, hd, n, hn => by
    simp only [DataW.weightsAll, List.mem_append]
    rcases List.mem_cons.1 hd with rfl | h
    · exact Or.inl hn
    · exact Or.inr (weightsAll_mem h n hn)
theorem small_elem {H : Type} {t e : TypeId} {es sp : List (DataW H)} (ht : Try.prog.underlying t = some (.slice e)) (h : Small t (.slice es sp)) {d : DataW H} (hd : d ∈ es) : Small e d := fun q hq => h q (by
  simp only [DataW.weights, ht, List.mem_cons, List.mem_append]
  exact .inr (.inl (weightsAll_mem hd q hq)))

set_option maxHeartbeats 2000000 in
theorem span_cells {H : Type} {enc : TypeId × Value → H} {W : World} {fuel : Nat} {cs : List Value} {x : DataW H × List MemPlace}
    (h : DataW.trod enc Try.prog W 0 (fun _ => true) true fuel 29 cs = some x) : ∃ (x0 : ByteArray) (x1 : ByteArray), cs = [.string x0, .string x1] ∧ x.1 = .agg [.lit (.string x0.data.toList), .lit (.string x1.data.toList)] := by
  have zs : Try.prog.cellsOf 9 = 1 := by kernel_rfl
  have hs := Try.underlying29
  obtain ⟨xs, m, _, hx, hsz, hlen, hg⟩ := DataW.trod_struct hs h
  match cs, hsz.trans (show Try.prog.cellsOf 29 = 2 by kernel_rfl), xs, hlen with
  | [g0, g1], _, [y0, y1], _ =>
    have t0 : DataW.trod enc Try.prog W 0 (fun _ => true) true m 9 [g0] = some y0 := by simpa [zs] using hg 0 _ rfl
    obtain ⟨a0, e0, w0, q0⟩ := DataW.trod_string Try.underlying9 t0
    simp at e0
    subst e0
    have t1 : DataW.trod enc Try.prog W 0 (fun _ => true) true m 9 [g1] = some y1 := by simpa [zs] using hg 1 _ rfl
    obtain ⟨a1, e1, w1, q1⟩ := DataW.trod_string Try.underlying9 t1
    simp at e1
    subst e1
    exact ⟨a0, a1, rfl, by
      rw [hx]
      simp [w0, w1]⟩
theorem span_val {H : Type} {enc : TypeId × Value → H} {W : World} {r : Reach} {b0 : Nat} {v : Value} {dd : DataW H} {pp : List MemPlace}
    (hv : Value.okWide Try.prog W r b0 29 v) (h : DataW.Trod enc Try.prog W 0 (fun _ => true) true 29 v dd pp) :
    ∃ (x0 : ByteArray) (x1 : ByteArray), v = .agg #[.string x0, .string x1] ∧ dd = .agg [.lit (.string x0.data.toList), .lit (.string x1.data.toList)] := by
  obtain ⟨⟨cs⟩, rfl, hsz⟩ := okWide_struct Try.underlying29 hv
  obtain ⟨fuel, hf⟩ := h
  obtain ⟨a0, a1, e, rest⟩ := span_cells hf
  simp only [Value.cells] at e
  subst e
  exact ⟨a0, a1, rfl, rest⟩
set_option maxHeartbeats 1000000 in
theorem span_small {H : Type} {x0 : ByteArray} {x1 : ByteArray}  (h : Small (H := H) 29 (.agg [.lit (.string x0.data.toList), .lit (.string x1.data.toList)]))  : x0.size ≤ 140737488355328 ∧ x1.size ≤ 140737488355328 := by
  have hu := Try.underlying29
  refine ⟨?_, ?_⟩
  · rw [Lib.size_eq]; exact h _ (by simp [DataW.weights, DataW.weightsEach, hu])
  · rw [Lib.size_eq]; exact h _ (by simp [DataW.weights, DataW.weightsEach, hu])

set_option maxHeartbeats 2000000 in
theorem ports_cells {H : Type} {enc : TypeId × Value → H} {W : World} {fuel : Nat} {cs : List Value} {x : DataW H × List MemPlace}
    (h : DataW.trod enc Try.prog W 0 (fun _ => true) true fuel 31 cs = some x) : ∃ (x0 : Int) (x1 : Int), cs = [.int .i64 x0, .int .i64 x1] ∧ x.1 = .agg [.lit (.int .i64 x0), .lit (.int .i64 x1)] := by
  have zi : Try.prog.cellsOf 3 = 1 := by kernel_rfl
  have hs := Try.underlying31
  obtain ⟨xs, m, _, hx, hsz, hlen, hg⟩ := DataW.trod_struct hs h
  match cs, hsz.trans (show Try.prog.cellsOf 31 = 2 by kernel_rfl), xs, hlen with
  | [g0, g1], _, [y0, y1], _ =>
    have t0 : DataW.trod enc Try.prog W 0 (fun _ => true) true m 3 [g0] = some y0 := by simpa [zi] using hg 0 _ rfl
    obtain ⟨a0, e0, w0, q0⟩ := DataW.trod_int Try.underlying3 t0
    simp at e0
    subst e0
    have t1 : DataW.trod enc Try.prog W 0 (fun _ => true) true m 3 [g1] = some y1 := by simpa [zi] using hg 1 _ rfl
    obtain ⟨a1, e1, w1, q1⟩ := DataW.trod_int Try.underlying3 t1
    simp at e1
    subst e1
    exact ⟨a0, a1, rfl, by
      rw [hx]
      simp [w0, w1]⟩
theorem ports_val {H : Type} {enc : TypeId × Value → H} {W : World} {r : Reach} {b0 : Nat} {v : Value} {dd : DataW H} {pp : List MemPlace}
    (hv : Value.okWide Try.prog W r b0 31 v) (h : DataW.Trod enc Try.prog W 0 (fun _ => true) true 31 v dd pp) :
    ∃ (x0 : Int) (x1 : Int), v = .agg #[.int .i64 x0, .int .i64 x1] ∧ dd = .agg [.lit (.int .i64 x0), .lit (.int .i64 x1)] := by
  obtain ⟨⟨cs⟩, rfl, hsz⟩ := okWide_struct Try.underlying31 hv
  obtain ⟨fuel, hf⟩ := h
  obtain ⟨a0, a1, e, rest⟩ := ports_cells hf
  simp only [Value.cells] at e
  subst e
  exact ⟨a0, a1, rfl, rest⟩

set_option maxHeartbeats 2000000 in
theorem pick_cells {H : Type} {enc : TypeId × Value → H} {W : World} {fuel : Nat} {cs : List Value} {x : DataW H × List MemPlace}
    (h : DataW.trod enc Try.prog W 0 (fun _ => true) true fuel 33 cs = some x) : ∃ (x0 : ByteArray) (x1 : ByteArray) (x2 : ByteArray) (x3 : ByteArray) (x4 : Int) (x5 : Int) (x6 : Int) (x7 : Int) (x8 : Int), cs = [.string x0, .string x1, .string x2, .string x3, .int .i64 x4, .int .i64 x5, .int .i64 x6, .int .i64 x7, .int .i64 x8] ∧ x.1 = .agg [.agg [.lit (.string x0.data.toList), .lit (.string x1.data.toList)], .agg [.lit (.string x2.data.toList), .lit (.string x3.data.toList)], .lit (.int .i64 x4), .agg [.lit (.int .i64 x5), .lit (.int .i64 x6)], .agg [.lit (.int .i64 x7), .lit (.int .i64 x8)]] := by
  have zi : Try.prog.cellsOf 3 = 1 := by kernel_rfl
  have zSpan : Try.prog.cellsOf 29 = 2 := by kernel_rfl
  have zPorts : Try.prog.cellsOf 31 = 2 := by kernel_rfl
  have hs := Try.underlying33
  obtain ⟨xs, m, _, hx, hsz, hlen, hg⟩ := DataW.trod_struct hs h
  match cs, hsz.trans (show Try.prog.cellsOf 33 = 9 by kernel_rfl), xs, hlen with
  | [g0, g1, g2, g3, g4, g5, g6, g7, g8], _, [y0, y1, y2, y3, y4], _ =>
    have t0 : DataW.trod enc Try.prog W 0 (fun _ => true) true m 29 [g0, g1] = some y0 := by simpa [zi, zSpan, zPorts] using hg 0 _ rfl
    obtain ⟨a0, a1, e0, w0⟩ := span_cells t0
    simp only [List.cons.injEq, and_true] at e0
    obtain ⟨rfl, rfl⟩ := e0
    have t1 : DataW.trod enc Try.prog W 0 (fun _ => true) true m 29 [g2, g3] = some y1 := by simpa [zi, zSpan, zPorts] using hg 1 _ rfl
    obtain ⟨a2, a3, e1, w1⟩ := span_cells t1
    simp only [List.cons.injEq, and_true] at e1
    obtain ⟨rfl, rfl⟩ := e1
    have t2 : DataW.trod enc Try.prog W 0 (fun _ => true) true m 3 [g4] = some y2 := by simpa [zi, zSpan, zPorts] using hg 2 _ rfl
    obtain ⟨a4, e2, w2, q4⟩ := DataW.trod_int Try.underlying3 t2
    simp at e2
    subst e2
    have t3 : DataW.trod enc Try.prog W 0 (fun _ => true) true m 31 [g5, g6] = some y3 := by simpa [zi, zSpan, zPorts] using hg 3 _ rfl
    obtain ⟨a5, a6, e3, w3⟩ := ports_cells t3
    simp only [List.cons.injEq, and_true] at e3
    obtain ⟨rfl, rfl⟩ := e3
    have t4 : DataW.trod enc Try.prog W 0 (fun _ => true) true m 31 [g7, g8] = some y4 := by simpa [zi, zSpan, zPorts] using hg 4 _ rfl
    obtain ⟨a7, a8, e4, w4⟩ := ports_cells t4
    simp only [List.cons.injEq, and_true] at e4
    obtain ⟨rfl, rfl⟩ := e4
    exact ⟨a0, a1, a2, a3, a4, a5, a6, a7, a8, rfl, by
      rw [hx]
      simp [w0, w1, w2, w3, w4]⟩
theorem pick_val {H : Type} {enc : TypeId × Value → H} {W : World} {r : Reach} {b0 : Nat} {v : Value} {dd : DataW H} {pp : List MemPlace}
    (hv : Value.okWide Try.prog W r b0 33 v) (h : DataW.Trod enc Try.prog W 0 (fun _ => true) true 33 v dd pp) :
    ∃ (x0 : ByteArray) (x1 : ByteArray) (x2 : ByteArray) (x3 : ByteArray) (x4 : Int) (x5 : Int) (x6 : Int) (x7 : Int) (x8 : Int), v = .agg #[.string x0, .string x1, .string x2, .string x3, .int .i64 x4, .int .i64 x5, .int .i64 x6, .int .i64 x7, .int .i64 x8] ∧ dd = .agg [.agg [.lit (.string x0.data.toList), .lit (.string x1.data.toList)], .agg [.lit (.string x2.data.toList), .lit (.string x3.data.toList)], .lit (.int .i64 x4), .agg [.lit (.int .i64 x5), .lit (.int .i64 x6)], .agg [.lit (.int .i64 x7), .lit (.int .i64 x8)]] := by
  obtain ⟨⟨cs⟩, rfl, hsz⟩ := okWide_struct Try.underlying33 hv
  obtain ⟨fuel, hf⟩ := h
  obtain ⟨a0, a1, a2, a3, a4, a5, a6, a7, a8, e, rest⟩ := pick_cells hf
  simp only [Value.cells] at e
  subst e
  exact ⟨a0, a1, a2, a3, a4, a5, a6, a7, a8, rfl, rest⟩
set_option maxHeartbeats 1000000 in
theorem pick_small {H : Type} {x0 : ByteArray} {x1 : ByteArray} {x2 : ByteArray} {x3 : ByteArray} {x4 : Int} {x5 : Int} {x6 : Int} {x7 : Int} {x8 : Int}  (h : Small (H := H) 33 (.agg [.agg [.lit (.string x0.data.toList), .lit (.string x1.data.toList)], .agg [.lit (.string x2.data.toList), .lit (.string x3.data.toList)], .lit (.int .i64 x4), .agg [.lit (.int .i64 x5), .lit (.int .i64 x6)], .agg [.lit (.int .i64 x7), .lit (.int .i64 x8)]]))  : x0.size ≤ 140737488355328 ∧ x1.size ≤ 140737488355328 ∧ x2.size ≤ 140737488355328 ∧ x3.size ≤ 140737488355328 := by
  have hu := Try.underlying33
  have huSpan := Try.underlying29
  have huPorts := Try.underlying31
  refine ⟨?_, ?_, ?_, ?_⟩
  · rw [Lib.size_eq]; exact h _ (by simp [DataW.weights, DataW.weightsEach, hu, huSpan, huPorts])
  · rw [Lib.size_eq]; exact h _ (by simp [DataW.weights, DataW.weightsEach, hu, huSpan, huPorts])
  · rw [Lib.size_eq]; exact h _ (by simp [DataW.weights, DataW.weightsEach, hu, huSpan, huPorts])
  · rw [Lib.size_eq]; exact h _ (by simp [DataW.weights, DataW.weightsEach, hu, huSpan, huPorts])

set_option maxHeartbeats 2000000 in
theorem flow_cells {H : Type} {enc : TypeId × Value → H} {W : World} {fuel : Nat} {cs : List Value} {x : DataW H × List MemPlace}
    (h : DataW.trod enc Try.prog W 0 (fun _ => true) true fuel 24 cs = some x) : ∃ (x0 : ByteArray) (x1 : ByteArray) (x2 : Int) (x3 : Int) (x4 : Int), cs = [.string x0, .string x1, .int .i64 x2, .int .i64 x3, .int .i64 x4] ∧ x.1 = .agg [.lit (.string x0.data.toList), .lit (.string x1.data.toList), .lit (.int .i64 x2), .lit (.int .i64 x3), .lit (.int .i64 x4)] := by
  have zi : Try.prog.cellsOf 3 = 1 := by kernel_rfl
  have zs : Try.prog.cellsOf 9 = 1 := by kernel_rfl
  have hs := Try.underlying24
  obtain ⟨xs, m, _, hx, hsz, hlen, hg⟩ := DataW.trod_struct hs h
  match cs, hsz.trans (show Try.prog.cellsOf 24 = 5 by kernel_rfl), xs, hlen with
  | [g0, g1, g2, g3, g4], _, [y0, y1, y2, y3, y4], _ =>
    have t0 : DataW.trod enc Try.prog W 0 (fun _ => true) true m 9 [g0] = some y0 := by simpa [zi, zs] using hg 0 _ rfl
    obtain ⟨a0, e0, w0, q0⟩ := DataW.trod_string Try.underlying9 t0
    simp at e0
    subst e0
    have t1 : DataW.trod enc Try.prog W 0 (fun _ => true) true m 9 [g1] = some y1 := by simpa [zi, zs] using hg 1 _ rfl
    obtain ⟨a1, e1, w1, q1⟩ := DataW.trod_string Try.underlying9 t1
    simp at e1
    subst e1
    have t2 : DataW.trod enc Try.prog W 0 (fun _ => true) true m 3 [g2] = some y2 := by simpa [zi, zs] using hg 2 _ rfl
    obtain ⟨a2, e2, w2, q2⟩ := DataW.trod_int Try.underlying3 t2
    simp at e2
    subst e2
    have t3 : DataW.trod enc Try.prog W 0 (fun _ => true) true m 3 [g3] = some y3 := by simpa [zi, zs] using hg 3 _ rfl
    obtain ⟨a3, e3, w3, q3⟩ := DataW.trod_int Try.underlying3 t3
    simp at e3
    subst e3
    have t4 : DataW.trod enc Try.prog W 0 (fun _ => true) true m 3 [g4] = some y4 := by simpa [zi, zs] using hg 4 _ rfl
    obtain ⟨a4, e4, w4, q4⟩ := DataW.trod_int Try.underlying3 t4
    simp at e4
    subst e4
    exact ⟨a0, a1, a2, a3, a4, rfl, by
      rw [hx]
      simp [w0, w1, w2, w3, w4]⟩
theorem flow_val {H : Type} {enc : TypeId × Value → H} {W : World} {r : Reach} {b0 : Nat} {v : Value} {dd : DataW H} {pp : List MemPlace}
    (hv : Value.okWide Try.prog W r b0 24 v) (h : DataW.Trod enc Try.prog W 0 (fun _ => true) true 24 v dd pp) :
    ∃ (x0 : ByteArray) (x1 : ByteArray) (x2 : Int) (x3 : Int) (x4 : Int), v = .agg #[.string x0, .string x1, .int .i64 x2, .int .i64 x3, .int .i64 x4] ∧ dd = .agg [.lit (.string x0.data.toList), .lit (.string x1.data.toList), .lit (.int .i64 x2), .lit (.int .i64 x3), .lit (.int .i64 x4)] := by
  obtain ⟨⟨cs⟩, rfl, hsz⟩ := okWide_struct Try.underlying24 hv
  obtain ⟨fuel, hf⟩ := h
  obtain ⟨a0, a1, a2, a3, a4, e, rest⟩ := flow_cells hf
  simp only [Value.cells] at e
  subst e
  exact ⟨a0, a1, a2, a3, a4, rfl, rest⟩
set_option maxHeartbeats 1000000 in
theorem flow_small {H : Type} {x0 : ByteArray} {x1 : ByteArray} {x2 : Int} {x3 : Int} {x4 : Int}  (h : Small (H := H) 24 (.agg [.lit (.string x0.data.toList), .lit (.string x1.data.toList), .lit (.int .i64 x2), .lit (.int .i64 x3), .lit (.int .i64 x4)]))  : x0.size ≤ 140737488355328 ∧ x1.size ≤ 140737488355328 := by
  have hu := Try.underlying24
  refine ⟨?_, ?_⟩
  · rw [Lib.size_eq]; exact h _ (by simp [DataW.weights, DataW.weightsEach, hu])
  · rw [Lib.size_eq]; exact h _ (by simp [DataW.weights, DataW.weightsEach, hu])

set_option maxHeartbeats 2000000 in
theorem rule_cells {H : Type} {enc : TypeId × Value → H} {W : World} {fuel : Nat} {cs : List Value} {x : DataW H × List MemPlace}
    (h : DataW.trod enc Try.prog W 0 (fun _ => true) true fuel 35 cs = some x) : ∃ (x0 : Int) (x1 : ByteArray) (x2 : ByteArray) (x3 : ByteArray) (x4 : ByteArray) (x5 : Int) (x6 : Int) (x7 : Int) (x8 : Int) (x9 : Int) (x10 : Bool) (x11 : Bool) (x12 : Int) (x13 : Bool) (x14 : ByteArray) (x15 : ByteArray), cs = [.int .i64 x0, .string x1, .string x2, .string x3, .string x4, .int .i64 x5, .int .i64 x6, .int .i64 x7, .int .i64 x8, .int .i64 x9, .bool x10, .bool x11, .int .i64 x12, .bool x13, .string x14, .string x15] ∧ x.1 = .agg [.lit (.int .i64 x0), .agg [.agg [.lit (.string x1.data.toList), .lit (.string x2.data.toList)], .agg [.lit (.string x3.data.toList), .lit (.string x4.data.toList)], .lit (.int .i64 x5), .agg [.lit (.int .i64 x6), .lit (.int .i64 x7)], .agg [.lit (.int .i64 x8), .lit (.int .i64 x9)]], .lit (.bool x10), .lit (.bool x11), .lit (.int .i64 x12), .lit (.bool x13), .lit (.string x14.data.toList), .lit (.string x15.data.toList)] := by
  have zi : Try.prog.cellsOf 3 = 1 := by kernel_rfl
  have zs : Try.prog.cellsOf 9 = 1 := by kernel_rfl
  have zt : Try.prog.cellsOf 4 = 1 := by kernel_rfl
  have zPick : Try.prog.cellsOf 33 = 9 := by kernel_rfl
  have hs := Try.underlying35
  obtain ⟨xs, m, _, hx, hsz, hlen, hg⟩ := DataW.trod_struct hs h
  match cs, hsz.trans (show Try.prog.cellsOf 35 = 16 by kernel_rfl), xs, hlen with
  | [g0, g1, g2, g3, g4, g5, g6, g7, g8, g9, g10, g11, g12, g13, g14, g15], _, [y0, y1, y2, y3, y4, y5, y6, y7], _ =>
    have t0 : DataW.trod enc Try.prog W 0 (fun _ => true) true m 3 [g0] = some y0 := by simpa [zi, zs, zt, zPick] using hg 0 _ rfl
    obtain ⟨a0, e0, w0, q0⟩ := DataW.trod_int Try.underlying3 t0
    simp at e0
    subst e0
    have t1 : DataW.trod enc Try.prog W 0 (fun _ => true) true m 33 [g1, g2, g3, g4, g5, g6, g7, g8, g9] = some y1 := by simpa [zi, zs, zt, zPick] using hg 1 _ rfl
    obtain ⟨a1, a2, a3, a4, a5, a6, a7, a8, a9, e1, w1⟩ := pick_cells t1
    simp only [List.cons.injEq, and_true] at e1
    obtain ⟨rfl, rfl, rfl, rfl, rfl, rfl, rfl, rfl, rfl⟩ := e1
    have t2 : DataW.trod enc Try.prog W 0 (fun _ => true) true m 4 [g10] = some y2 := by simpa [zi, zs, zt, zPick] using hg 2 _ rfl
    obtain ⟨a10, e2, w2⟩ := DataW.trod_bool Try.underlying4 t2
    simp at e2
    subst e2
    have t3 : DataW.trod enc Try.prog W 0 (fun _ => true) true m 4 [g11] = some y3 := by simpa [zi, zs, zt, zPick] using hg 3 _ rfl
    obtain ⟨a11, e3, w3⟩ := DataW.trod_bool Try.underlying4 t3
    simp at e3
    subst e3
    have t4 : DataW.trod enc Try.prog W 0 (fun _ => true) true m 3 [g12] = some y4 := by simpa [zi, zs, zt, zPick] using hg 4 _ rfl
    obtain ⟨a12, e4, w4, q12⟩ := DataW.trod_int Try.underlying3 t4
    simp at e4
    subst e4
    have t5 : DataW.trod enc Try.prog W 0 (fun _ => true) true m 4 [g13] = some y5 := by simpa [zi, zs, zt, zPick] using hg 5 _ rfl
    obtain ⟨a13, e5, w5⟩ := DataW.trod_bool Try.underlying4 t5
    simp at e5
    subst e5
    have t6 : DataW.trod enc Try.prog W 0 (fun _ => true) true m 9 [g14] = some y6 := by simpa [zi, zs, zt, zPick] using hg 6 _ rfl
    obtain ⟨a14, e6, w6, q14⟩ := DataW.trod_string Try.underlying9 t6
    simp at e6
    subst e6
    have t7 : DataW.trod enc Try.prog W 0 (fun _ => true) true m 9 [g15] = some y7 := by simpa [zi, zs, zt, zPick] using hg 7 _ rfl
    obtain ⟨a15, e7, w7, q15⟩ := DataW.trod_string Try.underlying9 t7
    simp at e7
    subst e7
    exact ⟨a0, a1, a2, a3, a4, a5, a6, a7, a8, a9, a10, a11, a12, a13, a14, a15, rfl, by
      rw [hx]
      simp [w0, w1, w2, w3, w4, w5, w6, w7]⟩
theorem rule_val {H : Type} {enc : TypeId × Value → H} {W : World} {r : Reach} {b0 : Nat} {v : Value} {dd : DataW H} {pp : List MemPlace}
    (hv : Value.okWide Try.prog W r b0 35 v) (h : DataW.Trod enc Try.prog W 0 (fun _ => true) true 35 v dd pp) :
    ∃ (x0 : Int) (x1 : ByteArray) (x2 : ByteArray) (x3 : ByteArray) (x4 : ByteArray) (x5 : Int) (x6 : Int) (x7 : Int) (x8 : Int) (x9 : Int) (x10 : Bool) (x11 : Bool) (x12 : Int) (x13 : Bool) (x14 : ByteArray) (x15 : ByteArray), v = .agg #[.int .i64 x0, .string x1, .string x2, .string x3, .string x4, .int .i64 x5, .int .i64 x6, .int .i64 x7, .int .i64 x8, .int .i64 x9, .bool x10, .bool x11, .int .i64 x12, .bool x13, .string x14, .string x15] ∧ dd = .agg [.lit (.int .i64 x0), .agg [.agg [.lit (.string x1.data.toList), .lit (.string x2.data.toList)], .agg [.lit (.string x3.data.toList), .lit (.string x4.data.toList)], .lit (.int .i64 x5), .agg [.lit (.int .i64 x6), .lit (.int .i64 x7)], .agg [.lit (.int .i64 x8), .lit (.int .i64 x9)]], .lit (.bool x10), .lit (.bool x11), .lit (.int .i64 x12), .lit (.bool x13), .lit (.string x14.data.toList), .lit (.string x15.data.toList)] := by
  obtain ⟨⟨cs⟩, rfl, hsz⟩ := okWide_struct Try.underlying35 hv
  obtain ⟨fuel, hf⟩ := h
  obtain ⟨a0, a1, a2, a3, a4, a5, a6, a7, a8, a9, a10, a11, a12, a13, a14, a15, e, rest⟩ := rule_cells hf
  simp only [Value.cells] at e
  subst e
  exact ⟨a0, a1, a2, a3, a4, a5, a6, a7, a8, a9, a10, a11, a12, a13, a14, a15, rfl, rest⟩
set_option maxHeartbeats 1000000 in
theorem rule_small {H : Type} {x0 : Int} {x1 : ByteArray} {x2 : ByteArray} {x3 : ByteArray} {x4 : ByteArray} {x5 : Int} {x6 : Int} {x7 : Int} {x8 : Int} {x9 : Int} {x10 : Bool} {x11 : Bool} {x12 : Int} {x13 : Bool} {x14 : ByteArray} {x15 : ByteArray}  (h : Small (H := H) 35 (.agg [.lit (.int .i64 x0), .agg [.agg [.lit (.string x1.data.toList), .lit (.string x2.data.toList)], .agg [.lit (.string x3.data.toList), .lit (.string x4.data.toList)], .lit (.int .i64 x5), .agg [.lit (.int .i64 x6), .lit (.int .i64 x7)], .agg [.lit (.int .i64 x8), .lit (.int .i64 x9)]], .lit (.bool x10), .lit (.bool x11), .lit (.int .i64 x12), .lit (.bool x13), .lit (.string x14.data.toList), .lit (.string x15.data.toList)]))  : x1.size ≤ 140737488355328 ∧ x2.size ≤ 140737488355328 ∧ x3.size ≤ 140737488355328 ∧ x4.size ≤ 140737488355328 ∧ x14.size ≤ 140737488355328 ∧ x15.size ≤ 140737488355328 := by
  have hu := Try.underlying35
  have huPick := Try.underlying33
  have huSpan := Try.underlying29
  have huPorts := Try.underlying31
  refine ⟨?_, ?_, ?_, ?_, ?_, ?_⟩
  · rw [Lib.size_eq]; exact h _ (by simp [DataW.weights, DataW.weightsEach, hu, huPick, huSpan, huPorts])
  · rw [Lib.size_eq]; exact h _ (by simp [DataW.weights, DataW.weightsEach, hu, huPick, huSpan, huPorts])
  · rw [Lib.size_eq]; exact h _ (by simp [DataW.weights, DataW.weightsEach, hu, huPick, huSpan, huPorts])
  · rw [Lib.size_eq]; exact h _ (by simp [DataW.weights, DataW.weightsEach, hu, huPick, huSpan, huPorts])
  · rw [Lib.size_eq]; exact h _ (by simp [DataW.weights, DataW.weightsEach, hu, huPick, huSpan, huPorts])
  · rw [Lib.size_eq]; exact h _ (by simp [DataW.weights, DataW.weightsEach, hu, huPick, huSpan, huPorts])

set_option maxHeartbeats 2000000 in
theorem op16_cells {H : Type} {enc : TypeId × Value → H} {W : World} {fuel : Nat} {cs : List Value} {x : DataW H × List MemPlace}
    (h : DataW.trod enc Try.prog W 0 (fun _ => true) true fuel 37 cs = some x) : ∃ (x0 : Int) (x1 : Int) (x2 : Int) (x3 : ByteArray) (x4 : ByteArray) (x5 : ByteArray) (x6 : ByteArray) (x7 : Int) (x8 : Int) (x9 : Int) (x10 : Int) (x11 : Int) (x12 : Bool) (x13 : Bool) (x14 : Int) (x15 : Bool) (x16 : ByteArray) (x17 : ByteArray) (x18 : ByteArray) (x19 : ByteArray) (x20 : Int) (x21 : Int) (x22 : Int) (x23 : Bool), cs = [.int .i64 x0, .int .i64 x1, .int .i64 x2, .string x3, .string x4, .string x5, .string x6, .int .i64 x7, .int .i64 x8, .int .i64 x9, .int .i64 x10, .int .i64 x11, .bool x12, .bool x13, .int .i64 x14, .bool x15, .string x16, .string x17, .string x18, .string x19, .int .i64 x20, .int .i64 x21, .int .i64 x22, .bool x23] ∧ x.1 = .agg [.lit (.int .i64 x0), .lit (.int .i64 x1), .agg [.lit (.int .i64 x2), .agg [.agg [.lit (.string x3.data.toList), .lit (.string x4.data.toList)], .agg [.lit (.string x5.data.toList), .lit (.string x6.data.toList)], .lit (.int .i64 x7), .agg [.lit (.int .i64 x8), .lit (.int .i64 x9)], .agg [.lit (.int .i64 x10), .lit (.int .i64 x11)]], .lit (.bool x12), .lit (.bool x13), .lit (.int .i64 x14), .lit (.bool x15), .lit (.string x16.data.toList), .lit (.string x17.data.toList)], .agg [.lit (.string x18.data.toList), .lit (.string x19.data.toList), .lit (.int .i64 x20), .lit (.int .i64 x21), .lit (.int .i64 x22)], .lit (.bool x23)] := by
  have zi : Try.prog.cellsOf 3 = 1 := by kernel_rfl
  have zt : Try.prog.cellsOf 4 = 1 := by kernel_rfl
  have zRule : Try.prog.cellsOf 35 = 16 := by kernel_rfl
  have zFlow : Try.prog.cellsOf 24 = 5 := by kernel_rfl
  have hs := Try.underlying37
  obtain ⟨xs, m, _, hx, hsz, hlen, hg⟩ := DataW.trod_struct hs h
  match cs, hsz.trans (show Try.prog.cellsOf 37 = 24 by kernel_rfl), xs, hlen with
  | [g0, g1, g2, g3, g4, g5, g6, g7, g8, g9, g10, g11, g12, g13, g14, g15, g16, g17, g18, g19, g20, g21, g22, g23], _, [y0, y1, y2, y3, y4], _ =>
    have t0 : DataW.trod enc Try.prog W 0 (fun _ => true) true m 3 [g0] = some y0 := by simpa [zi, zt, zRule, zFlow] using hg 0 _ rfl
    obtain ⟨a0, e0, w0, q0⟩ := DataW.trod_int Try.underlying3 t0
    simp at e0
    subst e0
    have t1 : DataW.trod enc Try.prog W 0 (fun _ => true) true m 3 [g1] = some y1 := by simpa [zi, zt, zRule, zFlow] using hg 1 _ rfl
    obtain ⟨a1, e1, w1, q1⟩ := DataW.trod_int Try.underlying3 t1
    simp at e1
    subst e1
    have t2 : DataW.trod enc Try.prog W 0 (fun _ => true) true m 35 [g2, g3, g4, g5, g6, g7, g8, g9, g10, g11, g12, g13, g14, g15, g16, g17] = some y2 := by simpa [zi, zt, zRule, zFlow] using hg 2 _ rfl
    obtain ⟨a2, a3, a4, a5, a6, a7, a8, a9, a10, a11, a12, a13, a14, a15, a16, a17, e2, w2⟩ := rule_cells t2
    simp only [List.cons.injEq, and_true] at e2
    obtain ⟨rfl, rfl, rfl, rfl, rfl, rfl, rfl, rfl, rfl, rfl, rfl, rfl, rfl, rfl, rfl, rfl⟩ := e2
    have t3 : DataW.trod enc Try.prog W 0 (fun _ => true) true m 24 [g18, g19, g20, g21, g22] = some y3 := by simpa [zi, zt, zRule, zFlow] using hg 3 _ rfl
    obtain ⟨a18, a19, a20, a21, a22, e3, w3⟩ := flow_cells t3
    simp only [List.cons.injEq, and_true] at e3
    obtain ⟨rfl, rfl, rfl, rfl, rfl⟩ := e3
    have t4 : DataW.trod enc Try.prog W 0 (fun _ => true) true m 4 [g23] = some y4 := by simpa [zi, zt, zRule, zFlow] using hg 4 _ rfl
    obtain ⟨a23, e4, w4⟩ := DataW.trod_bool Try.underlying4 t4
    simp at e4
    subst e4
    exact ⟨a0, a1, a2, a3, a4, a5, a6, a7, a8, a9, a10, a11, a12, a13, a14, a15, a16, a17, a18, a19, a20, a21, a22, a23, rfl, by
      rw [hx]
      simp [w0, w1, w2, w3, w4]⟩
theorem op16_val {H : Type} {enc : TypeId × Value → H} {W : World} {r : Reach} {b0 : Nat} {v : Value} {dd : DataW H} {pp : List MemPlace}
    (hv : Value.okWide Try.prog W r b0 37 v) (h : DataW.Trod enc Try.prog W 0 (fun _ => true) true 37 v dd pp) :
    ∃ (x0 : Int) (x1 : Int) (x2 : Int) (x3 : ByteArray) (x4 : ByteArray) (x5 : ByteArray) (x6 : ByteArray) (x7 : Int) (x8 : Int) (x9 : Int) (x10 : Int) (x11 : Int) (x12 : Bool) (x13 : Bool) (x14 : Int) (x15 : Bool) (x16 : ByteArray) (x17 : ByteArray) (x18 : ByteArray) (x19 : ByteArray) (x20 : Int) (x21 : Int) (x22 : Int) (x23 : Bool), v = .agg #[.int .i64 x0, .int .i64 x1, .int .i64 x2, .string x3, .string x4, .string x5, .string x6, .int .i64 x7, .int .i64 x8, .int .i64 x9, .int .i64 x10, .int .i64 x11, .bool x12, .bool x13, .int .i64 x14, .bool x15, .string x16, .string x17, .string x18, .string x19, .int .i64 x20, .int .i64 x21, .int .i64 x22, .bool x23] ∧ dd = .agg [.lit (.int .i64 x0), .lit (.int .i64 x1), .agg [.lit (.int .i64 x2), .agg [.agg [.lit (.string x3.data.toList), .lit (.string x4.data.toList)], .agg [.lit (.string x5.data.toList), .lit (.string x6.data.toList)], .lit (.int .i64 x7), .agg [.lit (.int .i64 x8), .lit (.int .i64 x9)], .agg [.lit (.int .i64 x10), .lit (.int .i64 x11)]], .lit (.bool x12), .lit (.bool x13), .lit (.int .i64 x14), .lit (.bool x15), .lit (.string x16.data.toList), .lit (.string x17.data.toList)], .agg [.lit (.string x18.data.toList), .lit (.string x19.data.toList), .lit (.int .i64 x20), .lit (.int .i64 x21), .lit (.int .i64 x22)], .lit (.bool x23)] := by
  obtain ⟨⟨cs⟩, rfl, hsz⟩ := okWide_struct Try.underlying37 hv
  obtain ⟨fuel, hf⟩ := h
  obtain ⟨a0, a1, a2, a3, a4, a5, a6, a7, a8, a9, a10, a11, a12, a13, a14, a15, a16, a17, a18, a19, a20, a21, a22, a23, e, rest⟩ := op16_cells hf
  simp only [Value.cells] at e
  subst e
  exact ⟨a0, a1, a2, a3, a4, a5, a6, a7, a8, a9, a10, a11, a12, a13, a14, a15, a16, a17, a18, a19, a20, a21, a22, a23, rfl, rest⟩
set_option maxHeartbeats 1000000 in
theorem op16_small {H : Type} {x0 : Int} {x1 : Int} {x2 : Int} {x3 : ByteArray} {x4 : ByteArray} {x5 : ByteArray} {x6 : ByteArray} {x7 : Int} {x8 : Int} {x9 : Int} {x10 : Int} {x11 : Int} {x12 : Bool} {x13 : Bool} {x14 : Int} {x15 : Bool} {x16 : ByteArray} {x17 : ByteArray} {x18 : ByteArray} {x19 : ByteArray} {x20 : Int} {x21 : Int} {x22 : Int} {x23 : Bool}  (h : Small (H := H) 37 (.agg [.lit (.int .i64 x0), .lit (.int .i64 x1), .agg [.lit (.int .i64 x2), .agg [.agg [.lit (.string x3.data.toList), .lit (.string x4.data.toList)], .agg [.lit (.string x5.data.toList), .lit (.string x6.data.toList)], .lit (.int .i64 x7), .agg [.lit (.int .i64 x8), .lit (.int .i64 x9)], .agg [.lit (.int .i64 x10), .lit (.int .i64 x11)]], .lit (.bool x12), .lit (.bool x13), .lit (.int .i64 x14), .lit (.bool x15), .lit (.string x16.data.toList), .lit (.string x17.data.toList)], .agg [.lit (.string x18.data.toList), .lit (.string x19.data.toList), .lit (.int .i64 x20), .lit (.int .i64 x21), .lit (.int .i64 x22)], .lit (.bool x23)]))  : x3.size ≤ 140737488355328 ∧ x4.size ≤ 140737488355328 ∧ x5.size ≤ 140737488355328 ∧ x6.size ≤ 140737488355328 ∧ x16.size ≤ 140737488355328 ∧ x17.size ≤ 140737488355328 ∧ x18.size ≤ 140737488355328 ∧ x19.size ≤ 140737488355328 := by
  have hu := Try.underlying37
  have huRule := Try.underlying35
  have huPick := Try.underlying33
  have huSpan := Try.underlying29
  have huPorts := Try.underlying31
  have huFlow := Try.underlying24
  refine ⟨?_, ?_, ?_, ?_, ?_, ?_, ?_, ?_⟩
  · rw [Lib.size_eq]; exact h _ (by simp [DataW.weights, DataW.weightsEach, hu, huRule, huPick, huSpan, huPorts, huFlow])
  · rw [Lib.size_eq]; exact h _ (by simp [DataW.weights, DataW.weightsEach, hu, huRule, huPick, huSpan, huPorts, huFlow])
  · rw [Lib.size_eq]; exact h _ (by simp [DataW.weights, DataW.weightsEach, hu, huRule, huPick, huSpan, huPorts, huFlow])
  · rw [Lib.size_eq]; exact h _ (by simp [DataW.weights, DataW.weightsEach, hu, huRule, huPick, huSpan, huPorts, huFlow])
  · rw [Lib.size_eq]; exact h _ (by simp [DataW.weights, DataW.weightsEach, hu, huRule, huPick, huSpan, huPorts, huFlow])
  · rw [Lib.size_eq]; exact h _ (by simp [DataW.weights, DataW.weightsEach, hu, huRule, huPick, huSpan, huPorts, huFlow])
  · rw [Lib.size_eq]; exact h _ (by simp [DataW.weights, DataW.weightsEach, hu, huRule, huPick, huSpan, huPorts, huFlow])
  · rw [Lib.size_eq]; exact h _ (by simp [DataW.weights, DataW.weightsEach, hu, huRule, huPick, huSpan, huPorts, huFlow])

/-- An element of a slice of Rule. -/
structure RuleR where
  x0 : Int
  x1 : ByteArray
  x2 : ByteArray
  x3 : ByteArray
  x4 : ByteArray
  x5 : Int
  x6 : Int
  x7 : Int
  x8 : Int
  x9 : Int
  x10 : Bool
  x11 : Bool
  x12 : Int
  x13 : Bool
  x14 : ByteArray
  x15 : ByteArray
def RuleR.cells (r : RuleR) : List Value := [.int .i64 r.x0, .string r.x1, .string r.x2, .string r.x3, .string r.x4, .int .i64 r.x5, .int .i64 r.x6, .int .i64 r.x7, .int .i64 r.x8, .int .i64 r.x9, .bool r.x10, .bool r.x11, .int .i64 r.x12, .bool r.x13, .string r.x14, .string r.x15]
def RuleR.ok (W : World) (r : RuleR) : Prop := r.x1.size ≤ 140737488355328 ∧ r.x2.size ≤ 140737488355328 ∧ r.x3.size ≤ 140737488355328 ∧ r.x4.size ≤ 140737488355328 ∧ r.x14.size ≤ 140737488355328 ∧ r.x15.size ≤ 140737488355328
def RuleRows (W : World) (A : Option Addr) (n : Nat) (rs : List RuleR) : Prop := rs.length = n ∧ (0 < n → ∃ b o, A = some ⟨b, o, none⟩ ∧ b < W.heap.size ∧ ∀ k r, rs[k]? = some r → r.ok W ∧ ∀ j v, r.cells[j]? = some v → W.cell? ⟨b, o + k * 16 + j, none⟩ = some v)
set_option maxHeartbeats 1000000 in
theorem rules_of {H : Type} {enc : TypeId × Value → H} {W : World} {cs : List Value} {fuel : Nat} {x : DataW H × List MemPlace}
    (h : DataW.trod enc Try.prog W 0 (fun _ => true) true fuel 41 cs = some x) (hs : Small 41 x.1) : ∃ A n c rs, cs = [.slice A n c] ∧ RuleRows W A n rs ∧ n ≤ c ∧ c ≤ maxLen := by
  have zc : Try.prog.cellsOf 35 = 16 := by kernel_rfl
  rcases Go.Deep.open_slice Try.underlying41 h with ⟨rfl, _⟩ | ⟨a, len, cap, m, n, D, Pl, rfl, hb, hl, hm, hmm, rfl, hel⟩
  · exact ⟨none, 0, 0, [], rfl, ⟨rfl, fun h => absurd h (by omega)⟩, Nat.le_refl _, Nat.zero_le _⟩
  · have each : ∀ i, i < len → ∃ r : RuleR, r.ok W ∧ ∀ j v, r.cells[j]? = some v → W.cell? ((a.add (i * 16)).add j) = some v := fun i hi => by
      obtain ⟨cs', hcs, ht⟩ := hel i (by rw [hmm]; simp; omega)
      rw [zc] at hcs
      obtain ⟨_, hln, hcell⟩ := World.cells?_some hcs
      obtain ⟨a0, a1, a2, a3, a4, a5, a6, a7, a8, a9, a10, a11, a12, a13, a14, a15, rfl, dd⟩ := rule_cells ht
      have sm := small_elem Try.underlying41 hs (d := D i) (List.mem_map.2 ⟨i, List.mem_range.2 hi, rfl⟩)
      simp only at dd
      rw [dd] at sm
      refine ⟨⟨a0, a1, a2, a3, a4, a5, a6, a7, a8, a9, a10, a11, a12, a13, a14, a15⟩, ?_, fun j v hj => ?_⟩
      · exact rule_small sm
      · have hj' : j < 16 := by
          rcases Nat.lt_or_ge j 16 with q | q
          · exact q
          · rw [List.getElem?_eq_none (by simpa [RuleR.cells] using q)] at hj; cases hj
        rw [hcell j hj']
        exact hj
    refine ⟨some a, len, cap, List.ofFn fun i : Fin len => Classical.choose (each i.1 i.2), rfl, ⟨by simp, fun h0 => ?_⟩, hl, hm⟩
    obtain ⟨r0, _, hc0⟩ := each 0 h0
    have c0 := hc0 0 _ rfl
    have hsp : a.spot = none := by simpa [Addr.add] using World.cell?_spot c0
    obtain ⟨b, o, sp⟩ := a
    simp only at hsp
    subst hsp
    refine ⟨b, o, rfl, ?_, fun k r hk => ?_⟩
    · rw [Mem.add_plain, Mem.add_plain] at c0
      exact World.block_lt_of_cell? W _ c0
    · rw [List.getElem?_ofFn] at hk
      split at hk
      · next hk' =>
        have e := Option.some.inj hk
        have q := Classical.choose_spec (each k hk')
        rw [← e]
        refine ⟨q.1, fun j v hj => ?_⟩
        have := q.2 j v hj
        rw [Mem.add_plain, Mem.add_plain] at this
        exact this
      · cases hk

/-- An element of a slice of Op16. -/
structure Op16R where
  x0 : Int
  x1 : Int
  x2 : Int
  x3 : ByteArray
  x4 : ByteArray
  x5 : ByteArray
  x6 : ByteArray
  x7 : Int
  x8 : Int
  x9 : Int
  x10 : Int
  x11 : Int
  x12 : Bool
  x13 : Bool
  x14 : Int
  x15 : Bool
  x16 : ByteArray
  x17 : ByteArray
  x18 : ByteArray
  x19 : ByteArray
  x20 : Int
  x21 : Int
  x22 : Int
  x23 : Bool
def Op16R.cells (r : Op16R) : List Value := [.int .i64 r.x0, .int .i64 r.x1, .int .i64 r.x2, .string r.x3, .string r.x4, .string r.x5, .string r.x6, .int .i64 r.x7, .int .i64 r.x8, .int .i64 r.x9, .int .i64 r.x10, .int .i64 r.x11, .bool r.x12, .bool r.x13, .int .i64 r.x14, .bool r.x15, .string r.x16, .string r.x17, .string r.x18, .string r.x19, .int .i64 r.x20, .int .i64 r.x21, .int .i64 r.x22, .bool r.x23]
def Op16R.ok (W : World) (r : Op16R) : Prop := r.x3.size ≤ 140737488355328 ∧ r.x4.size ≤ 140737488355328 ∧ r.x5.size ≤ 140737488355328 ∧ r.x6.size ≤ 140737488355328 ∧ r.x16.size ≤ 140737488355328 ∧ r.x17.size ≤ 140737488355328 ∧ r.x18.size ≤ 140737488355328 ∧ r.x19.size ≤ 140737488355328
def Op16Rows (W : World) (A : Option Addr) (n : Nat) (rs : List Op16R) : Prop := rs.length = n ∧ (0 < n → ∃ b o, A = some ⟨b, o, none⟩ ∧ b < W.heap.size ∧ ∀ k r, rs[k]? = some r → r.ok W ∧ ∀ j v, r.cells[j]? = some v → W.cell? ⟨b, o + k * 24 + j, none⟩ = some v)
set_option maxHeartbeats 1000000 in
theorem op16s_of {H : Type} {enc : TypeId × Value → H} {W : World} {cs : List Value} {fuel : Nat} {x : DataW H × List MemPlace}
    (h : DataW.trod enc Try.prog W 0 (fun _ => true) true fuel 22 cs = some x) (hs : Small 22 x.1) : ∃ A n c rs, cs = [.slice A n c] ∧ Op16Rows W A n rs ∧ n ≤ c ∧ c ≤ maxLen := by
  have zc : Try.prog.cellsOf 37 = 24 := by kernel_rfl
  rcases Go.Deep.open_slice Try.underlying22 h with ⟨rfl, _⟩ | ⟨a, len, cap, m, n, D, Pl, rfl, hb, hl, hm, hmm, rfl, hel⟩
  · exact ⟨none, 0, 0, [], rfl, ⟨rfl, fun h => absurd h (by omega)⟩, Nat.le_refl _, Nat.zero_le _⟩
  · have each : ∀ i, i < len → ∃ r : Op16R, r.ok W ∧ ∀ j v, r.cells[j]? = some v → W.cell? ((a.add (i * 24)).add j) = some v := fun i hi => by
      obtain ⟨cs', hcs, ht⟩ := hel i (by rw [hmm]; simp; omega)
      rw [zc] at hcs
      obtain ⟨_, hln, hcell⟩ := World.cells?_some hcs
      obtain ⟨a0, a1, a2, a3, a4, a5, a6, a7, a8, a9, a10, a11, a12, a13, a14, a15, a16, a17, a18, a19, a20, a21, a22, a23, rfl, dd⟩ := op16_cells ht
      have sm := small_elem Try.underlying22 hs (d := D i) (List.mem_map.2 ⟨i, List.mem_range.2 hi, rfl⟩)
      simp only at dd
      rw [dd] at sm
      refine ⟨⟨a0, a1, a2, a3, a4, a5, a6, a7, a8, a9, a10, a11, a12, a13, a14, a15, a16, a17, a18, a19, a20, a21, a22, a23⟩, ?_, fun j v hj => ?_⟩
      · exact op16_small sm
      · have hj' : j < 24 := by
          rcases Nat.lt_or_ge j 24 with q | q
          · exact q
          · rw [List.getElem?_eq_none (by simpa [Op16R.cells] using q)] at hj; cases hj
        rw [hcell j hj']
        exact hj
    refine ⟨some a, len, cap, List.ofFn fun i : Fin len => Classical.choose (each i.1 i.2), rfl, ⟨by simp, fun h0 => ?_⟩, hl, hm⟩
    obtain ⟨r0, _, hc0⟩ := each 0 h0
    have c0 := hc0 0 _ rfl
    have hsp : a.spot = none := by simpa [Addr.add] using World.cell?_spot c0
    obtain ⟨b, o, sp⟩ := a
    simp only at hsp
    subst hsp
    refine ⟨b, o, rfl, ?_, fun k r hk => ?_⟩
    · rw [Mem.add_plain, Mem.add_plain] at c0
      exact World.block_lt_of_cell? W _ c0
    · rw [List.getElem?_ofFn] at hk
      split at hk
      · next hk' =>
        have e := Option.some.inj hk
        have q := Classical.choose_spec (each k hk')
        rw [← e]
        refine ⟨q.1, fun j v hj => ?_⟩
        have := q.2 j v hj
        rw [Mem.add_plain, Mem.add_plain] at this
        exact this
      · cases hk

/-- An element of a slice of Flow. -/
structure FlowR where
  x0 : ByteArray
  x1 : ByteArray
  x2 : Int
  x3 : Int
  x4 : Int
def FlowR.cells (r : FlowR) : List Value := [.string r.x0, .string r.x1, .int .i64 r.x2, .int .i64 r.x3, .int .i64 r.x4]
def FlowR.ok (W : World) (r : FlowR) : Prop := r.x0.size ≤ 140737488355328 ∧ r.x1.size ≤ 140737488355328
def FlowRows (W : World) (A : Option Addr) (n : Nat) (rs : List FlowR) : Prop := rs.length = n ∧ (0 < n → ∃ b o, A = some ⟨b, o, none⟩ ∧ b < W.heap.size ∧ ∀ k r, rs[k]? = some r → r.ok W ∧ ∀ j v, r.cells[j]? = some v → W.cell? ⟨b, o + k * 5 + j, none⟩ = some v)
set_option maxHeartbeats 1000000 in
theorem flows_of {H : Type} {enc : TypeId × Value → H} {W : World} {cs : List Value} {fuel : Nat} {x : DataW H × List MemPlace}
    (h : DataW.trod enc Try.prog W 0 (fun _ => true) true fuel 48 cs = some x) (hs : Small 48 x.1) : ∃ A n c rs, cs = [.slice A n c] ∧ FlowRows W A n rs ∧ n ≤ c ∧ c ≤ maxLen := by
  have zc : Try.prog.cellsOf 24 = 5 := by kernel_rfl
  rcases Go.Deep.open_slice Try.underlying48 h with ⟨rfl, _⟩ | ⟨a, len, cap, m, n, D, Pl, rfl, hb, hl, hm, hmm, rfl, hel⟩
  · exact ⟨none, 0, 0, [], rfl, ⟨rfl, fun h => absurd h (by omega)⟩, Nat.le_refl _, Nat.zero_le _⟩
  · have each : ∀ i, i < len → ∃ r : FlowR, r.ok W ∧ ∀ j v, r.cells[j]? = some v → W.cell? ((a.add (i * 5)).add j) = some v := fun i hi => by
      obtain ⟨cs', hcs, ht⟩ := hel i (by rw [hmm]; simp; omega)
      rw [zc] at hcs
      obtain ⟨_, hln, hcell⟩ := World.cells?_some hcs
      obtain ⟨a0, a1, a2, a3, a4, rfl, dd⟩ := flow_cells ht
      have sm := small_elem Try.underlying48 hs (d := D i) (List.mem_map.2 ⟨i, List.mem_range.2 hi, rfl⟩)
      simp only at dd
      rw [dd] at sm
      refine ⟨⟨a0, a1, a2, a3, a4⟩, ?_, fun j v hj => ?_⟩
      · exact flow_small sm
      · have hj' : j < 5 := by
          rcases Nat.lt_or_ge j 5 with q | q
          · exact q
          · rw [List.getElem?_eq_none (by simpa [FlowR.cells] using q)] at hj; cases hj
        rw [hcell j hj']
        exact hj
    refine ⟨some a, len, cap, List.ofFn fun i : Fin len => Classical.choose (each i.1 i.2), rfl, ⟨by simp, fun h0 => ?_⟩, hl, hm⟩
    obtain ⟨r0, _, hc0⟩ := each 0 h0
    have c0 := hc0 0 _ rfl
    have hsp : a.spot = none := by simpa [Addr.add] using World.cell?_spot c0
    obtain ⟨b, o, sp⟩ := a
    simp only at hsp
    subst hsp
    refine ⟨b, o, rfl, ?_, fun k r hk => ?_⟩
    · rw [Mem.add_plain, Mem.add_plain] at c0
      exact World.block_lt_of_cell? W _ c0
    · rw [List.getElem?_ofFn] at hk
      split at hk
      · next hk' =>
        have e := Option.some.inj hk
        have q := Classical.choose_spec (each k hk')
        rw [← e]
        refine ⟨q.1, fun j v hj => ?_⟩
        have := q.2 j v hj
        rw [Mem.add_plain, Mem.add_plain] at this
        exact this
      · cases hk
end Go.Proofs.Ytmomkjgnopcobaa.ArgT
