/- Arguments that are structs, opened: their fields; how long they are. -/
import Derived.Test.YtppnkkpjfjhfkaaDoorM01
import Derived.Test.YtppnkkpjfjhfkaaDoorRows
import Derived.OpenShut
import Derived.ShutString
import Derived.ChangeOld
import Derived.SizedLaws
import Derived.Lib.SmallJoins
import Derived.Deep.Slices
set_option linter.unusedVariables false
namespace Go.Proofs.YtppnkkpjfjhfkaaDoor.Args
open Go.ChangeShapes Go.WideShapes Go.ChangeAt Go.RowKit Go.Proofs.YtppnkkpjfjhfkaaDoor.Mem
open Go.ChangeMaps (open_string shut_string)
set_option maxRecDepth 100000

theorem own : ownKnob Tryd.prog.godebug = none := by kernel_rfl
theorem laidOut : laidOutB Tryd.prog = true := by kernel_rfl
theorem reach_lt : reachBytes ≤ 140737488355328 := by decide
theorem bytes_of {H : Type} {enc : TypeId × Value → H} {W : World} {cs : List Value} {fuel : Nat} {x : DataW H × List MemPlace}
    (h : DataW.trod enc Tryd.prog W 0 (fun _ => true) true fuel 132 cs = some x) : ∃ A n c l, cs = [.slice A n c] ∧ Holds W W.heap.size A n c l ∧ (n = 0 ∨ ∃ es sp, x.1 = .slice es sp ∧ es.length = n) := by
  rcases open_ints Tryd.underlying132 Tryd.underlying5 (by kernel_rfl) h with ⟨hcs, _⟩ | ⟨x, l, c, zs, hcs, _, hl, hm, hz, hxx, hcell, hwz⟩
  · exact ⟨none, 0, 0, [], hcs, Holds.nil W _ none, .inl rfl⟩
  · exact ⟨some x, l, c, zs.take l, hcs, Holds.of_row (.inr ⟨x, rfl, hl, hm, by simpa using hz, hcell, hwz⟩), .inr ⟨_, _, by rw [hxx], by simp at hz; simp [lits, hz]; omega⟩⟩
theorem size_of {H : Type} {ts : List TypeId} {ds : List (DataW H)} (h : (DataW.weightsEach Tryd.prog ts ds).all (· ≤ reachBytes) = true) (j : Nat) (t : TypeId) (s : ByteArray) (ht : ts[j]? = some t) (hd : ds[j]? = some (.lit (.string s.data.toList))) : s.size ≤ 140737488355328 := by
  have := Nat.le_trans (sized_string h ht hd) reach_lt
  rw [Lib.size_eq]
  exact this
theorem bytes_size {H : Type} {ts : List TypeId} {ds : List (DataW H)} {n : Nat} {d : DataW H} (h : (DataW.weightsEach Tryd.prog ts ds).all (· ≤ reachBytes) = true) (j : Nat) (ht : ts[j]? = some 132) (hd : ds[j]? = some d) (hD : n = 0 ∨ ∃ es sp, d = .slice es sp ∧ es.length = n) : n ≤ 140737488355328 := by
  have hv := Tryd.underlying132
  have hb : Tryd.prog.bytesOf 5 = 1 := by kernel_rfl
  have g : ∀ q, q ∈ DataW.weights Tryd.prog 132 d → q ≤ 140737488355328 := fun q hq => by
    have h1 := List.all_eq_true.1 h q (DataW.weights_mem_each ht hd q hq)
    exact Nat.le_trans (by simpa using h1) reach_lt
  rcases hD with rfl | ⟨es, sp, rfl, rfl⟩
  · exact Nat.zero_le _
  · exact Nat.le_trans (Nat.le_add_right es.length sp.length) (g _ (by simp [DataW.weights, hv, hb]))
end Go.Proofs.YtppnkkpjfjhfkaaDoor.Args

/- Arguments that are structs of structs, and slices of such, opened. -/
set_option linter.unusedVariables false
namespace Go.Proofs.YtppnkkpjfjhfkaaDoor.ArgT
open Go.ChangeShapes Go.WideShapes Go.ChangeAt Go.RowKit Go.Proofs.YtppnkkpjfjhfkaaDoor.Mem
open Go.ChangeMaps (open_string shut_string)
set_option maxRecDepth 100000

/-- What a value's data weighs is no more than a machine holds. -/
def Small {H : Type} (t : TypeId) (d : DataW H) : Prop := ∀ q, q ∈ DataW.weights Tryd.prog t d → q ≤ 140737488355328
theorem small_arg {H : Type} {ts : List TypeId} {ds : List (DataW H)} {t : TypeId} {d : DataW H} (h : (DataW.weightsEach Tryd.prog ts ds).all (· ≤ reachBytes) = true) (j : Nat) (ht : ts[j]? = some t) (hd : ds[j]? = some d) : Small t d := fun q hq => by
  have h1 := List.all_eq_true.1 h q (DataW.weights_mem_each ht hd q hq)
  exact Nat.le_trans (by simpa using h1) Args.reach_lt
theorem weightsAll_mem {H : Type} {P : Program} {e : TypeId} : ∀ {l : List (DataW H)} {d : DataW H}, d ∈ l → ∀ n ∈ d.weights P e, n ∈ DataW.weightsAll P e l
  | d' :: r, d, hd, n, hn => by
    simp only [DataW.weightsAll, List.mem_append]
    rcases List.mem_cons.1 hd with rfl | h
    · exact Or.inl hn
    · exact Or.inr (weightsAll_mem h n hn)
theorem small_elem {H : Type} {t e : TypeId} {es sp : List (DataW H)} (ht : Tryd.prog.underlying t = some (.slice e)) (h : Small t (.slice es sp)) {d : DataW H} (hd : d ∈ es) : Small e d := fun q hq => h q (by
  simp only [DataW.weights, ht, List.mem_cons, List.mem_append]
  exact .inr (.inl (weightsAll_mem hd q hq)))

set_option maxHeartbeats 2000000 in
theorem sa_cells {H : Type} {enc : TypeId × Value → H} {W : World} {fuel : Nat} {cs : List Value} {x : DataW H × List MemPlace}
    (h : DataW.trod enc Tryd.prog W 0 (fun _ => true) true fuel 32 cs = some x) : ∃ (x0 : Int) (x1 : ByteArray) (x2 : ByteArray) (x3 : ByteArray) (x4 : Bool) (x5 : Int), cs = [.int .i64 x0, .string x1, .string x2, .string x3, .bool x4, .int .i64 x5] ∧ x.1 = .agg [.lit (.int .i64 x0), .lit (.string x1.data.toList), .lit (.string x2.data.toList), .lit (.string x3.data.toList), .lit (.bool x4), .lit (.int .i64 x5)] := by
  have zi : Tryd.prog.cellsOf 3 = 1 := by kernel_rfl
  have zs : Tryd.prog.cellsOf 9 = 1 := by kernel_rfl
  have zt : Tryd.prog.cellsOf 4 = 1 := by kernel_rfl
  have hs := Tryd.underlying32
  obtain ⟨xs, m, _, hx, hsz, hlen, hg⟩ := DataW.trod_struct hs h
  match cs, hsz.trans (show Tryd.prog.cellsOf 32 = 6 by kernel_rfl), xs, hlen with
  | [g0, g1, g2, g3, g4, g5], _, [y0, y1, y2, y3, y4, y5], _ =>
    have t0 : DataW.trod enc Tryd.prog W 0 (fun _ => true) true m 3 [g0] = some y0 := by simpa [zi, zs, zt] using hg 0 _ rfl
    obtain ⟨a0, e0, w0, q0⟩ := DataW.trod_int Tryd.underlying3 t0
    simp at e0
    subst e0
    have t1 : DataW.trod enc Tryd.prog W 0 (fun _ => true) true m 9 [g1] = some y1 := by simpa [zi, zs, zt] using hg 1 _ rfl
    obtain ⟨a1, e1, w1, q1⟩ := DataW.trod_string Tryd.underlying9 t1
    simp at e1
    subst e1
    have t2 : DataW.trod enc Tryd.prog W 0 (fun _ => true) true m 9 [g2] = some y2 := by simpa [zi, zs, zt] using hg 2 _ rfl
    obtain ⟨a2, e2, w2, q2⟩ := DataW.trod_string Tryd.underlying9 t2
    simp at e2
    subst e2
    have t3 : DataW.trod enc Tryd.prog W 0 (fun _ => true) true m 9 [g3] = some y3 := by simpa [zi, zs, zt] using hg 3 _ rfl
    obtain ⟨a3, e3, w3, q3⟩ := DataW.trod_string Tryd.underlying9 t3
    simp at e3
    subst e3
    have t4 : DataW.trod enc Tryd.prog W 0 (fun _ => true) true m 4 [g4] = some y4 := by simpa [zi, zs, zt] using hg 4 _ rfl
    obtain ⟨a4, e4, w4⟩ := DataW.trod_bool Tryd.underlying4 t4
    simp at e4
    subst e4
    have t5 : DataW.trod enc Tryd.prog W 0 (fun _ => true) true m 3 [g5] = some y5 := by simpa [zi, zs, zt] using hg 5 _ rfl
    obtain ⟨a5, e5, w5, q5⟩ := DataW.trod_int Tryd.underlying3 t5
    simp at e5
    subst e5
    exact ⟨a0, a1, a2, a3, a4, a5, rfl, by
      rw [hx]
      simp [w0, w1, w2, w3, w4, w5]⟩
theorem sa_val {H : Type} {enc : TypeId × Value → H} {W : World} {r : Reach} {b0 : Nat} {v : Value} {dd : DataW H} {pp : List MemPlace}
    (hv : Value.okWide Tryd.prog W r b0 32 v) (h : DataW.Trod enc Tryd.prog W 0 (fun _ => true) true 32 v dd pp) :
    ∃ (x0 : Int) (x1 : ByteArray) (x2 : ByteArray) (x3 : ByteArray) (x4 : Bool) (x5 : Int), v = .agg #[.int .i64 x0, .string x1, .string x2, .string x3, .bool x4, .int .i64 x5] ∧ dd = .agg [.lit (.int .i64 x0), .lit (.string x1.data.toList), .lit (.string x2.data.toList), .lit (.string x3.data.toList), .lit (.bool x4), .lit (.int .i64 x5)] := by
  obtain ⟨⟨cs⟩, rfl, hsz⟩ := okWide_struct Tryd.underlying32 hv
  obtain ⟨fuel, hf⟩ := h
  obtain ⟨a0, a1, a2, a3, a4, a5, e, rest⟩ := sa_cells hf
  simp only [Value.cells] at e
  subst e
  exact ⟨a0, a1, a2, a3, a4, a5, rfl, rest⟩
set_option maxHeartbeats 1000000 in
theorem sa_small {H : Type} {x0 : Int} {x1 : ByteArray} {x2 : ByteArray} {x3 : ByteArray} {x4 : Bool} {x5 : Int}  (h : Small (H := H) 32 (.agg [.lit (.int .i64 x0), .lit (.string x1.data.toList), .lit (.string x2.data.toList), .lit (.string x3.data.toList), .lit (.bool x4), .lit (.int .i64 x5)]))  : x1.size ≤ 140737488355328 ∧ x2.size ≤ 140737488355328 ∧ x3.size ≤ 140737488355328 := by
  have hu := Tryd.underlying32
  refine ⟨?_, ?_, ?_⟩
  · rw [Lib.size_eq]; exact h _ (by simp [DataW.weights, DataW.weightsEach, hu])
  · rw [Lib.size_eq]; exact h _ (by simp [DataW.weights, DataW.weightsEach, hu])
  · rw [Lib.size_eq]; exact h _ (by simp [DataW.weights, DataW.weightsEach, hu])

set_option maxHeartbeats 2000000 in
theorem life_cells {H : Type} {enc : TypeId × Value → H} {W : World} {fuel : Nat} {cs : List Value} {x : DataW H × List MemPlace}
    (h : DataW.trod enc Tryd.prog W 0 (fun _ => true) true fuel 34 cs = some x) : ∃ (x0 : Int) (x1 : ByteArray) (x2 : ByteArray) (x3 : ByteArray) (x4 : Bool) (x5 : Int) (x6 : Int) (x7 : Bool) (x8 : Int) (x9 : Int) (x10 : Int) (x11 : Int), cs = [.int .i64 x0, .string x1, .string x2, .string x3, .bool x4, .int .i64 x5, .int .i64 x6, .bool x7, .int .i64 x8, .int .i64 x9, .int .i64 x10, .int .i64 x11] ∧ x.1 = .agg [.agg [.lit (.int .i64 x0), .lit (.string x1.data.toList), .lit (.string x2.data.toList), .lit (.string x3.data.toList), .lit (.bool x4), .lit (.int .i64 x5)], .lit (.int .i64 x6), .lit (.bool x7), .lit (.int .i64 x8), .lit (.int .i64 x9), .lit (.int .i64 x10), .lit (.int .i64 x11)] := by
  have zi : Tryd.prog.cellsOf 3 = 1 := by kernel_rfl
  have zt : Tryd.prog.cellsOf 4 = 1 := by kernel_rfl
  have zSa : Tryd.prog.cellsOf 32 = 6 := by kernel_rfl
  have hs := Tryd.underlying34
  obtain ⟨xs, m, _, hx, hsz, hlen, hg⟩ := DataW.trod_struct hs h
  match cs, hsz.trans (show Tryd.prog.cellsOf 34 = 12 by kernel_rfl), xs, hlen with
  | [g0, g1, g2, g3, g4, g5, g6, g7, g8, g9, g10, g11], _, [y0, y1, y2, y3, y4, y5, y6], _ =>
    have t0 : DataW.trod enc Tryd.prog W 0 (fun _ => true) true m 32 [g0, g1, g2, g3, g4, g5] = some y0 := by simpa [zi, zt, zSa] using hg 0 _ rfl
    obtain ⟨a0, a1, a2, a3, a4, a5, e0, w0⟩ := sa_cells t0
    simp only [List.cons.injEq, and_true] at e0
    obtain ⟨rfl, rfl, rfl, rfl, rfl, rfl⟩ := e0
    have t1 : DataW.trod enc Tryd.prog W 0 (fun _ => true) true m 3 [g6] = some y1 := by simpa [zi, zt, zSa] using hg 1 _ rfl
    obtain ⟨a6, e1, w1, q6⟩ := DataW.trod_int Tryd.underlying3 t1
    simp at e1
    subst e1
    have t2 : DataW.trod enc Tryd.prog W 0 (fun _ => true) true m 4 [g7] = some y2 := by simpa [zi, zt, zSa] using hg 2 _ rfl
    obtain ⟨a7, e2, w2⟩ := DataW.trod_bool Tryd.underlying4 t2
    simp at e2
    subst e2
    have t3 : DataW.trod enc Tryd.prog W 0 (fun _ => true) true m 3 [g8] = some y3 := by simpa [zi, zt, zSa] using hg 3 _ rfl
    obtain ⟨a8, e3, w3, q8⟩ := DataW.trod_int Tryd.underlying3 t3
    simp at e3
    subst e3
    have t4 : DataW.trod enc Tryd.prog W 0 (fun _ => true) true m 3 [g9] = some y4 := by simpa [zi, zt, zSa] using hg 4 _ rfl
    obtain ⟨a9, e4, w4, q9⟩ := DataW.trod_int Tryd.underlying3 t4
    simp at e4
    subst e4
    have t5 : DataW.trod enc Tryd.prog W 0 (fun _ => true) true m 3 [g10] = some y5 := by simpa [zi, zt, zSa] using hg 5 _ rfl
    obtain ⟨a10, e5, w5, q10⟩ := DataW.trod_int Tryd.underlying3 t5
    simp at e5
    subst e5
    have t6 : DataW.trod enc Tryd.prog W 0 (fun _ => true) true m 3 [g11] = some y6 := by simpa [zi, zt, zSa] using hg 6 _ rfl
    obtain ⟨a11, e6, w6, q11⟩ := DataW.trod_int Tryd.underlying3 t6
    simp at e6
    subst e6
    exact ⟨a0, a1, a2, a3, a4, a5, a6, a7, a8, a9, a10, a11, rfl, by
      rw [hx]
      simp [w0, w1, w2, w3, w4, w5, w6]⟩
theorem life_val {H : Type} {enc : TypeId × Value → H} {W : World} {r : Reach} {b0 : Nat} {v : Value} {dd : DataW H} {pp : List MemPlace}
    (hv : Value.okWide Tryd.prog W r b0 34 v) (h : DataW.Trod enc Tryd.prog W 0 (fun _ => true) true 34 v dd pp) :
    ∃ (x0 : Int) (x1 : ByteArray) (x2 : ByteArray) (x3 : ByteArray) (x4 : Bool) (x5 : Int) (x6 : Int) (x7 : Bool) (x8 : Int) (x9 : Int) (x10 : Int) (x11 : Int), v = .agg #[.int .i64 x0, .string x1, .string x2, .string x3, .bool x4, .int .i64 x5, .int .i64 x6, .bool x7, .int .i64 x8, .int .i64 x9, .int .i64 x10, .int .i64 x11] ∧ dd = .agg [.agg [.lit (.int .i64 x0), .lit (.string x1.data.toList), .lit (.string x2.data.toList), .lit (.string x3.data.toList), .lit (.bool x4), .lit (.int .i64 x5)], .lit (.int .i64 x6), .lit (.bool x7), .lit (.int .i64 x8), .lit (.int .i64 x9), .lit (.int .i64 x10), .lit (.int .i64 x11)] := by
  obtain ⟨⟨cs⟩, rfl, hsz⟩ := okWide_struct Tryd.underlying34 hv
  obtain ⟨fuel, hf⟩ := h
  obtain ⟨a0, a1, a2, a3, a4, a5, a6, a7, a8, a9, a10, a11, e, rest⟩ := life_cells hf
  simp only [Value.cells] at e
  subst e
  exact ⟨a0, a1, a2, a3, a4, a5, a6, a7, a8, a9, a10, a11, rfl, rest⟩
set_option maxHeartbeats 1000000 in
theorem life_small {H : Type} {x0 : Int} {x1 : ByteArray} {x2 : ByteArray} {x3 : ByteArray} {x4 : Bool} {x5 : Int} {x6 : Int} {x7 : Bool} {x8 : Int} {x9 : Int} {x10 : Int} {x11 : Int}  (h : Small (H := H) 34 (.agg [.agg [.lit (.int .i64 x0), .lit (.string x1.data.toList), .lit (.string x2.data.toList), .lit (.string x3.data.toList), .lit (.bool x4), .lit (.int .i64 x5)], .lit (.int .i64 x6), .lit (.bool x7), .lit (.int .i64 x8), .lit (.int .i64 x9), .lit (.int .i64 x10), .lit (.int .i64 x11)]))  : x1.size ≤ 140737488355328 ∧ x2.size ≤ 140737488355328 ∧ x3.size ≤ 140737488355328 := by
  have hu := Tryd.underlying34
  have huSa := Tryd.underlying32
  refine ⟨?_, ?_, ?_⟩
  · rw [Lib.size_eq]; exact h _ (by simp [DataW.weights, DataW.weightsEach, hu, huSa])
  · rw [Lib.size_eq]; exact h _ (by simp [DataW.weights, DataW.weightsEach, hu, huSa])
  · rw [Lib.size_eq]; exact h _ (by simp [DataW.weights, DataW.weightsEach, hu, huSa])

set_option maxHeartbeats 2000000 in
theorem op17_cells {H : Type} {enc : TypeId × Value → H} {W : World} {fuel : Nat} {cs : List Value} {x : DataW H × List MemPlace}
    (h : DataW.trod enc Tryd.prog W 0 (fun _ => true) true fuel 36 cs = some x) : ∃ (x0 : Int) (x1 : Int) (x2 : Int) (x3 : Int) (x4 : Int) (x5 : Int) (x6 : Bool) (x7 : Int) (x8 : Int) (x9 : ByteArray) (x10 : ByteArray) (x11 : ByteArray) (x12 : Bool) (x13 : Int) (x14 : Int) (x15 : Bool) (x16 : Int) (x17 : Int) (x18 : Int) (x19 : Int), cs = [.int .i64 x0, .int .i64 x1, .int .i64 x2, .int .i64 x3, .int .i64 x4, .int .i64 x5, .bool x6, .int .u64 x7, .int .i64 x8, .string x9, .string x10, .string x11, .bool x12, .int .i64 x13, .int .i64 x14, .bool x15, .int .i64 x16, .int .i64 x17, .int .i64 x18, .int .i64 x19] ∧ (-9223372036854775808 ≤ x4 ∧ x4 ≤ 9223372036854775807) ∧ (0 ≤ x7 ∧ x7 ≤ 18446744073709551615) ∧ x.1 = .agg [.lit (.int .i64 x0), .lit (.int .i64 x1), .lit (.int .i64 x2), .lit (.int .i64 x3), .lit (.int .i64 x4), .lit (.int .i64 x5), .lit (.bool x6), .lit (.int .u64 x7), .agg [.agg [.lit (.int .i64 x8), .lit (.string x9.data.toList), .lit (.string x10.data.toList), .lit (.string x11.data.toList), .lit (.bool x12), .lit (.int .i64 x13)], .lit (.int .i64 x14), .lit (.bool x15), .lit (.int .i64 x16), .lit (.int .i64 x17), .lit (.int .i64 x18), .lit (.int .i64 x19)]] := by
  have zi : Tryd.prog.cellsOf 3 = 1 := by kernel_rfl
  have zj : Tryd.prog.cellsOf 3 = 1 := by kernel_rfl
  have zq : Tryd.prog.cellsOf 30 = 1 := by kernel_rfl
  have zt : Tryd.prog.cellsOf 4 = 1 := by kernel_rfl
  have zLife : Tryd.prog.cellsOf 34 = 12 := by kernel_rfl
  have hs := Tryd.underlying36
  obtain ⟨xs, m, _, hx, hsz, hlen, hg⟩ := DataW.trod_struct hs h
  match cs, hsz.trans (show Tryd.prog.cellsOf 36 = 20 by kernel_rfl), xs, hlen with
  | [g0, g1, g2, g3, g4, g5, g6, g7, g8, g9, g10, g11, g12, g13, g14, g15, g16, g17, g18, g19], _, [y0, y1, y2, y3, y4, y5, y6, y7, y8], _ =>
    have t0 : DataW.trod enc Tryd.prog W 0 (fun _ => true) true m 3 [g0] = some y0 := by simpa [zi, zj, zq, zt, zLife] using hg 0 _ rfl
    obtain ⟨a0, e0, w0, q0⟩ := DataW.trod_int Tryd.underlying3 t0
    simp at e0
    subst e0
    have t1 : DataW.trod enc Tryd.prog W 0 (fun _ => true) true m 3 [g1] = some y1 := by simpa [zi, zj, zq, zt, zLife] using hg 1 _ rfl
    obtain ⟨a1, e1, w1, q1⟩ := DataW.trod_int Tryd.underlying3 t1
    simp at e1
    subst e1
    have t2 : DataW.trod enc Tryd.prog W 0 (fun _ => true) true m 3 [g2] = some y2 := by simpa [zi, zj, zq, zt, zLife] using hg 2 _ rfl
    obtain ⟨a2, e2, w2, q2⟩ := DataW.trod_int Tryd.underlying3 t2
    simp at e2
    subst e2
    have t3 : DataW.trod enc Tryd.prog W 0 (fun _ => true) true m 3 [g3] = some y3 := by simpa [zi, zj, zq, zt, zLife] using hg 3 _ rfl
    obtain ⟨a3, e3, w3, q3⟩ := DataW.trod_int Tryd.underlying3 t3
    simp at e3
    subst e3
    have t4 : DataW.trod enc Tryd.prog W 0 (fun _ => true) true m 3 [g4] = some y4 := by simpa [zi, zj, zq, zt, zLife] using hg 4 _ rfl
    obtain ⟨a4, e4, w4, q4⟩ := DataW.trod_int Tryd.underlying3 t4
    simp at e4
    subst e4
    have p4 : (-9223372036854775808 ≤ a4 ∧ a4 ≤ 9223372036854775807) := by have h := q4; simp only [Lit.wf, Bool.and_eq_true, decide_eq_true_eq] at h; exact h
    have t5 : DataW.trod enc Tryd.prog W 0 (fun _ => true) true m 3 [g5] = some y5 := by simpa [zi, zj, zq, zt, zLife] using hg 5 _ rfl
    obtain ⟨a5, e5, w5, q5⟩ := DataW.trod_int Tryd.underlying3 t5
    simp at e5
    subst e5
    have t6 : DataW.trod enc Tryd.prog W 0 (fun _ => true) true m 4 [g6] = some y6 := by simpa [zi, zj, zq, zt, zLife] using hg 6 _ rfl
    obtain ⟨a6, e6, w6⟩ := DataW.trod_bool Tryd.underlying4 t6
    simp at e6
    subst e6
    have t7 : DataW.trod enc Tryd.prog W 0 (fun _ => true) true m 30 [g7] = some y7 := by simpa [zi, zj, zq, zt, zLife] using hg 7 _ rfl
    obtain ⟨a7, e7, w7, q7⟩ := DataW.trod_int Tryd.underlying30 t7
    simp at e7
    subst e7
    have p7 : (0 ≤ a7 ∧ a7 ≤ 18446744073709551615) := by have h := q7; simp only [Lit.wf, Bool.and_eq_true, decide_eq_true_eq] at h; exact h
    have t8 : DataW.trod enc Tryd.prog W 0 (fun _ => true) true m 34 [g8, g9, g10, g11, g12, g13, g14, g15, g16, g17, g18, g19] = some y8 := by simpa [zi, zj, zq, zt, zLife] using hg 8 _ rfl
    obtain ⟨a8, a9, a10, a11, a12, a13, a14, a15, a16, a17, a18, a19, e8, w8⟩ := life_cells t8
    simp only [List.cons.injEq, and_true] at e8
    obtain ⟨rfl, rfl, rfl, rfl, rfl, rfl, rfl, rfl, rfl, rfl, rfl, rfl⟩ := e8
    exact ⟨a0, a1, a2, a3, a4, a5, a6, a7, a8, a9, a10, a11, a12, a13, a14, a15, a16, a17, a18, a19, rfl, p4, p7, by
      rw [hx]
      simp [w0, w1, w2, w3, w4, w5, w6, w7, w8]⟩
theorem op17_val {H : Type} {enc : TypeId × Value → H} {W : World} {r : Reach} {b0 : Nat} {v : Value} {dd : DataW H} {pp : List MemPlace}
    (hv : Value.okWide Tryd.prog W r b0 36 v) (h : DataW.Trod enc Tryd.prog W 0 (fun _ => true) true 36 v dd pp) :
    ∃ (x0 : Int) (x1 : Int) (x2 : Int) (x3 : Int) (x4 : Int) (x5 : Int) (x6 : Bool) (x7 : Int) (x8 : Int) (x9 : ByteArray) (x10 : ByteArray) (x11 : ByteArray) (x12 : Bool) (x13 : Int) (x14 : Int) (x15 : Bool) (x16 : Int) (x17 : Int) (x18 : Int) (x19 : Int), v = .agg #[.int .i64 x0, .int .i64 x1, .int .i64 x2, .int .i64 x3, .int .i64 x4, .int .i64 x5, .bool x6, .int .u64 x7, .int .i64 x8, .string x9, .string x10, .string x11, .bool x12, .int .i64 x13, .int .i64 x14, .bool x15, .int .i64 x16, .int .i64 x17, .int .i64 x18, .int .i64 x19] ∧ (-9223372036854775808 ≤ x4 ∧ x4 ≤ 9223372036854775807) ∧ (0 ≤ x7 ∧ x7 ≤ 18446744073709551615) ∧ dd = .agg [.lit (.int .i64 x0), .lit (.int .i64 x1), .lit (.int .i64 x2), .lit (.int .i64 x3), .lit (.int .i64 x4), .lit (.int .i64 x5), .lit (.bool x6), .lit (.int .u64 x7), .agg [.agg [.lit (.int .i64 x8), .lit (.string x9.data.toList), .lit (.string x10.data.toList), .lit (.string x11.data.toList), .lit (.bool x12), .lit (.int .i64 x13)], .lit (.int .i64 x14), .lit (.bool x15), .lit (.int .i64 x16), .lit (.int .i64 x17), .lit (.int .i64 x18), .lit (.int .i64 x19)]] := by
  obtain ⟨⟨cs⟩, rfl, hsz⟩ := okWide_struct Tryd.underlying36 hv
  obtain ⟨fuel, hf⟩ := h
  obtain ⟨a0, a1, a2, a3, a4, a5, a6, a7, a8, a9, a10, a11, a12, a13, a14, a15, a16, a17, a18, a19, e, rest⟩ := op17_cells hf
  simp only [Value.cells] at e
  subst e
  exact ⟨a0, a1, a2, a3, a4, a5, a6, a7, a8, a9, a10, a11, a12, a13, a14, a15, a16, a17, a18, a19, rfl, rest⟩
set_option maxHeartbeats 1000000 in
theorem op17_small {H : Type} {x0 : Int} {x1 : Int} {x2 : Int} {x3 : Int} {x4 : Int} {x5 : Int} {x6 : Bool} {x7 : Int} {x8 : Int} {x9 : ByteArray} {x10 : ByteArray} {x11 : ByteArray} {x12 : Bool} {x13 : Int} {x14 : Int} {x15 : Bool} {x16 : Int} {x17 : Int} {x18 : Int} {x19 : Int}  (h : Small (H := H) 36 (.agg [.lit (.int .i64 x0), .lit (.int .i64 x1), .lit (.int .i64 x2), .lit (.int .i64 x3), .lit (.int .i64 x4), .lit (.int .i64 x5), .lit (.bool x6), .lit (.int .u64 x7), .agg [.agg [.lit (.int .i64 x8), .lit (.string x9.data.toList), .lit (.string x10.data.toList), .lit (.string x11.data.toList), .lit (.bool x12), .lit (.int .i64 x13)], .lit (.int .i64 x14), .lit (.bool x15), .lit (.int .i64 x16), .lit (.int .i64 x17), .lit (.int .i64 x18), .lit (.int .i64 x19)]]))  : x9.size ≤ 140737488355328 ∧ x10.size ≤ 140737488355328 ∧ x11.size ≤ 140737488355328 := by
  have hu := Tryd.underlying36
  have huLife := Tryd.underlying34
  have huSa := Tryd.underlying32
  refine ⟨?_, ?_, ?_⟩
  · rw [Lib.size_eq]; exact h _ (by simp [DataW.weights, DataW.weightsEach, hu, huLife, huSa])
  · rw [Lib.size_eq]; exact h _ (by simp [DataW.weights, DataW.weightsEach, hu, huLife, huSa])
  · rw [Lib.size_eq]; exact h _ (by simp [DataW.weights, DataW.weightsEach, hu, huLife, huSa])

/-- An element of a slice of Op17. -/
structure Op17R where
  x0 : Int
  x1 : Int
  x2 : Int
  x3 : Int
  x4 : Int
  x5 : Int
  x6 : Bool
  x7 : Int
  x8 : Int
  x9 : ByteArray
  x10 : ByteArray
  x11 : ByteArray
  x12 : Bool
  x13 : Int
  x14 : Int
  x15 : Bool
  x16 : Int
  x17 : Int
  x18 : Int
  x19 : Int
def Op17R.cells (r : Op17R) : List Value := [.int .i64 r.x0, .int .i64 r.x1, .int .i64 r.x2, .int .i64 r.x3, .int .i64 r.x4, .int .i64 r.x5, .bool r.x6, .int .u64 r.x7, .int .i64 r.x8, .string r.x9, .string r.x10, .string r.x11, .bool r.x12, .int .i64 r.x13, .int .i64 r.x14, .bool r.x15, .int .i64 r.x16, .int .i64 r.x17, .int .i64 r.x18, .int .i64 r.x19]
def Op17R.ok (W : World) (r : Op17R) : Prop := (-9223372036854775808 ≤ r.x4 ∧ r.x4 ≤ 9223372036854775807) ∧ (0 ≤ r.x7 ∧ r.x7 ≤ 18446744073709551615) ∧ r.x9.size ≤ 140737488355328 ∧ r.x10.size ≤ 140737488355328 ∧ r.x11.size ≤ 140737488355328
def Op17Rows (W : World) (A : Option Addr) (n : Nat) (rs : List Op17R) : Prop := rs.length = n ∧ (0 < n → ∃ b o, A = some ⟨b, o, none⟩ ∧ b < W.heap.size ∧ ∀ k r, rs[k]? = some r → r.ok W ∧ ∀ j v, r.cells[j]? = some v → W.cell? ⟨b, o + k * 20 + j, none⟩ = some v)
set_option maxHeartbeats 1000000 in
theorem op17s_of {H : Type} {enc : TypeId × Value → H} {W : World} {cs : List Value} {fuel : Nat} {x : DataW H × List MemPlace}
    (h : DataW.trod enc Tryd.prog W 0 (fun _ => true) true fuel 22 cs = some x) (hs : Small 22 x.1) : ∃ A n c rs, cs = [.slice A n c] ∧ Op17Rows W A n rs ∧ n ≤ c ∧ c ≤ maxLen := by
  have zc : Tryd.prog.cellsOf 36 = 20 := by kernel_rfl
  rcases Go.Deep.open_slice Tryd.underlying22 h with ⟨rfl, _⟩ | ⟨a, len, cap, m, n, D, Pl, rfl, hb, hl, hm, hmm, rfl, hel⟩
  · exact ⟨none, 0, 0, [], rfl, ⟨rfl, fun h => absurd h (by omega)⟩, Nat.le_refl _, Nat.zero_le _⟩
  · have each : ∀ i, i < len → ∃ r : Op17R, r.ok W ∧ ∀ j v, r.cells[j]? = some v → W.cell? ((a.add (i * 20)).add j) = some v := fun i hi => by
      obtain ⟨cs', hcs, ht⟩ := hel i (by rw [hmm]; simp; omega)
      rw [zc] at hcs
      obtain ⟨_, hln, hcell⟩ := World.cells?_some hcs
      obtain ⟨a0, a1, a2, a3, a4, a5, a6, a7, a8, a9, a10, a11, a12, a13, a14, a15, a16, a17, a18, a19, rfl, p0, p1, dd⟩ := op17_cells ht
      have sm := small_elem Tryd.underlying22 hs (d := D i) (List.mem_map.2 ⟨i, List.mem_range.2 hi, rfl⟩)
      simp only at dd
      rw [dd] at sm
      refine ⟨⟨a0, a1, a2, a3, a4, a5, a6, a7, a8, a9, a10, a11, a12, a13, a14, a15, a16, a17, a18, a19⟩, ?_, fun j v hj => ?_⟩
      · exact ⟨p0, p1, op17_small sm⟩
      · have hj' : j < 20 := by
          rcases Nat.lt_or_ge j 20 with q | q
          · exact q
          · rw [List.getElem?_eq_none (by simpa [Op17R.cells] using q)] at hj; cases hj
        rw [hcell j hj']
        exact hj
    refine ⟨some a, len, cap, List.ofFn fun i : Fin len => Classical.choose (each i.1 i.2), rfl, ⟨by simp, fun h0 => ?_⟩, hl, hm⟩
    obtain ⟨r0, _, hc0⟩ := each 0 h0
    have c0 := hc0 0 _ rfl
    have hsp : a.spot = none := by simpa [Addr.add] using World.cell?_spot c0
    obtain ⟨b, o, sp⟩ := a
    simp only at hsp
    subst hsp
    refine ⟨b, o, rfl, ?_, fun k r hk => ?_⟩
    · rw [Mem.add_plain, Mem.add_plain] at c0
      exact World.block_lt_of_cell? W _ c0
    · rw [List.getElem?_ofFn] at hk
      split at hk
      · next hk' =>
        have e := Option.some.inj hk
        have q := Classical.choose_spec (each k hk')
        rw [← e]
        refine ⟨q.1, fun j v hj => ?_⟩
        have := q.2 j v hj
        rw [Mem.add_plain, Mem.add_plain] at this
        exact this
      · cases hk

/-- An element of a slice of Life. -/
structure LifeR where
  x0 : Int
  x1 : ByteArray
  x2 : ByteArray
  x3 : ByteArray
  x4 : Bool
  x5 : Int
  x6 : Int
  x7 : Bool
  x8 : Int
  x9 : Int
  x10 : Int
  x11 : Int
def LifeR.cells (r : LifeR) : List Value := [.int .i64 r.x0, .string r.x1, .string r.x2, .string r.x3, .bool r.x4, .int .i64 r.x5, .int .i64 r.x6, .bool r.x7, .int .i64 r.x8, .int .i64 r.x9, .int .i64 r.x10, .int .i64 r.x11]
def LifeR.ok (W : World) (r : LifeR) : Prop := r.x1.size ≤ 140737488355328 ∧ r.x2.size ≤ 140737488355328 ∧ r.x3.size ≤ 140737488355328
def LifeRows (W : World) (A : Option Addr) (n : Nat) (rs : List LifeR) : Prop := rs.length = n ∧ (0 < n → ∃ b o, A = some ⟨b, o, none⟩ ∧ b < W.heap.size ∧ ∀ k r, rs[k]? = some r → r.ok W ∧ ∀ j v, r.cells[j]? = some v → W.cell? ⟨b, o + k * 12 + j, none⟩ = some v)
set_option maxHeartbeats 1000000 in
theorem lifes_of {H : Type} {enc : TypeId × Value → H} {W : World} {cs : List Value} {fuel : Nat} {x : DataW H × List MemPlace}
    (h : DataW.trod enc Tryd.prog W 0 (fun _ => true) true fuel 39 cs = some x) (hs : Small 39 x.1) : ∃ A n c rs, cs = [.slice A n c] ∧ LifeRows W A n rs ∧ n ≤ c ∧ c ≤ maxLen := by
  have zc : Tryd.prog.cellsOf 34 = 12 := by kernel_rfl
  rcases Go.Deep.open_slice Tryd.underlying39 h with ⟨rfl, _⟩ | ⟨a, len, cap, m, n, D, Pl, rfl, hb, hl, hm, hmm, rfl, hel⟩
  · exact ⟨none, 0, 0, [], rfl, ⟨rfl, fun h => absurd h (by omega)⟩, Nat.le_refl _, Nat.zero_le _⟩
  · have each : ∀ i, i < len → ∃ r : LifeR, r.ok W ∧ ∀ j v, r.cells[j]? = some v → W.cell? ((a.add (i * 12)).add j) = some v := fun i hi => by
      obtain ⟨cs', hcs, ht⟩ := hel i (by rw [hmm]; simp; omega)
      rw [zc] at hcs
      obtain ⟨_, hln, hcell⟩ := World.cells?_some hcs
      obtain ⟨a0, a1, a2, a3, a4, a5, a6, a7, a8, a9, a10, a11, rfl, dd⟩ := life_cells ht
      have sm := small_elem Tryd.underlying39 hs (d := D i) (List.mem_map.2 ⟨i, List.mem_range.2 hi, rfl⟩)
      simp only at dd
      rw [dd] at sm
      refine ⟨⟨a0, a1, a2, a3, a4, a5, a6, a7, a8, a9, a10, a11⟩, ?_, fun j v hj => ?_⟩
      · exact life_small sm
      · have hj' : j < 12 := by
          rcases Nat.lt_or_ge j 12 with q | q
          · exact q
          · rw [List.getElem?_eq_none (by simpa [LifeR.cells] using q)] at hj; cases hj
        rw [hcell j hj']
        exact hj
    refine ⟨some a, len, cap, List.ofFn fun i : Fin len => Classical.choose (each i.1 i.2), rfl, ⟨by simp, fun h0 => ?_⟩, hl, hm⟩
    obtain ⟨r0, _, hc0⟩ := each 0 h0
    have c0 := hc0 0 _ rfl
    have hsp : a.spot = none := by simpa [Addr.add] using World.cell?_spot c0
    obtain ⟨b, o, sp⟩ := a
    simp only at hsp
    subst hsp
    refine ⟨b, o, rfl, ?_, fun k r hk => ?_⟩
    · rw [Mem.add_plain, Mem.add_plain] at c0
      exact World.block_lt_of_cell? W _ c0
    · rw [List.getElem?_ofFn] at hk
      split at hk
      · next hk' =>
        have e := Option.some.inj hk
        have q := Classical.choose_spec (each k hk')
        rw [← e]
        refine ⟨q.1, fun j v hj => ?_⟩
        have := q.2 j v hj
        rw [Mem.add_plain, Mem.add_plain] at this
        exact this
      · cases hk
end Go.Proofs.YtppnkkpjfjhfkaaDoor.ArgT

