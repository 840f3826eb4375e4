/- Arguments that are structs of structs, and slices of such, opened. -/
import Derived.Test.YtnpggkpcadefjaaDoorArgs
import Derived.Deep.Slices
set_option linter.unusedVariables false
namespace Go.Proofs.YtnpggkpcadefjaaDoor.ArgT
open Go.ChangeShapes Go.WideShapes Go.ChangeAt Go.RowKit Go.Proofs.YtnpggkpcadefjaaDoor.Mem
open Go.ChangeMaps (open_string shut_string)
set_option maxRecDepth 100000

/-- What a value's data weighs is no more than a machine holds. -/
def Small {H : Type} (t : TypeId) (d : DataW H) : Prop := ∀ q, q ∈ DataW.weights Tryd.prog t d → q ≤ 140737488355328
theorem small_arg {H : Type} {ts : List TypeId} {ds : List (DataW H)} {t : TypeId} {d : DataW H} (h : (DataW.weightsEach Tryd.prog ts ds).all (· ≤ reachBytes) = true) (j : Nat) (ht : ts[j]? = some t) (hd : ds[j]? = some d) : Small t d := fun q hq => by
  have h1 := List.all_eq_true.1 h q (DataW.weights_mem_each ht hd q hq)
  exact Nat.le_trans (by simpa using h1) Args.reach_lt
theorem weightsAll_mem {H : Type} {P : Program} {e : TypeId} : ∀ {l : List (DataW H)} {d : DataW H}, d ∈ l → ∀ n ∈ d.weights P e, n ∈ DataW.weightsAll P e l
  | d' :: r, d, hd, n, hn => by
    simp only [DataW.weightsAll, List.mem_append]
    rcases List.mem_cons.1 hd with rfl | h
    · exact Or.inl hn
    · exact Or.inr (weightsAll_mem h n hn)
theorem small_elem {H : Type} {t e : TypeId} {es sp : List (DataW H)} (ht : Tryd.prog.underlying t = some (.slice e)) (h : Small t (.slice es sp)) {d : DataW H} (hd : d ∈ es) : Small e d := fun q hq => h q (by
  simp only [DataW.weights, ht, List.mem_cons, List.mem_append]
  exact .inr (.inl (weightsAll_mem hd q hq)))
theorem bytes_small {H : Type} {n : Nat} {d : DataW H} (h : Small 30 d) (hD : n = 0 ∨ ∃ es sp, d = .slice es sp ∧ es.length = n) : n ≤ 140737488355328 := by
  have hv := Tryd.underlying30
  have hb : Tryd.prog.bytesOf 5 = 1 := by kernel_rfl
  rcases hD with rfl | ⟨es, sp, rfl, rfl⟩
  · exact Nat.zero_le _
  · exact Nat.le_trans (Nat.le_add_right es.length sp.length) (h _ (by simp [DataW.weights, hv, hb]))

set_option maxHeartbeats 2000000 in
theorem ip4_cells {H : Type} {enc : TypeId × Value → H} {W : World} {fuel : Nat} {cs : List Value} {x : DataW H × List MemPlace}
    (h : DataW.trod enc Tryd.prog W 0 (fun _ => true) true fuel 32 cs = some x) : ∃ (x0 : Int) (x1 : Int) (x2 : Int) (x3 : Int) (x4 : Bool) (x5 : Bool) (x6 : Int) (x7 : ByteArray) (x8 : ByteArray) (x9 : ByteArray) (xA10 : Option Addr) (xn10 xc10 : Nat) (xl10 : List Int), cs = [.int .i64 x0, .int .i64 x1, .int .i64 x2, .int .i64 x3, .bool x4, .bool x5, .int .i64 x6, .string x7, .string x8, .string x9, .slice xA10 xn10 xc10] ∧ Holds W W.heap.size xA10 xn10 xc10 xl10 ∧ ∃ xD10, x.1 = .agg [.lit (.int .i64 x0), .lit (.int .i64 x1), .lit (.int .i64 x2), .lit (.int .i64 x3), .lit (.bool x4), .lit (.bool x5), .lit (.int .i64 x6), .lit (.string x7.data.toList), .lit (.string x8.data.toList), .lit (.string x9.data.toList), xD10] ∧ (xn10 = 0 ∨ ∃ es sp, xD10 = .slice es sp ∧ es.length = xn10) := by
  have zb : Tryd.prog.cellsOf 30 = 1 := by kernel_rfl
  have zi : Tryd.prog.cellsOf 3 = 1 := by kernel_rfl
  have zs : Tryd.prog.cellsOf 9 = 1 := by kernel_rfl
  have zt : Tryd.prog.cellsOf 4 = 1 := by kernel_rfl
  have hs := Tryd.underlying32
  obtain ⟨xs, m, _, hx, hsz, hlen, hg⟩ := DataW.trod_struct hs h
  match cs, hsz.trans (show Tryd.prog.cellsOf 32 = 11 by kernel_rfl), xs, hlen with
  | [g0, g1, g2, g3, g4, g5, g6, g7, g8, g9, g10], _, [y0, y1, y2, y3, y4, y5, y6, y7, y8, y9, y10], _ =>
    have t0 : DataW.trod enc Tryd.prog W 0 (fun _ => true) true m 3 [g0] = some y0 := by simpa [zb, zi, zs, zt] using hg 0 _ rfl
    obtain ⟨a0, e0, w0, q0⟩ := DataW.trod_int Tryd.underlying3 t0
    simp at e0
    subst e0
    have t1 : DataW.trod enc Tryd.prog W 0 (fun _ => true) true m 3 [g1] = some y1 := by simpa [zb, zi, zs, zt] using hg 1 _ rfl
    obtain ⟨a1, e1, w1, q1⟩ := DataW.trod_int Tryd.underlying3 t1
    simp at e1
    subst e1
    have t2 : DataW.trod enc Tryd.prog W 0 (fun _ => true) true m 3 [g2] = some y2 := by simpa [zb, zi, zs, zt] using hg 2 _ rfl
    obtain ⟨a2, e2, w2, q2⟩ := DataW.trod_int Tryd.underlying3 t2
    simp at e2
    subst e2
    have t3 : DataW.trod enc Tryd.prog W 0 (fun _ => true) true m 3 [g3] = some y3 := by simpa [zb, zi, zs, zt] using hg 3 _ rfl
    obtain ⟨a3, e3, w3, q3⟩ := DataW.trod_int Tryd.underlying3 t3
    simp at e3
    subst e3
    have t4 : DataW.trod enc Tryd.prog W 0 (fun _ => true) true m 4 [g4] = some y4 := by simpa [zb, zi, zs, zt] using hg 4 _ rfl
    obtain ⟨a4, e4, w4⟩ := DataW.trod_bool Tryd.underlying4 t4
    simp at e4
    subst e4
    have t5 : DataW.trod enc Tryd.prog W 0 (fun _ => true) true m 4 [g5] = some y5 := by simpa [zb, zi, zs, zt] using hg 5 _ rfl
    obtain ⟨a5, e5, w5⟩ := DataW.trod_bool Tryd.underlying4 t5
    simp at e5
    subst e5
    have t6 : DataW.trod enc Tryd.prog W 0 (fun _ => true) true m 3 [g6] = some y6 := by simpa [zb, zi, zs, zt] using hg 6 _ rfl
    obtain ⟨a6, e6, w6, q6⟩ := DataW.trod_int Tryd.underlying3 t6
    simp at e6
    subst e6
    have t7 : DataW.trod enc Tryd.prog W 0 (fun _ => true) true m 9 [g7] = some y7 := by simpa [zb, zi, zs, zt] using hg 7 _ rfl
    obtain ⟨a7, e7, w7, q7⟩ := DataW.trod_string Tryd.underlying9 t7
    simp at e7
    subst e7
    have t8 : DataW.trod enc Tryd.prog W 0 (fun _ => true) true m 9 [g8] = some y8 := by simpa [zb, zi, zs, zt] using hg 8 _ rfl
    obtain ⟨a8, e8, w8, q8⟩ := DataW.trod_string Tryd.underlying9 t8
    simp at e8
    subst e8
    have t9 : DataW.trod enc Tryd.prog W 0 (fun _ => true) true m 9 [g9] = some y9 := by simpa [zb, zi, zs, zt] using hg 9 _ rfl
    obtain ⟨a9, e9, w9, q9⟩ := DataW.trod_string Tryd.underlying9 t9
    simp at e9
    subst e9
    have t10 : DataW.trod enc Tryd.prog W 0 (fun _ => true) true m 30 [g10] = some y10 := by simpa [zb, zi, zs, zt] using hg 10 _ rfl
    obtain ⟨aA10, an10, ac10, al10, e10, p10, dp10⟩ := Args.bytes_of t10
    simp at e10
    subst e10
    exact ⟨a0, a1, a2, a3, a4, a5, a6, a7, a8, a9, aA10, an10, ac10, al10, rfl, p10, y10.1, by
      rw [hx]
      simp [w0, w1, w2, w3, w4, w5, w6, w7, w8, w9], dp10⟩
theorem ip4_val {H : Type} {enc : TypeId × Value → H} {W : World} {r : Reach} {b0 : Nat} {v : Value} {dd : DataW H} {pp : List MemPlace}
    (hv : Value.okWide Tryd.prog W r b0 32 v) (h : DataW.Trod enc Tryd.prog W 0 (fun _ => true) true 32 v dd pp) :
    ∃ (x0 : Int) (x1 : Int) (x2 : Int) (x3 : Int) (x4 : Bool) (x5 : Bool) (x6 : Int) (x7 : ByteArray) (x8 : ByteArray) (x9 : ByteArray) (xA10 : Option Addr) (xn10 xc10 : Nat) (xl10 : List Int), v = .agg #[.int .i64 x0, .int .i64 x1, .int .i64 x2, .int .i64 x3, .bool x4, .bool x5, .int .i64 x6, .string x7, .string x8, .string x9, .slice xA10 xn10 xc10] ∧ Holds W W.heap.size xA10 xn10 xc10 xl10 ∧ ∃ xD10, dd = .agg [.lit (.int .i64 x0), .lit (.int .i64 x1), .lit (.int .i64 x2), .lit (.int .i64 x3), .lit (.bool x4), .lit (.bool x5), .lit (.int .i64 x6), .lit (.string x7.data.toList), .lit (.string x8.data.toList), .lit (.string x9.data.toList), xD10] ∧ (xn10 = 0 ∨ ∃ es sp, xD10 = .slice es sp ∧ es.length = xn10) := by
  obtain ⟨⟨cs⟩, rfl, hsz⟩ := okWide_struct Tryd.underlying32 hv
  obtain ⟨fuel, hf⟩ := h
  obtain ⟨a0, a1, a2, a3, a4, a5, a6, a7, a8, a9, aA10, an10, ac10, al10, e, rest⟩ := ip4_cells hf
  simp only [Value.cells] at e
  subst e
  exact ⟨a0, a1, a2, a3, a4, a5, a6, a7, a8, a9, aA10, an10, ac10, al10, rfl, rest⟩
set_option maxHeartbeats 1000000 in
theorem ip4_small {H : Type} {x0 : Int} {x1 : Int} {x2 : Int} {x3 : Int} {x4 : Bool} {x5 : Bool} {x6 : Int} {x7 : ByteArray} {x8 : ByteArray} {x9 : ByteArray} {xn10 : Nat} {xD10 : DataW H} (h : Small (H := H) 32 (.agg [.lit (.int .i64 x0), .lit (.int .i64 x1), .lit (.int .i64 x2), .lit (.int .i64 x3), .lit (.bool x4), .lit (.bool x5), .lit (.int .i64 x6), .lit (.string x7.data.toList), .lit (.string x8.data.toList), .lit (.string x9.data.toList), xD10])) (dp10 : xn10 = 0 ∨ ∃ es sp, xD10 = .slice es sp ∧ es.length = xn10) : x7.size ≤ 140737488355328 ∧ x8.size ≤ 140737488355328 ∧ x9.size ≤ 140737488355328 ∧ xn10 ≤ 140737488355328 := by
  have hu := Tryd.underlying32
  refine ⟨?_, ?_, ?_, ?_⟩
  · rw [Lib.size_eq]; exact h _ (by simp [DataW.weights, DataW.weightsEach, hu])
  · rw [Lib.size_eq]; exact h _ (by simp [DataW.weights, DataW.weightsEach, hu])
  · rw [Lib.size_eq]; exact h _ (by simp [DataW.weights, DataW.weightsEach, hu])
  · exact bytes_small (fun q hq => h q (by simp [DataW.weights, DataW.weightsEach, hu, hq])) dp10

set_option maxHeartbeats 2000000 in
theorem op20_cells {H : Type} {enc : TypeId × Value → H} {W : World} {fuel : Nat} {cs : List Value} {x : DataW H × List MemPlace}
    (h : DataW.trod enc Tryd.prog W 0 (fun _ => true) true fuel 34 cs = some x) : ∃ (x0 : Int) (x1 : Bool) (x2 : Int) (x3 : Int) (x4 : Int) (x5 : Int) (x6 : Bool) (x7 : Bool) (x8 : Int) (x9 : ByteArray) (x10 : ByteArray) (x11 : ByteArray) (xA12 : Option Addr) (xn12 xc12 : Nat) (xl12 : List Int), cs = [.int .i64 x0, .bool x1, .int .i64 x2, .int .i64 x3, .int .i64 x4, .int .i64 x5, .bool x6, .bool x7, .int .i64 x8, .string x9, .string x10, .string x11, .slice xA12 xn12 xc12] ∧ (-9223372036854775808 ≤ x0 ∧ x0 ≤ 9223372036854775807) ∧ Holds W W.heap.size xA12 xn12 xc12 xl12 ∧ ∃ xD12, x.1 = .agg [.lit (.int .i64 x0), .lit (.bool x1), .agg [.lit (.int .i64 x2), .lit (.int .i64 x3), .lit (.int .i64 x4), .lit (.int .i64 x5), .lit (.bool x6), .lit (.bool x7), .lit (.int .i64 x8), .lit (.string x9.data.toList), .lit (.string x10.data.toList), .lit (.string x11.data.toList), xD12]] ∧ (xn12 = 0 ∨ ∃ es sp, xD12 = .slice es sp ∧ es.length = xn12) := by
  have zj : Tryd.prog.cellsOf 3 = 1 := by kernel_rfl
  have zt : Tryd.prog.cellsOf 4 = 1 := by kernel_rfl
  have zIp4 : Tryd.prog.cellsOf 32 = 11 := by kernel_rfl
  have hs := Tryd.underlying34
  obtain ⟨xs, m, _, hx, hsz, hlen, hg⟩ := DataW.trod_struct hs h
  match cs, hsz.trans (show Tryd.prog.cellsOf 34 = 13 by kernel_rfl), xs, hlen with
  | [g0, g1, g2, g3, g4, g5, g6, g7, g8, g9, g10, g11, g12], _, [y0, y1, y2], _ =>
    have t0 : DataW.trod enc Tryd.prog W 0 (fun _ => true) true m 3 [g0] = some y0 := by simpa [zj, zt, zIp4] using hg 0 _ rfl
    obtain ⟨a0, e0, w0, q0⟩ := DataW.trod_int Tryd.underlying3 t0
    simp at e0
    subst e0
    have p0 : (-9223372036854775808 ≤ a0 ∧ a0 ≤ 9223372036854775807) := by have h := q0; simp only [Lit.wf, Bool.and_eq_true, decide_eq_true_eq] at h; exact h
    have t1 : DataW.trod enc Tryd.prog W 0 (fun _ => true) true m 4 [g1] = some y1 := by simpa [zj, zt, zIp4] using hg 1 _ rfl
    obtain ⟨a1, e1, w1⟩ := DataW.trod_bool Tryd.underlying4 t1
    simp at e1
    subst e1
    have t2 : DataW.trod enc Tryd.prog W 0 (fun _ => true) true m 32 [g2, g3, g4, g5, g6, g7, g8, g9, g10, g11, g12] = some y2 := by simpa [zj, zt, zIp4] using hg 2 _ rfl
    obtain ⟨a2, a3, a4, a5, a6, a7, a8, a9, a10, a11, aA12, an12, ac12, al12, e2, p12, aD12, w2, dp12⟩ := ip4_cells t2
    simp only [List.cons.injEq, and_true] at e2
    obtain ⟨rfl, rfl, rfl, rfl, rfl, rfl, rfl, rfl, rfl, rfl, rfl⟩ := e2
    exact ⟨a0, a1, a2, a3, a4, a5, a6, a7, a8, a9, a10, a11, aA12, an12, ac12, al12, rfl, p0, p12, aD12, by
      rw [hx]
      simp [w0, w1, w2], dp12⟩
theorem op20_val {H : Type} {enc : TypeId × Value → H} {W : World} {r : Reach} {b0 : Nat} {v : Value} {dd : DataW H} {pp : List MemPlace}
    (hv : Value.okWide Tryd.prog W r b0 34 v) (h : DataW.Trod enc Tryd.prog W 0 (fun _ => true) true 34 v dd pp) :
    ∃ (x0 : Int) (x1 : Bool) (x2 : Int) (x3 : Int) (x4 : Int) (x5 : Int) (x6 : Bool) (x7 : Bool) (x8 : Int) (x9 : ByteArray) (x10 : ByteArray) (x11 : ByteArray) (xA12 : Option Addr) (xn12 xc12 : Nat) (xl12 : List Int), v = .agg #[.int .i64 x0, .bool x1, .int .i64 x2, .int .i64 x3, .int .i64 x4, .int .i64 x5, .bool x6, .bool x7, .int .i64 x8, .string x9, .string x10, .string x11, .slice xA12 xn12 xc12] ∧ (-9223372036854775808 ≤ x0 ∧ x0 ≤ 9223372036854775807) ∧ Holds W W.heap.size xA12 xn12 xc12 xl12 ∧ ∃ xD12, dd = .agg [.lit (.int .i64 x0), .lit (.bool x1), .agg [.lit (.int .i64 x2), .lit (.int .i64 x3), .lit (.int .i64 x4), .lit (.int .i64 x5), .lit (.bool x6), .lit (.bool x7), .lit (.int .i64 x8), .lit (.string x9.data.toList), .lit (.string x10.data.toList), .lit (.string x11.data.toList), xD12]] ∧ (xn12 = 0 ∨ ∃ es sp, xD12 = .slice es sp ∧ es.length = xn12) := by
  obtain ⟨⟨cs⟩, rfl, hsz⟩ := okWide_struct Tryd.underlying34 hv
  obtain ⟨fuel, hf⟩ := h
  obtain ⟨a0, a1, a2, a3, a4, a5, a6, a7, a8, a9, a10, a11, aA12, an12, ac12, al12, e, rest⟩ := op20_cells hf
  simp only [Value.cells] at e
  subst e
  exact ⟨a0, a1, a2, a3, a4, a5, a6, a7, a8, a9, a10, a11, aA12, an12, ac12, al12, rfl, rest⟩
set_option maxHeartbeats 1000000 in
theorem op20_small {H : Type} {x0 : Int} {x1 : Bool} {x2 : Int} {x3 : Int} {x4 : Int} {x5 : Int} {x6 : Bool} {x7 : Bool} {x8 : Int} {x9 : ByteArray} {x10 : ByteArray} {x11 : ByteArray} {xn12 : Nat} {xD12 : DataW H} (h : Small (H := H) 34 (.agg [.lit (.int .i64 x0), .lit (.bool x1), .agg [.lit (.int .i64 x2), .lit (.int .i64 x3), .lit (.int .i64 x4), .lit (.int .i64 x5), .lit (.bool x6), .lit (.bool x7), .lit (.int .i64 x8), .lit (.string x9.data.toList), .lit (.string x10.data.toList), .lit (.string x11.data.toList), xD12]])) (dp12 : xn12 = 0 ∨ ∃ es sp, xD12 = .slice es sp ∧ es.length = xn12) : x9.size ≤ 140737488355328 ∧ x10.size ≤ 140737488355328 ∧ x11.size ≤ 140737488355328 ∧ xn12 ≤ 140737488355328 := by
  have hu := Tryd.underlying34
  have huIp4 := Tryd.underlying32
  refine ⟨?_, ?_, ?_, ?_⟩
  · rw [Lib.size_eq]; exact h _ (by simp [DataW.weights, DataW.weightsEach, hu, huIp4])
  · rw [Lib.size_eq]; exact h _ (by simp [DataW.weights, DataW.weightsEach, hu, huIp4])
  · rw [Lib.size_eq]; exact h _ (by simp [DataW.weights, DataW.weightsEach, hu, huIp4])
  · exact bytes_small (fun q hq => h q (by simp [DataW.weights, DataW.weightsEach, hu, huIp4, hq])) dp12

/-- An element of a slice of Op20. -/
structure Op20R where
  x0 : Int
  x1 : Bool
  x2 : Int
  x3 : Int
  x4 : Int
  x5 : Int
  x6 : Bool
  x7 : Bool
  x8 : Int
  x9 : ByteArray
  x10 : ByteArray
  x11 : ByteArray
  xA12 : Option Addr
  xn12 : Nat
  xc12 : Nat
  xl12 : List Int
def Op20R.cells (r : Op20R) : List Value := [.int .i64 r.x0, .bool r.x1, .int .i64 r.x2, .int .i64 r.x3, .int .i64 r.x4, .int .i64 r.x5, .bool r.x6, .bool r.x7, .int .i64 r.x8, .string r.x9, .string r.x10, .string r.x11, .slice r.xA12 r.xn12 r.xc12]
def Op20R.ok (W : World) (r : Op20R) : Prop := (-9223372036854775808 ≤ r.x0 ∧ r.x0 ≤ 9223372036854775807) ∧ Holds W W.heap.size r.xA12 r.xn12 r.xc12 r.xl12 ∧ r.x9.size ≤ 140737488355328 ∧ r.x10.size ≤ 140737488355328 ∧ r.x11.size ≤ 140737488355328 ∧ r.xn12 ≤ 140737488355328
def Op20Rows (W : World) (A : Option Addr) (n : Nat) (rs : List Op20R) : Prop := rs.length = n ∧ (0 < n → ∃ b o, A = some ⟨b, o, none⟩ ∧ b < W.heap.size ∧ ∀ k r, rs[k]? = some r → r.ok W ∧ ∀ j v, r.cells[j]? = some v → W.cell? ⟨b, o + k * 13 + j, none⟩ = some v)
set_option maxHeartbeats 1000000 in
theorem op20s_of {H : Type} {enc : TypeId × Value → H} {W : World} {cs : List Value} {fuel : Nat} {x : DataW H × List MemPlace}
    (h : DataW.trod enc Tryd.prog W 0 (fun _ => true) true fuel 22 cs = some x) (hs : Small 22 x.1) : ∃ A n c rs, cs = [.slice A n c] ∧ Op20Rows W A n rs ∧ n ≤ c ∧ c ≤ maxLen := by
  have zc : Tryd.prog.cellsOf 34 = 13 := by kernel_rfl
  rcases Go.Deep.open_slice Tryd.underlying22 h with ⟨rfl, _⟩ | ⟨a, len, cap, m, n, D, Pl, rfl, hb, hl, hm, hmm, rfl, hel⟩
  · exact ⟨none, 0, 0, [], rfl, ⟨rfl, fun h => absurd h (by omega)⟩, Nat.le_refl _, Nat.zero_le _⟩
  · have each : ∀ i, i < len → ∃ r : Op20R, r.ok W ∧ ∀ j v, r.cells[j]? = some v → W.cell? ((a.add (i * 13)).add j) = some v := fun i hi => by
      obtain ⟨cs', hcs, ht⟩ := hel i (by rw [hmm]; simp; omega)
      rw [zc] at hcs
      obtain ⟨_, hln, hcell⟩ := World.cells?_some hcs
      obtain ⟨a0, a1, a2, a3, a4, a5, a6, a7, a8, a9, a10, a11, aA12, an12, ac12, al12, rfl, p0, p1, aD12, dd, dp12⟩ := op20_cells ht
      have sm := small_elem Tryd.underlying22 hs (d := D i) (List.mem_map.2 ⟨i, List.mem_range.2 hi, rfl⟩)
      simp only at dd
      rw [dd] at sm
      refine ⟨⟨a0, a1, a2, a3, a4, a5, a6, a7, a8, a9, a10, a11, aA12, an12, ac12, al12⟩, ?_, fun j v hj => ?_⟩
      · exact ⟨p0, p1, op20_small sm dp12⟩
      · have hj' : j < 13 := by
          rcases Nat.lt_or_ge j 13 with q | q
          · exact q
          · rw [List.getElem?_eq_none (by simpa [Op20R.cells] using q)] at hj; cases hj
        rw [hcell j hj']
        exact hj
    refine ⟨some a, len, cap, List.ofFn fun i : Fin len => Classical.choose (each i.1 i.2), rfl, ⟨by simp, fun h0 => ?_⟩, hl, hm⟩
    obtain ⟨r0, _, hc0⟩ := each 0 h0
    have c0 := hc0 0 _ rfl
    have hsp : a.spot = none := by simpa [Addr.add] using World.cell?_spot c0
    obtain ⟨b, o, sp⟩ := a
    simp only at hsp
    subst hsp
    refine ⟨b, o, rfl, ?_, fun k r hk => ?_⟩
    · rw [Mem.add_plain, Mem.add_plain] at c0
      exact World.block_lt_of_cell? W _ c0
    · rw [List.getElem?_ofFn] at hk
      split at hk
      · next hk' =>
        have e := Option.some.inj hk
        have q := Classical.choose_spec (each k hk')
        rw [← e]
        refine ⟨q.1, fun j v hj => ?_⟩
        have := q.2 j v hj
        rw [Mem.add_plain, Mem.add_plain] at this
        exact this
      · cases hk
end Go.Proofs.YtnpggkpcadefjaaDoor.ArgT
