/- Arguments that are structs of structs, and slices of such, opened. -/
import Derived.Test.YtnabjhdamofpgaaArgs
import Derived.Deep.Slices
set_option linter.unusedVariables false
namespace Go.Proofs.Ytnabjhdamofpgaa.ArgT
open Go.ChangeShapes Go.WideShapes Go.ChangeAt Go.RowKit Go.Proofs.Ytnabjhdamofpgaa.Mem
open Go.ChangeMaps (open_string shut_string)
set_option maxRecDepth 100000

/-- What a value's data weighs is no more than a machine holds. -/
def Small {H : Type} (t : TypeId) (d : DataW H) : Prop := ∀ q, q ∈ DataW.weights Try.prog t d → q ≤ 140737488355328
theorem small_arg {H : Type} {ts : List TypeId} {ds : List (DataW H)} {t : TypeId} {d : DataW H} (h : (DataW.weightsEach Try.prog ts ds).all (· ≤ reachBytes) = true) (j : Nat) (ht : ts[j]? = some t) (hd : ds[j]? = some d) : Small t d := fun q hq => by
  have h1 := List.all_eq_true.1 h q (DataW.weights_mem_each ht hd q hq)
  exact Nat.le_trans (by simpa using h1) Args.reach_lt
theorem weightsAll_mem {H : Type} {P : Program} {e : TypeId} : ∀ {l : List (DataW H)} {d : DataW H}, d ∈ l → ∀ n ∈ d.weights P e, n ∈ DataW.weightsAll P e l
  | d' :: r, d, hd, n, hn => by
    simp only [DataW.weightsAll, List.mem_append]
    rcases List.mem_cons.1 hd with rfl | h
    · exact Or.inl hn
    · exact Or.inr (weightsAll_mem h n hn)
theorem small_elem {H : Type} {t e : TypeId} {es sp : List (DataW H)} (ht : Try.prog.underlying t = some (.slice e)) (h : Small t (.slice es sp)) {d : DataW H} (hd : d ∈ es) : Small e d := fun q hq => h q (by
  simp only [DataW.weights, ht, List.mem_cons, List.mem_append]
  exact .inr (.inl (weightsAll_mem hd q hq)))

set_option maxHeartbeats 2000000 in
theorem prefix_cells {H : Type} {enc : TypeId × Value → H} {W : World} {fuel : Nat} {cs : List Value} {x : DataW H × List MemPlace}
    (h : DataW.trod enc Try.prog W 0 (fun _ => true) true fuel 31 cs = some x) : ∃ (x0 : ByteArray) (x1 : Int), cs = [.string x0, .int .i64 x1] ∧ x.1 = .agg [.lit (.string x0.data.toList), .lit (.int .i64 x1)] := by
  have zi : Try.prog.cellsOf 3 = 1 := by kernel_rfl
  have zs : Try.prog.cellsOf 9 = 1 := by kernel_rfl
  have hs := Try.underlying31
  obtain ⟨xs, m, _, hx, hsz, hlen, hg⟩ := DataW.trod_struct hs h
  match cs, hsz.trans (show Try.prog.cellsOf 31 = 2 by kernel_rfl), xs, hlen with
  | [g0, g1], _, [y0, y1], _ =>
    have t0 : DataW.trod enc Try.prog W 0 (fun _ => true) true m 9 [g0] = some y0 := by simpa [zi, zs] using hg 0 _ rfl
    obtain ⟨a0, e0, w0, q0⟩ := DataW.trod_string Try.underlying9 t0
    simp at e0
    subst e0
    have t1 : DataW.trod enc Try.prog W 0 (fun _ => true) true m 3 [g1] = some y1 := by simpa [zi, zs] using hg 1 _ rfl
    obtain ⟨a1, e1, w1, q1⟩ := DataW.trod_int Try.underlying3 t1
    simp at e1
    subst e1
    exact ⟨a0, a1, rfl, by
      rw [hx]
      simp [w0, w1]⟩
theorem prefix_val {H : Type} {enc : TypeId × Value → H} {W : World} {r : Reach} {b0 : Nat} {v : Value} {dd : DataW H} {pp : List MemPlace}
    (hv : Value.okWide Try.prog W r b0 31 v) (h : DataW.Trod enc Try.prog W 0 (fun _ => true) true 31 v dd pp) :
    ∃ (x0 : ByteArray) (x1 : Int), v = .agg #[.string x0, .int .i64 x1] ∧ dd = .agg [.lit (.string x0.data.toList), .lit (.int .i64 x1)] := by
  obtain ⟨⟨cs⟩, rfl, hsz⟩ := okWide_struct Try.underlying31 hv
  obtain ⟨fuel, hf⟩ := h
  obtain ⟨a0, a1, e, rest⟩ := prefix_cells hf
  simp only [Value.cells] at e
  subst e
  exact ⟨a0, a1, rfl, rest⟩
set_option maxHeartbeats 1000000 in
theorem prefix_small {H : Type} {x0 : ByteArray} {x1 : Int}  (h : Small (H := H) 31 (.agg [.lit (.string x0.data.toList), .lit (.int .i64 x1)]))  : x0.size ≤ 140737488355328 := by
  have hu := Try.underlying31
  rw [Lib.size_eq]; exact h _ (by simp [DataW.weights, DataW.weightsEach, hu])

set_option maxHeartbeats 2000000 in
theorem route_cells {H : Type} {enc : TypeId × Value → H} {W : World} {fuel : Nat} {cs : List Value} {x : DataW H × List MemPlace}
    (h : DataW.trod enc Try.prog W 0 (fun _ => true) true fuel 33 cs = some x) : ∃ (x0 : ByteArray) (x1 : Int) (x2 : ByteArray) (x3 : Int), cs = [.string x0, .int .i64 x1, .string x2, .int .i64 x3] ∧ x.1 = .agg [.agg [.lit (.string x0.data.toList), .lit (.int .i64 x1)], .lit (.string x2.data.toList), .lit (.int .i64 x3)] := by
  have zi : Try.prog.cellsOf 3 = 1 := by kernel_rfl
  have zs : Try.prog.cellsOf 9 = 1 := by kernel_rfl
  have zPrefix : Try.prog.cellsOf 31 = 2 := by kernel_rfl
  have hs := Try.underlying33
  obtain ⟨xs, m, _, hx, hsz, hlen, hg⟩ := DataW.trod_struct hs h
  match cs, hsz.trans (show Try.prog.cellsOf 33 = 4 by kernel_rfl), xs, hlen with
  | [g0, g1, g2, g3], _, [y0, y1, y2], _ =>
    have t0 : DataW.trod enc Try.prog W 0 (fun _ => true) true m 31 [g0, g1] = some y0 := by simpa [zi, zs, zPrefix] using hg 0 _ rfl
    obtain ⟨a0, a1, e0, w0⟩ := prefix_cells t0
    simp only [List.cons.injEq, and_true] at e0
    obtain ⟨rfl, rfl⟩ := e0
    have t1 : DataW.trod enc Try.prog W 0 (fun _ => true) true m 9 [g2] = some y1 := by simpa [zi, zs, zPrefix] using hg 1 _ rfl
    obtain ⟨a2, e1, w1, q2⟩ := DataW.trod_string Try.underlying9 t1
    simp at e1
    subst e1
    have t2 : DataW.trod enc Try.prog W 0 (fun _ => true) true m 3 [g3] = some y2 := by simpa [zi, zs, zPrefix] using hg 2 _ rfl
    obtain ⟨a3, e2, w2, q3⟩ := DataW.trod_int Try.underlying3 t2
    simp at e2
    subst e2
    exact ⟨a0, a1, a2, a3, rfl, by
      rw [hx]
      simp [w0, w1, w2]⟩
theorem route_val {H : Type} {enc : TypeId × Value → H} {W : World} {r : Reach} {b0 : Nat} {v : Value} {dd : DataW H} {pp : List MemPlace}
    (hv : Value.okWide Try.prog W r b0 33 v) (h : DataW.Trod enc Try.prog W 0 (fun _ => true) true 33 v dd pp) :
    ∃ (x0 : ByteArray) (x1 : Int) (x2 : ByteArray) (x3 : Int), v = .agg #[.string x0, .int .i64 x1, .string x2, .int .i64 x3] ∧ dd = .agg [.agg [.lit (.string x0.data.toList), .lit (.int .i64 x1)], .lit (.string x2.data.toList), .lit (.int .i64 x3)] := by
  obtain ⟨⟨cs⟩, rfl, hsz⟩ := okWide_struct Try.underlying33 hv
  obtain ⟨fuel, hf⟩ := h
  obtain ⟨a0, a1, a2, a3, e, rest⟩ := route_cells hf
  simp only [Value.cells] at e
  subst e
  exact ⟨a0, a1, a2, a3, rfl, rest⟩
set_option maxHeartbeats 1000000 in
theorem route_small {H : Type} {x0 : ByteArray} {x1 : Int} {x2 : ByteArray} {x3 : Int}  (h : Small (H := H) 33 (.agg [.agg [.lit (.string x0.data.toList), .lit (.int .i64 x1)], .lit (.string x2.data.toList), .lit (.int .i64 x3)]))  : x0.size ≤ 140737488355328 ∧ x2.size ≤ 140737488355328 := by
  have hu := Try.underlying33
  have huPrefix := Try.underlying31
  refine ⟨?_, ?_⟩
  · rw [Lib.size_eq]; exact h _ (by simp [DataW.weights, DataW.weightsEach, hu, huPrefix])
  · rw [Lib.size_eq]; exact h _ (by simp [DataW.weights, DataW.weightsEach, hu, huPrefix])

set_option maxHeartbeats 2000000 in
theorem op18_cells {H : Type} {enc : TypeId × Value → H} {W : World} {fuel : Nat} {cs : List Value} {x : DataW H × List MemPlace}
    (h : DataW.trod enc Try.prog W 0 (fun _ => true) true fuel 35 cs = some x) : ∃ (x0 : Int) (x1 : ByteArray) (x2 : Int) (x3 : ByteArray) (x4 : Int) (x5 : ByteArray), cs = [.int .i64 x0, .string x1, .int .i64 x2, .string x3, .int .i64 x4, .string x5] ∧ x.1 = .agg [.lit (.int .i64 x0), .agg [.agg [.lit (.string x1.data.toList), .lit (.int .i64 x2)], .lit (.string x3.data.toList), .lit (.int .i64 x4)], .lit (.string x5.data.toList)] := by
  have zi : Try.prog.cellsOf 3 = 1 := by kernel_rfl
  have zs : Try.prog.cellsOf 9 = 1 := by kernel_rfl
  have zRoute : Try.prog.cellsOf 33 = 4 := by kernel_rfl
  have hs := Try.underlying35
  obtain ⟨xs, m, _, hx, hsz, hlen, hg⟩ := DataW.trod_struct hs h
  match cs, hsz.trans (show Try.prog.cellsOf 35 = 6 by kernel_rfl), xs, hlen with
  | [g0, g1, g2, g3, g4, g5], _, [y0, y1, y2], _ =>
    have t0 : DataW.trod enc Try.prog W 0 (fun _ => true) true m 3 [g0] = some y0 := by simpa [zi, zs, zRoute] using hg 0 _ rfl
    obtain ⟨a0, e0, w0, q0⟩ := DataW.trod_int Try.underlying3 t0
    simp at e0
    subst e0
    have t1 : DataW.trod enc Try.prog W 0 (fun _ => true) true m 33 [g1, g2, g3, g4] = some y1 := by simpa [zi, zs, zRoute] using hg 1 _ rfl
    obtain ⟨a1, a2, a3, a4, e1, w1⟩ := route_cells t1
    simp only [List.cons.injEq, and_true] at e1
    obtain ⟨rfl, rfl, rfl, rfl⟩ := e1
    have t2 : DataW.trod enc Try.prog W 0 (fun _ => true) true m 9 [g5] = some y2 := by simpa [zi, zs, zRoute] using hg 2 _ rfl
    obtain ⟨a5, e2, w2, q5⟩ := DataW.trod_string Try.underlying9 t2
    simp at e2
    subst e2
    exact ⟨a0, a1, a2, a3, a4, a5, rfl, by
      rw [hx]
      simp [w0, w1, w2]⟩
theorem op18_val {H : Type} {enc : TypeId × Value → H} {W : World} {r : Reach} {b0 : Nat} {v : Value} {dd : DataW H} {pp : List MemPlace}
    (hv : Value.okWide Try.prog W r b0 35 v) (h : DataW.Trod enc Try.prog W 0 (fun _ => true) true 35 v dd pp) :
    ∃ (x0 : Int) (x1 : ByteArray) (x2 : Int) (x3 : ByteArray) (x4 : Int) (x5 : ByteArray), v = .agg #[.int .i64 x0, .string x1, .int .i64 x2, .string x3, .int .i64 x4, .string x5] ∧ dd = .agg [.lit (.int .i64 x0), .agg [.agg [.lit (.string x1.data.toList), .lit (.int .i64 x2)], .lit (.string x3.data.toList), .lit (.int .i64 x4)], .lit (.string x5.data.toList)] := by
  obtain ⟨⟨cs⟩, rfl, hsz⟩ := okWide_struct Try.underlying35 hv
  obtain ⟨fuel, hf⟩ := h
  obtain ⟨a0, a1, a2, a3, a4, a5, e, rest⟩ := op18_cells hf
  simp only [Value.cells] at e
  subst e
  exact ⟨a0, a1, a2, a3, a4, a5, rfl, rest⟩
set_option maxHeartbeats 1000000 in
theorem op18_small {H : Type} {x0 : Int} {x1 : ByteArray} {x2 : Int} {x3 : ByteArray} {x4 : Int} {x5 : ByteArray}  (h : Small (H := H) 35 (.agg [.lit (.int .i64 x0), .agg [.agg [.lit (.string x1.data.toList), .lit (.int .i64 x2)], .lit (.string x3.data.toList), .lit (.int .i64 x4)], .lit (.string x5.data.toList)]))  : x1.size ≤ 140737488355328 ∧ x3.size ≤ 140737488355328 ∧ x5.size ≤ 140737488355328 := by
  have hu := Try.underlying35
  have huRoute := Try.underlying33
  have huPrefix := Try.underlying31
  refine ⟨?_, ?_, ?_⟩
  · rw [Lib.size_eq]; exact h _ (by simp [DataW.weights, DataW.weightsEach, hu, huRoute, huPrefix])
  · rw [Lib.size_eq]; exact h _ (by simp [DataW.weights, DataW.weightsEach, hu, huRoute, huPrefix])
  · rw [Lib.size_eq]; exact h _ (by simp [DataW.weights, DataW.weightsEach, hu, huRoute, huPrefix])

/-- An element of a slice of Op18. -/
structure Op18R where
  x0 : Int
  x1 : ByteArray
  x2 : Int
  x3 : ByteArray
  x4 : Int
  x5 : ByteArray
def Op18R.cells (r : Op18R) : List Value := [.int .i64 r.x0, .string r.x1, .int .i64 r.x2, .string r.x3, .int .i64 r.x4, .string r.x5]
def Op18R.ok (W : World) (r : Op18R) : Prop := r.x1.size ≤ 140737488355328 ∧ r.x3.size ≤ 140737488355328 ∧ r.x5.size ≤ 140737488355328
def Op18Rows (W : World) (A : Option Addr) (n : Nat) (rs : List Op18R) : Prop := rs.length = n ∧ (0 < n → ∃ b o, A = some ⟨b, o, none⟩ ∧ b < W.heap.size ∧ ∀ k r, rs[k]? = some r → r.ok W ∧ ∀ j v, r.cells[j]? = some v → W.cell? ⟨b, o + k * 6 + j, none⟩ = some v)
set_option maxHeartbeats 1000000 in
theorem op18s_of {H : Type} {enc : TypeId × Value → H} {W : World} {cs : List Value} {fuel : Nat} {x : DataW H × List MemPlace}
    (h : DataW.trod enc Try.prog W 0 (fun _ => true) true fuel 22 cs = some x) (hs : Small 22 x.1) : ∃ A n c rs, cs = [.slice A n c] ∧ Op18Rows W A n rs ∧ n ≤ c ∧ c ≤ maxLen := by
  have zc : Try.prog.cellsOf 35 = 6 := by kernel_rfl
  rcases Go.Deep.open_slice Try.underlying22 h with ⟨rfl, _⟩ | ⟨a, len, cap, m, n, D, Pl, rfl, hb, hl, hm, hmm, rfl, hel⟩
  · exact ⟨none, 0, 0, [], rfl, ⟨rfl, fun h => absurd h (by omega)⟩, Nat.le_refl _, Nat.zero_le _⟩
  · have each : ∀ i, i < len → ∃ r : Op18R, r.ok W ∧ ∀ j v, r.cells[j]? = some v → W.cell? ((a.add (i * 6)).add j) = some v := fun i hi => by
      obtain ⟨cs', hcs, ht⟩ := hel i (by rw [hmm]; simp; omega)
      rw [zc] at hcs
      obtain ⟨_, hln, hcell⟩ := World.cells?_some hcs
      obtain ⟨a0, a1, a2, a3, a4, a5, rfl, dd⟩ := op18_cells ht
      have sm := small_elem Try.underlying22 hs (d := D i) (List.mem_map.2 ⟨i, List.mem_range.2 hi, rfl⟩)
      simp only at dd
      rw [dd] at sm
      refine ⟨⟨a0, a1, a2, a3, a4, a5⟩, ?_, fun j v hj => ?_⟩
      · exact op18_small sm
      · have hj' : j < 6 := by
          rcases Nat.lt_or_ge j 6 with q | q
          · exact q
          · rw [List.getElem?_eq_none (by simpa [Op18R.cells] using q)] at hj; cases hj
        rw [hcell j hj']
        exact hj
    refine ⟨some a, len, cap, List.ofFn fun i : Fin len => Classical.choose (each i.1 i.2), rfl, ⟨by simp, fun h0 => ?_⟩, hl, hm⟩
    obtain ⟨r0, _, hc0⟩ := each 0 h0
    have c0 := hc0 0 _ rfl
    have hsp : a.spot = none := by simpa [Addr.add] using World.cell?_spot c0
    obtain ⟨b, o, sp⟩ := a
    simp only at hsp
    subst hsp
    refine ⟨b, o, rfl, ?_, fun k r hk => ?_⟩
    · rw [Mem.add_plain, Mem.add_plain] at c0
      exact World.block_lt_of_cell? W _ c0
    · rw [List.getElem?_ofFn] at hk
      split at hk
      · next hk' =>
        have e := Option.some.inj hk
        have q := Classical.choose_spec (each k hk')
        rw [← e]
        refine ⟨q.1, fun j v hj => ?_⟩
        have := q.2 j v hj
        rw [Mem.add_plain, Mem.add_plain] at this
        exact this
      · cases hk

/-- An element of a slice of Route. -/
structure RouteR where
  x0 : ByteArray
  x1 : Int
  x2 : ByteArray
  x3 : Int
def RouteR.cells (r : RouteR) : List Value := [.string r.x0, .int .i64 r.x1, .string r.x2, .int .i64 r.x3]
def RouteR.ok (W : World) (r : RouteR) : Prop := r.x0.size ≤ 140737488355328 ∧ r.x2.size ≤ 140737488355328
def RouteRows (W : World) (A : Option Addr) (n : Nat) (rs : List RouteR) : Prop := rs.length = n ∧ (0 < n → ∃ b o, A = some ⟨b, o, none⟩ ∧ b < W.heap.size ∧ ∀ k r, rs[k]? = some r → r.ok W ∧ ∀ j v, r.cells[j]? = some v → W.cell? ⟨b, o + k * 4 + j, none⟩ = some v)
set_option maxHeartbeats 1000000 in
theorem routes_of {H : Type} {enc : TypeId × Value → H} {W : World} {cs : List Value} {fuel : Nat} {x : DataW H × List MemPlace}
    (h : DataW.trod enc Try.prog W 0 (fun _ => true) true fuel 27 cs = some x) (hs : Small 27 x.1) : ∃ A n c rs, cs = [.slice A n c] ∧ RouteRows W A n rs ∧ n ≤ c ∧ c ≤ maxLen := by
  have zc : Try.prog.cellsOf 33 = 4 := by kernel_rfl
  rcases Go.Deep.open_slice Try.underlying27 h with ⟨rfl, _⟩ | ⟨a, len, cap, m, n, D, Pl, rfl, hb, hl, hm, hmm, rfl, hel⟩
  · exact ⟨none, 0, 0, [], rfl, ⟨rfl, fun h => absurd h (by omega)⟩, Nat.le_refl _, Nat.zero_le _⟩
  · have each : ∀ i, i < len → ∃ r : RouteR, r.ok W ∧ ∀ j v, r.cells[j]? = some v → W.cell? ((a.add (i * 4)).add j) = some v := fun i hi => by
      obtain ⟨cs', hcs, ht⟩ := hel i (by rw [hmm]; simp; omega)
      rw [zc] at hcs
      obtain ⟨_, hln, hcell⟩ := World.cells?_some hcs
      obtain ⟨a0, a1, a2, a3, rfl, dd⟩ := route_cells ht
      have sm := small_elem Try.underlying27 hs (d := D i) (List.mem_map.2 ⟨i, List.mem_range.2 hi, rfl⟩)
      simp only at dd
      rw [dd] at sm
      refine ⟨⟨a0, a1, a2, a3⟩, ?_, fun j v hj => ?_⟩
      · exact route_small sm
      · have hj' : j < 4 := by
          rcases Nat.lt_or_ge j 4 with q | q
          · exact q
          · rw [List.getElem?_eq_none (by simpa [RouteR.cells] using q)] at hj; cases hj
        rw [hcell j hj']
        exact hj
    refine ⟨some a, len, cap, List.ofFn fun i : Fin len => Classical.choose (each i.1 i.2), rfl, ⟨by simp, fun h0 => ?_⟩, hl, hm⟩
    obtain ⟨r0, _, hc0⟩ := each 0 h0
    have c0 := hc0 0 _ rfl
    have hsp : a.spot = none := by simpa [Addr.add] using World.cell?_spot c0
    obtain ⟨b, o, sp⟩ := a
    simp only at hsp
    subst hsp
    refine ⟨b, o, rfl, ?_, fun k r hk => ?_⟩
    · rw [Mem.add_plain, Mem.add_plain] at c0
      exact World.block_lt_of_cell? W _ c0
    · rw [List.getElem?_ofFn] at hk
      split at hk
      · next hk' =>
        have e := Option.some.inj hk
        have q := Classical.choose_spec (each k hk')
        rw [← e]
        refine ⟨q.1, fun j v hj => ?_⟩
        have := q.2 j v hj
        rw [Mem.add_plain, Mem.add_plain] at this
        exact this
      · cases hk
end Go.Proofs.Ytnabjhdamofpgaa.ArgT
