/- Arguments that are structs of structs, and slices of such, opened. -/
import Derived.Test.YtjeenmeoiidmnaaDoorArgs
import Derived.Deep.Slices
set_option linter.unusedVariables false
namespace Go.Proofs.YtjeenmeoiidmnaaDoor.ArgT
open Go.ChangeShapes Go.WideShapes Go.ChangeAt Go.RowKit Go.Proofs.YtjeenmeoiidmnaaDoor.Mem
open Go.ChangeMaps (open_string shut_string)
set_option maxRecDepth 100000

/-- What a value's data weighs is no more than a machine holds. -/
def Small {H : Type} (t : TypeId) (d : DataW H) : Prop := ∀ q, q ∈ DataW.weights Tryd.prog t d → q ≤ 140737488355328
theorem small_arg {H : Type} {ts : List TypeId} {ds : List (DataW H)} {t : TypeId} {d : DataW H} (h : (DataW.weightsEach Tryd.prog ts ds).all (· ≤ reachBytes) = true) (j : Nat) (ht : ts[j]? = some t) (hd : ds[j]? = some d) : Small t d := fun q hq => by
  have h1 := List.all_eq_true.1 h q (DataW.weights_mem_each ht hd q hq)
  exact Nat.le_trans (by simpa using h1) Args.reach_lt
theorem weightsAll_mem {H : Type} {P : Program} {e : TypeId} : ∀ {l : List (DataW H)} {d : DataW H}, d ∈ l → ∀ n ∈ d.weights P e, n ∈ DataW.weightsAll P e l
  | d' :: r, d, hd, n, hn => by
    simp only [DataW.weightsAll, List.mem_append]
    rcases List.mem_cons.1 hd with rfl | h
    · exact Or.inl hn
    · exact Or.inr (weightsAll_mem h n hn)
theorem small_elem {H : Type} {t e : TypeId} {es sp : List (DataW H)} (ht : Tryd.prog.underlying t = some (.slice e)) (h : Small t (.slice es sp)) {d : DataW H} (hd : d ∈ es) : Small e d := fun q hq => h q (by
  simp only [DataW.weights, ht, List.mem_cons, List.mem_append]
  exact .inr (.inl (weightsAll_mem hd q hq)))

set_option maxHeartbeats 2000000 in
theorem op21_cells {H : Type} {enc : TypeId × Value → H} {W : World} {fuel : Nat} {cs : List Value} {x : DataW H × List MemPlace}
    (h : DataW.trod enc Tryd.prog W 0 (fun _ => true) true fuel 31 cs = some x) : ∃ (x0 : Int) (x1 : Int) (x2 : ByteArray) (x3 : Bool), cs = [.int .i64 x0, .int .i64 x1, .string x2, .bool x3] ∧ x.1 = .agg [.lit (.int .i64 x0), .lit (.int .i64 x1), .lit (.string x2.data.toList), .lit (.bool x3)] := by
  have zi : Tryd.prog.cellsOf 3 = 1 := by kernel_rfl
  have zs : Tryd.prog.cellsOf 9 = 1 := by kernel_rfl
  have zt : Tryd.prog.cellsOf 4 = 1 := by kernel_rfl
  have hs := Tryd.underlying31
  obtain ⟨xs, m, _, hx, hsz, hlen, hg⟩ := DataW.trod_struct hs h
  match cs, hsz.trans (show Tryd.prog.cellsOf 31 = 4 by kernel_rfl), xs, hlen with
  | [g0, g1, g2, g3], _, [y0, y1, y2, y3], _ =>
    have t0 : DataW.trod enc Tryd.prog W 0 (fun _ => true) true m 3 [g0] = some y0 := by simpa [zi, zs, zt] using hg 0 _ rfl
    obtain ⟨a0, e0, w0, q0⟩ := DataW.trod_int Tryd.underlying3 t0
    simp at e0
    subst e0
    have t1 : DataW.trod enc Tryd.prog W 0 (fun _ => true) true m 3 [g1] = some y1 := by simpa [zi, zs, zt] using hg 1 _ rfl
    obtain ⟨a1, e1, w1, q1⟩ := DataW.trod_int Tryd.underlying3 t1
    simp at e1
    subst e1
    have t2 : DataW.trod enc Tryd.prog W 0 (fun _ => true) true m 9 [g2] = some y2 := by simpa [zi, zs, zt] using hg 2 _ rfl
    obtain ⟨a2, e2, w2, q2⟩ := DataW.trod_string Tryd.underlying9 t2
    simp at e2
    subst e2
    have t3 : DataW.trod enc Tryd.prog W 0 (fun _ => true) true m 4 [g3] = some y3 := by simpa [zi, zs, zt] using hg 3 _ rfl
    obtain ⟨a3, e3, w3⟩ := DataW.trod_bool Tryd.underlying4 t3
    simp at e3
    subst e3
    exact ⟨a0, a1, a2, a3, rfl, by
      rw [hx]
      simp [w0, w1, w2, w3]⟩
theorem op21_val {H : Type} {enc : TypeId × Value → H} {W : World} {r : Reach} {b0 : Nat} {v : Value} {dd : DataW H} {pp : List MemPlace}
    (hv : Value.okWide Tryd.prog W r b0 31 v) (h : DataW.Trod enc Tryd.prog W 0 (fun _ => true) true 31 v dd pp) :
    ∃ (x0 : Int) (x1 : Int) (x2 : ByteArray) (x3 : Bool), v = .agg #[.int .i64 x0, .int .i64 x1, .string x2, .bool x3] ∧ dd = .agg [.lit (.int .i64 x0), .lit (.int .i64 x1), .lit (.string x2.data.toList), .lit (.bool x3)] := by
  obtain ⟨⟨cs⟩, rfl, hsz⟩ := okWide_struct Tryd.underlying31 hv
  obtain ⟨fuel, hf⟩ := h
  obtain ⟨a0, a1, a2, a3, e, rest⟩ := op21_cells hf
  simp only [Value.cells] at e
  subst e
  exact ⟨a0, a1, a2, a3, rfl, rest⟩
set_option maxHeartbeats 1000000 in
theorem op21_small {H : Type} {x0 : Int} {x1 : Int} {x2 : ByteArray} {x3 : Bool}  (h : Small (H := H) 31 (.agg [.lit (.int .i64 x0), .lit (.int .i64 x1), .lit (.string x2.data.toList), .lit (.bool x3)]))  : x2.size ≤ 140737488355328 := by
  have hu := Tryd.underlying31
  rw [Lib.size_eq]; exact h _ (by simp [DataW.weights, DataW.weightsEach, hu])

/-- An element of a slice of Op21. -/
structure Op21R where
  x0 : Int
  x1 : Int
  x2 : ByteArray
  x3 : Bool
def Op21R.cells (r : Op21R) : List Value := [.int .i64 r.x0, .int .i64 r.x1, .string r.x2, .bool r.x3]
def Op21R.ok (W : World) (r : Op21R) : Prop := r.x2.size ≤ 140737488355328
def Op21Rows (W : World) (A : Option Addr) (n : Nat) (rs : List Op21R) : Prop := rs.length = n ∧ (0 < n → ∃ b o, A = some ⟨b, o, none⟩ ∧ b < W.heap.size ∧ ∀ k r, rs[k]? = some r → r.ok W ∧ ∀ j v, r.cells[j]? = some v → W.cell? ⟨b, o + k * 4 + j, none⟩ = some v)
set_option maxHeartbeats 1000000 in
theorem op21s_of {H : Type} {enc : TypeId × Value → H} {W : World} {cs : List Value} {fuel : Nat} {x : DataW H × List MemPlace}
    (h : DataW.trod enc Tryd.prog W 0 (fun _ => true) true fuel 22 cs = some x) (hs : Small 22 x.1) : ∃ A n c rs, cs = [.slice A n c] ∧ Op21Rows W A n rs ∧ n ≤ c ∧ c ≤ maxLen := by
  have zc : Tryd.prog.cellsOf 31 = 4 := by kernel_rfl
  rcases Go.Deep.open_slice Tryd.underlying22 h with ⟨rfl, _⟩ | ⟨a, len, cap, m, n, D, Pl, rfl, hb, hl, hm, hmm, rfl, hel⟩
  · exact ⟨none, 0, 0, [], rfl, ⟨rfl, fun h => absurd h (by omega)⟩, Nat.le_refl _, Nat.zero_le _⟩
  · have each : ∀ i, i < len → ∃ r : Op21R, r.ok W ∧ ∀ j v, r.cells[j]? = some v → W.cell? ((a.add (i * 4)).add j) = some v := fun i hi => by
      obtain ⟨cs', hcs, ht⟩ := hel i (by rw [hmm]; simp; omega)
      rw [zc] at hcs
      obtain ⟨_, hln, hcell⟩ := World.cells?_some hcs
      obtain ⟨a0, a1, a2, a3, rfl, dd⟩ := op21_cells ht
      have sm := small_elem Tryd.underlying22 hs (d := D i) (List.mem_map.2 ⟨i, List.mem_range.2 hi, rfl⟩)
      simp only at dd
      rw [dd] at sm
      refine ⟨⟨a0, a1, a2, a3⟩, ?_, fun j v hj => ?_⟩
      · exact op21_small sm
      · have hj' : j < 4 := by
          rcases Nat.lt_or_ge j 4 with q | q
          · exact q
          · rw [List.getElem?_eq_none (by simpa [Op21R.cells] using q)] at hj; cases hj
        rw [hcell j hj']
        exact hj
    refine ⟨some a, len, cap, List.ofFn fun i : Fin len => Classical.choose (each i.1 i.2), rfl, ⟨by simp, fun h0 => ?_⟩, hl, hm⟩
    obtain ⟨r0, _, hc0⟩ := each 0 h0
    have c0 := hc0 0 _ rfl
    have hsp : a.spot = none := by simpa [Addr.add] using World.cell?_spot c0
    obtain ⟨b, o, sp⟩ := a
    simp only at hsp
    subst hsp
    refine ⟨b, o, rfl, ?_, fun k r hk => ?_⟩
    · rw [Mem.add_plain, Mem.add_plain] at c0
      exact World.block_lt_of_cell? W _ c0
    · rw [List.getElem?_ofFn] at hk
      split at hk
      · next hk' =>
        have e := Option.some.inj hk
        have q := Classical.choose_spec (each k hk')
        rw [← e]
        refine ⟨q.1, fun j v hj => ?_⟩
        have := q.2 j v hj
        rw [Mem.add_plain, Mem.add_plain] at this
        exact this
      · cases hk
end Go.Proofs.YtjeenmeoiidmnaaDoor.ArgT
