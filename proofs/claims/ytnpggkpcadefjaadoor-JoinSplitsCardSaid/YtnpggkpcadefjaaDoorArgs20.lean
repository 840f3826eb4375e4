/- A row of ints that is an argument, opened. -/
import Derived.Test.YtnpggkpcadefjaaDoorArgs
import Derived.Test.YtnpggkpcadefjaaDoorAppend
set_option linter.unusedVariables false
namespace Go.Proofs.YtnpggkpcadefjaaDoor.Args20
open Go.ChangeShapes Go.WideShapes Go.ChangeAt Go.RowKit Go.Proofs.YtnpggkpcadefjaaDoor.Mem
set_option maxRecDepth 100000

def HoldsI (w : World) (B : Nat) (A : Option Addr) (n c : Nat) (l : List Int) : Prop :=
  l.length = n ∧ n ≤ 1048576 ∧ (∀ z ∈ l, -9223372036854775808 ≤ z ∧ z ≤ 9223372036854775807) ∧
  (0 < n → ∃ b o, A = some ⟨b, o, none⟩ ∧ b < B ∧ ∀ j, j < n → w.cell? ⟨b, o + j, none⟩ = some (.int .i64 (l.getD j 0)))
theorem int_wf {n : Int} (h : (Lit.int .i64 n).wf = true) : -9223372036854775808 ≤ n ∧ n ≤ 9223372036854775807 := by
  simp [Lit.wf, IntKind.min, IntKind.max, IntKind.signed, IntKind.bits] at h
  omega
/-- A row of ints, opened. -/
theorem ints_of {H : Type} {enc : TypeId × Value → H} {W : World} {cs : List Value} {fuel : Nat} {x : DataW H × List MemPlace}
    (h : DataW.trod enc Tryd.prog W 0 (fun _ => true) true fuel 45 cs = some x) : ∃ A n c l, cs = [.slice A n c] ∧ (n ≤ 1048576 → HoldsI W W.heap.size A n c l) ∧ (n = 0 ∨ ∃ es sp, x.1 = .slice es sp ∧ es.length = n) := by
  rcases open_ints Tryd.underlying45 Tryd.underlying3 (by kernel_rfl) h with ⟨hcs, _⟩ | ⟨x, l, c, zs, hcs, _, hl, hm, hz, hxx, hcell, hwz⟩
  · exact ⟨none, 0, 0, [], hcs, fun _ => ⟨rfl, by decide, fun _ h => (by cases h), fun h => absurd h (by omega)⟩, .inl rfl⟩
  · simp only [if_true] at hz
    refine ⟨some x, l, c, zs.take l, hcs, fun hn => ⟨by rw [List.length_take]; omega, hn, fun z hz' => int_wf (hwz z (List.mem_of_mem_take hz')), fun h0 => ?_⟩, .inr ⟨_, _, by rw [hxx], by simp [lits]; omega⟩⟩
    have hs : x.spot = none := by
      have := hcell 0 (by omega)
      have q := World.cell?_spot this
      simpa [Addr.add] using q
    obtain ⟨b, o, sp⟩ := x
    simp only at hs
    subst hs
    refine ⟨b, o, rfl, ?_, fun j hj => ?_⟩
    · have := hcell 0 (by omega)
      rw [Mem.add_plain] at this
      exact World.block_lt_of_cell? W _ this
    · have := hcell j (by omega)
      rw [Mem.add_plain] at this
      rw [this, List.getD_eq_getElem?_getD, List.getD_eq_getElem?_getD, List.getElem?_take, if_pos hj]
theorem ints_size {H : Type} {ts : List TypeId} {ds : List (DataW H)} {n : Nat} {d : DataW H} (h : (DataW.weightsEach Tryd.prog ts ds).all (· ≤ reachBytes) = true) (j : Nat) (ht : ts[j]? = some 45) (hd : ds[j]? = some d) (hD : n = 0 ∨ ∃ es sp, d = .slice es sp ∧ es.length = n) : n ≤ 140737488355328 := by
  have hv := Tryd.underlying45
  have hb : Tryd.prog.bytesOf 3 = 8 := by kernel_rfl
  have g : ∀ q, q ∈ DataW.weights Tryd.prog 45 d → q ≤ 140737488355328 := fun q hq => by
    have h1 := List.all_eq_true.1 h q (DataW.weights_mem_each ht hd q hq)
    exact Nat.le_trans (by simpa using h1) Args.reach_lt
  rcases hD with rfl | ⟨es, sp, rfl, rfl⟩
  · exact Nat.zero_le _
  · refine Nat.le_trans ?_ (g ((es.length + sp.length) * 8) (by simp [DataW.weights, hv, hb]))
    omega
end Go.Proofs.YtnpggkpcadefjaaDoor.Args20
