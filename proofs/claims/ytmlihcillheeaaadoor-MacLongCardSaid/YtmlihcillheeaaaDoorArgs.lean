/- Arguments that are structs, opened: their fields; how long they are. -/
import Derived.Test.YtmlihcillheeaaaDoorShaC
import Derived.Test.YtmlihcillheeaaaDoorBoth
import Derived.Test.YtmlihcillheeaaaDoorRows
import Derived.OpenShut
import Derived.ShutString
import Derived.ChangeOld
import Derived.SizedLaws
import Derived.Lib.SmallJoins
set_option linter.unusedVariables false
namespace Go.Proofs.YtmlihcillheeaaaDoor.Args
open Go.ChangeShapes Go.WideShapes Go.ChangeAt Go.RowKit Go.Proofs.YtmlihcillheeaaaDoor.Mem
open Go.ChangeMaps (open_string shut_string)
set_option maxRecDepth 100000

theorem own : ownKnob Tryd.prog.godebug = none := by kernel_rfl
theorem laidOut : laidOutB Tryd.prog = true := by kernel_rfl
theorem reach_lt : reachBytes ≤ 140737488355328 := by decide
theorem bytes_of {H : Type} {enc : TypeId × Value → H} {W : World} {cs : List Value} {fuel : Nat} {x : DataW H × List MemPlace}
    (h : DataW.trod enc Tryd.prog W 0 (fun _ => true) true fuel 22 cs = some x) : ∃ A n c l, cs = [.slice A n c] ∧ Holds W W.heap.size A n c l ∧ (n = 0 ∨ ∃ es sp, x.1 = .slice es sp ∧ es.length = n) := by
  rcases open_ints Tryd.underlying22 Tryd.underlying5 (by kernel_rfl) h with ⟨hcs, _⟩ | ⟨x, l, c, zs, hcs, _, hl, hm, hz, hxx, hcell, hwz⟩
  · exact ⟨none, 0, 0, [], hcs, Holds.nil W _ none, .inl rfl⟩
  · exact ⟨some x, l, c, zs.take l, hcs, Holds.of_row (.inr ⟨x, rfl, hl, hm, by simpa using hz, hcell, hwz⟩), .inr ⟨_, _, by rw [hxx], by simp at hz; simp [lits, hz]; omega⟩⟩
theorem size_of {H : Type} {ts : List TypeId} {ds : List (DataW H)} (h : (DataW.weightsEach Tryd.prog ts ds).all (· ≤ reachBytes) = true) (j : Nat) (t : TypeId) (s : ByteArray) (ht : ts[j]? = some t) (hd : ds[j]? = some (.lit (.string s.data.toList))) : s.size ≤ 140737488355328 := by
  have := Nat.le_trans (sized_string h ht hd) reach_lt
  rw [Lib.size_eq]
  exact this
theorem bytes_size {H : Type} {ts : List TypeId} {ds : List (DataW H)} {n : Nat} {d : DataW H} (h : (DataW.weightsEach Tryd.prog ts ds).all (· ≤ reachBytes) = true) (j : Nat) (ht : ts[j]? = some 22) (hd : ds[j]? = some d) (hD : n = 0 ∨ ∃ es sp, d = .slice es sp ∧ es.length = n) : n ≤ 140737488355328 := by
  have hv := Tryd.underlying22
  have hb : Tryd.prog.bytesOf 5 = 1 := by kernel_rfl
  have g : ∀ q, q ∈ DataW.weights Tryd.prog 22 d → q ≤ 140737488355328 := fun q hq => by
    have h1 := List.all_eq_true.1 h q (DataW.weights_mem_each ht hd q hq)
    exact Nat.le_trans (by simpa using h1) reach_lt
  rcases hD with rfl | ⟨es, sp, rfl, rfl⟩
  · exact Nat.zero_le _
  · exact Nat.le_trans (Nat.le_add_right es.length sp.length) (g _ (by simp [DataW.weights, hv, hb]))
theorem int_wf {n : Int} (h : (Lit.int .i64 n).wf = true) : -9223372036854775808 ≤ n ∧ n ≤ 9223372036854775807 := by
  simp [Lit.wf, IntKind.min, IntKind.max, IntKind.signed, IntKind.bits] at h
  omega
/-- A row of ints, opened. -/
theorem ints_of {H : Type} {enc : TypeId × Value → H} {W : World} {cs : List Value} {fuel : Nat} {x : DataW H × List MemPlace}
    (h : DataW.trod enc Tryd.prog W 0 (fun _ => true) true fuel 50 cs = some x) : ∃ A n c l, cs = [.slice A n c] ∧ (n ≤ 1048576 → ShaC.HoldsI W W.heap.size A n c l) ∧ (n = 0 ∨ ∃ es sp, x.1 = .slice es sp ∧ es.length = n) := by
  rcases open_ints Tryd.underlying50 Tryd.underlying3 (by kernel_rfl) h with ⟨hcs, _⟩ | ⟨x, l, c, zs, hcs, _, hl, hm, hz, hxx, hcell, hwz⟩
  · exact ⟨none, 0, 0, [], hcs, fun _ => ⟨rfl, by decide, fun _ h => (by cases h), fun h => absurd h (by omega)⟩, .inl rfl⟩
  · simp only [if_true] at hz
    refine ⟨some x, l, c, zs.take l, hcs, fun hn => ⟨by rw [List.length_take]; omega, hn, fun z hz' => int_wf (hwz z (List.mem_of_mem_take hz')), fun h0 => ?_⟩, .inr ⟨_, _, by rw [hxx], by simp [lits]; omega⟩⟩
    have hs : x.spot = none := by
      have := hcell 0 (by omega)
      have q := World.cell?_spot this
      simpa [Addr.add] using q
    obtain ⟨b, o, sp⟩ := x
    simp only at hs
    subst hs
    refine ⟨b, o, rfl, ?_, fun j hj => ?_⟩
    · have := hcell 0 (by omega)
      rw [Mem.add_plain] at this
      exact World.block_lt_of_cell? W _ this
    · have := hcell j (by omega)
      rw [Mem.add_plain] at this
      rw [this, List.getD_eq_getElem?_getD, List.getD_eq_getElem?_getD, List.getElem?_take, if_pos hj]
theorem ints_size {H : Type} {ts : List TypeId} {ds : List (DataW H)} {n : Nat} {d : DataW H} (h : (DataW.weightsEach Tryd.prog ts ds).all (· ≤ reachBytes) = true) (j : Nat) (ht : ts[j]? = some 50) (hd : ds[j]? = some d) (hD : n = 0 ∨ ∃ es sp, d = .slice es sp ∧ es.length = n) : n ≤ 140737488355328 := by
  have hv := Tryd.underlying50
  have hb : Tryd.prog.bytesOf 3 = 8 := by kernel_rfl
  have g : ∀ q, q ∈ DataW.weights Tryd.prog 50 d → q ≤ 140737488355328 := fun q hq => by
    have h1 := List.all_eq_true.1 h q (DataW.weights_mem_each ht hd q hq)
    exact Nat.le_trans (by simpa using h1) reach_lt
  rcases hD with rfl | ⟨es, sp, rfl, rfl⟩
  · exact Nat.zero_le _
  · refine Nat.le_trans ?_ (g ((es.length + sp.length) * 8) (by simp [DataW.weights, hv, hb]))
    omega
/-- A row of rows of bytes. -/
def Rows (W : World) (A : Option Addr) (m : Nat) (rs : List Both.Row) : Prop := rs.length = m ∧ (rs = [] ∨ ∃ b o, A = some ⟨b, o, none⟩ ∧ b < W.heap.size ∧ ∀ k r, rs[k]? = some r → W.cell? ⟨b, o + k, none⟩ = some (.slice r.A r.n r.c) ∧ Holds W W.heap.size r.A r.n r.c r.l)
theorem rows_of {H : Type} {enc : TypeId × Value → H} {W : World} {cs : List Value} {fuel : Nat} {x : DataW H × List MemPlace}
    (h : DataW.trod enc Tryd.prog W 0 (fun _ => true) true fuel 35 cs = some x) : ∃ A n c rs, cs = [.slice A n c] ∧ Rows W A n rs := by
  have zc : Tryd.prog.cellsOf 22 = 1 := by kernel_rfl
  rcases DataW.trod_slice Tryd.underlying35 h with ⟨rfl, _⟩ | ⟨a, len, cap, elems, rest, n, rfl, rfl, hx, hb, hl, hm, hlen, hel, _⟩
  · exact ⟨none, 0, 0, [], rfl, rfl, .inl rfl⟩
  · have each : ∀ i, i < len → ∃ r : Both.Row, W.cell? (a.add i) = some (.slice r.A r.n r.c) ∧ Holds W W.heap.size r.A r.n r.c r.l := fun i hi => by
      have e := hel i hi
      rw [zc, Nat.mul_one, List.getElem?_eq_getElem (by omega), Option.bind_eq_some_iff] at e
      obtain ⟨cs', hcs, hy⟩ := e
      obtain ⟨A, n', c, l, rfl, hh, _⟩ := bytes_of hy
      exact ⟨⟨A, n', c, l⟩, cell_of_cells?_one hcs, hh⟩
    refine ⟨some a, len, cap, List.ofFn fun i : Fin len => Classical.choose (each i.1 i.2), rfl, by simp, ?_⟩
    rcases Nat.eq_zero_or_pos len with h0 | h0
    · subst h0
      exact .inl (by simp)
    · right
      have hs : a.spot = none := by
        obtain ⟨r, hc, _⟩ := each 0 h0
        simpa [Addr.add] using World.cell?_spot hc
      obtain ⟨b, o, sp⟩ := a
      simp only at hs
      subst hs
      refine ⟨b, o, rfl, ?_, fun k r hk => ?_⟩
      · obtain ⟨r, hc, _⟩ := each 0 h0
        rw [Mem.add_plain] at hc
        exact World.block_lt_of_cell? W _ hc
      · rw [List.getElem?_ofFn] at hk
        split at hk
        · next hk' =>
          have e := Option.some.inj hk
          have q := Classical.choose_spec (each k hk')
          rw [← e, ← Mem.add_plain]
          exact q
        · cases hk
end Go.Proofs.YtmlihcillheeaaaDoor.Args
