/- Arguments that are structs, opened: their fields; how long they are. -/
import Derived.Test.YtjeenmeoiidmnaaDoorAppend
import Derived.Test.YtjeenmeoiidmnaaDoorRows
import Derived.OpenShut
import Derived.ShutString
import Derived.ChangeOld
import Derived.SizedLaws
import Derived.Lib.SmallJoins
set_option linter.unusedVariables false
namespace Go.Proofs.YtjeenmeoiidmnaaDoor.Args
open Go.ChangeShapes Go.WideShapes Go.ChangeAt Go.RowKit Go.Proofs.YtjeenmeoiidmnaaDoor.Mem
open Go.ChangeMaps (open_string shut_string)
set_option maxRecDepth 100000

theorem own : ownKnob Tryd.prog.godebug = none := by kernel_rfl
theorem laidOut : laidOutB Tryd.prog = true := by kernel_rfl
theorem reach_lt : reachBytes ≤ 140737488355328 := by decide
theorem bytes_of {H : Type} {enc : TypeId × Value → H} {W : World} {cs : List Value} {fuel : Nat} {x : DataW H × List MemPlace}
    (h : DataW.trod enc Tryd.prog W 0 (fun _ => true) true fuel 60 cs = some x) : ∃ A n c l, cs = [.slice A n c] ∧ Holds W W.heap.size A n c l ∧ (n = 0 ∨ ∃ es sp, x.1 = .slice es sp ∧ es.length = n) := by
  rcases open_ints Tryd.underlying60 Tryd.underlying5 (by kernel_rfl) h with ⟨hcs, _⟩ | ⟨x, l, c, zs, hcs, _, hl, hm, hz, hxx, hcell, hwz⟩
  · exact ⟨none, 0, 0, [], hcs, Holds.nil W _ none, .inl rfl⟩
  · exact ⟨some x, l, c, zs.take l, hcs, Holds.of_row (.inr ⟨x, rfl, hl, hm, by simpa using hz, hcell, hwz⟩), .inr ⟨_, _, by rw [hxx], by simp at hz; simp [lits, hz]; omega⟩⟩
theorem size_of {H : Type} {ts : List TypeId} {ds : List (DataW H)} (h : (DataW.weightsEach Tryd.prog ts ds).all (· ≤ reachBytes) = true) (j : Nat) (t : TypeId) (s : ByteArray) (ht : ts[j]? = some t) (hd : ds[j]? = some (.lit (.string s.data.toList))) : s.size ≤ 140737488355328 := by
  have := Nat.le_trans (sized_string h ht hd) reach_lt
  rw [Lib.size_eq]
  exact this
theorem bytes_size {H : Type} {ts : List TypeId} {ds : List (DataW H)} {n : Nat} {d : DataW H} (h : (DataW.weightsEach Tryd.prog ts ds).all (· ≤ reachBytes) = true) (j : Nat) (ht : ts[j]? = some 60) (hd : ds[j]? = some d) (hD : n = 0 ∨ ∃ es sp, d = .slice es sp ∧ es.length = n) : n ≤ 140737488355328 := by
  have hv := Tryd.underlying60
  have hb : Tryd.prog.bytesOf 5 = 1 := by kernel_rfl
  have g : ∀ q, q ∈ DataW.weights Tryd.prog 60 d → q ≤ 140737488355328 := fun q hq => by
    have h1 := List.all_eq_true.1 h q (DataW.weights_mem_each ht hd q hq)
    exact Nat.le_trans (by simpa using h1) reach_lt
  rcases hD with rfl | ⟨es, sp, rfl, rfl⟩
  · exact Nat.zero_le _
  · exact Nat.le_trans (Nat.le_add_right es.length sp.length) (g _ (by simp [DataW.weights, hv, hb]))
end Go.Proofs.YtjeenmeoiidmnaaDoor.Args
