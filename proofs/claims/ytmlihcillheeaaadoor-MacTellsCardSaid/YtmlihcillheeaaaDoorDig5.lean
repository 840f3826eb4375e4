/- The contract of the code's Round. -/
import Derived.Test.YtmlihcillheeaaaDoorDig4
import Derived.Test.YtmlihcillheeaaaDoorShaQ
set_option linter.unusedVariables false
namespace Go.Proofs.YtmlihcillheeaaaDoor.Dig5
open Go.RowKit Go.PlainAid Go.Proofs.YtmlihcillheeaaaDoor.Sums Go.Proofs.YtmlihcillheeaaaDoor.Mem Go.Proofs.YtmlihcillheeaaaDoor.Blk Go.Proofs.YtmlihcillheeaaaDoor.Bits Go.Proofs.YtmlihcillheeaaaDoor.Bits3 Go.Proofs.YtmlihcillheeaaaDoor.Ints Go.Proofs.YtmlihcillheeaaaDoor.IntsO Go.Proofs.YtmlihcillheeaaaDoor.ShaD Go.Proofs.YtmlihcillheeaaaDoor.ShaC Go.Proofs.YtmlihcillheeaaaDoor.ShaQ Go.Proofs.YtmlihcillheeaaaDoor.Dig1 Go.Proofs.YtmlihcillheeaaaDoor.OpsU Go.Proofs.YtmlihcillheeaaaDoor.Dig2 Go.Proofs.YtmlihcillheeaaaDoor.Dig3 Go.Proofs.YtmlihcillheeaaaDoor.Dig4

/-- What Round answers, refusing or not. -/
def Ans (ok : Bool) (w : World) (F : List Nat) (e : Ending) (w' : World) : Prop :=
  (ok = true → ∃ v, e = .returned (.tuple #[v, .int .i64 0]) ∧ IOwn w' w.heap.size v F) ∧ (ok = false → e = .returned (.tuple #[.slice none 0 0, .int .i64 1])) ∧ Below w.heap.size w w'
theorem all_getD {L : List Nat} {n : Nat} (h : L.length = n) : (List.range n).map (fun i => L.getD i 0) = L := by
  subst h
  apply List.ext_getElem
  · simp
  · intro i h1 h2
    simp only [List.getElem_map, List.getElem_range]
    rw [List.getD_eq_getElem?_getD, List.getElem?_eq_getElem h2]
    rfl
theorem nats_at (l : List Int) (i : Nat) : (nats l).getD i 0 = (l.getD i 0).toNat := by
  unfold nats
  rw [List.getD_eq_getElem?_getD, List.getD_eq_getElem?_getD, List.getElem?_map]
  cases l[i]? <;> rfl
theorem getD_some {l : List Int} {i : Nat} (h : i < l.length) : l[i]? = some (l.getD i 0) := by
  rw [List.getD_eq_getElem?_getD, List.getElem?_eq_getElem h]; rfl

end Go.Proofs.YtmlihcillheeaaaDoor.Dig5
