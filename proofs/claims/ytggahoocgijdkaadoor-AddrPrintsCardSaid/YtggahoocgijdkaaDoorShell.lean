/- What the six rows' proofs share. -/
import Derived.Test.YtggahoocgijdkaaDoorLaid
import Derived.Test.YtggahoocgijdkaaDoorCards
import Derived.Test.YtggahoocgijdkaaDoorTie
import Derived.Deep.DeepHandedRow
import Derived.ProofKit
import Derived.OpenShut
import Derived.ShutString
import Derived.ChangeOld
import Derived.Below
import Derived.SizedLaws
import Derived.Lay
import Derived.LaidMore
import Derived.SevenTiedAt
import Derived.Lib.SmallJoins
namespace Go.Proofs.YtggahoocgijdkaaDoor.Shell
open Go.ChangeShapes Go.WideShapes Go.ChangeAt Go.RowKit
set_option maxRecDepth 100000

theorem own : ownKnob Tryd.prog.godebug = none := by kernel_rfl
theorem laidOut : laidOutB Tryd.prog = true := by kernel_rfl
theorem shaped (os : Os) (args : Array Value) : ((World.laidAll Tryd.prog os Rows.addrOrderRow.laid).forCall (fun _ _ => 0) ⟨#[], args, []⟩).Shaped Tryd.prog := World.shaped_of_ZipB (by kernel_rfl) (by kernel_rfl)
theorem met (os : Os) (args : Array Value) : laidMetH Tryd.prog Rows.addrOrderRow.laid ((World.laidAll Tryd.prog os Rows.addrOrderRow.laid).forCall (fun _ _ => 0) ⟨#[], args, []⟩).memory := by
  rw [MakeChecks.laidMetH_plain _ _ _ (by kernel_rfl)]
  exact laidMet_laidAll _ (by kernel_rfl) (by kernel_rfl)
theorem reach_lt : reachBytes ≤ 140737488355328 := by decide
theorem size_of {H : Type} {ts : List TypeId} {ds : List (DataW H)} (h : (DataW.weightsEach Tryd.prog ts ds).all (· ≤ reachBytes) = true) (j : Nat) (t : TypeId) (s : ByteArray) (ht : ts[j]? = some t) (hd : ds[j]? = some (.lit (.string s.data.toList))) : s.size ≤ 140737488355328 := by
  have := Nat.le_trans (sized_string h ht hd) reach_lt
  rw [Lib.size_eq]
  exact this

theorem size_in {H : Type} {ts : List TypeId} {ds : List (DataW H)} (h : (DataW.weightsEach Tryd.prog ts ds).all (· ≤ reachBytes) = true) (j : Nat) (t : TypeId) (s : ByteArray) (d : DataW H) (ht : ts[j]? = some t) (hd : ds[j]? = some (.agg [.lit (.string s.data.toList), d])) {f0 f1 : Field} (hu : Tryd.prog.underlying t = some (.struct #[f0, f1])) : s.size ≤ 140737488355328 := by
  have h1 := List.all_eq_true.1 h _ (DataW.weights_mem_each ht hd s.data.toList.length (by simp [DataW.weights, DataW.weightsEach, hu]))
  rw [Lib.size_eq]
  exact Nat.le_trans (by simpa using h1) reach_lt

end Go.Proofs.YtggahoocgijdkaaDoor.Shell
