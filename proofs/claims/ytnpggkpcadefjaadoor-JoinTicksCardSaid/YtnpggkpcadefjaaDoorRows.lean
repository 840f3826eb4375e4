/-
  NARROWER THAN 'FOR EVERY INPUT', by the rows' own cells (each row's printed sentence says how): JoinDoes: laid · JoinSplits: laid · JoinTicks: laid · JoinNil: laid · JoinFull: laid.
  DERIVED. THE GIVEN ROWS OF THIS SEAT. 5 by the template 'for every input the law returns true; each argument reads behind the call as it read before'; 0 by the template 'total and deterministic' (their statements: YtnpggkpcadefjaaDoorTotals.lean).
  GIVEN WITH THE SEED: the statements are not yours to turn. If you find one false, say at which input.
  Laid BY PROGRAM, IN A SANDBOX (cutbox-rows.mjs): the forced cells as the released guide's own fill.sh prints them over the translation 07f945caa2f94d3d… (all of the seat's roots in one cut). By AI agents, Wed Nov 11 2026. No macro, syntax, notation, axiom, sorry.
-/
import Derived.Test.YtnpggkpcadefjaaDoorChecked
import GoSem.Claim
import GoSem.ClaimJoined
import GoSem.ClaimMapViews
import Derived.JoinedTies
import Derived.KernelRfl
namespace Go.Proofs.YtnpggkpcadefjaaDoor
/- THE CELL 'sum', in the pinned program and in every row, IS THE sha256 OF THE DUMP (.gsa) THAT YtnpggkpcadefjaaDoorProg.lean LOADS. Nothing in Lean hashes anything: it is a label: what it is worth is what the hold of that sum in a sandbox is worth. -/
noncomputable def Tryd.pinned : Pinned := { name := "ytnpggkpcadefjaadoor", sum := "07f945caa2f94d3d50e36f7fcfb8150111cbf1881e5ed4501c0f287a45669ade", checked := Tryd.checked }
namespace Rows
def none {H : Type} : Left H := { results := [], args := [] }

/- WHAT THE LISTED PACKAGE-LEVEL VARIABLES READ AS WHEN THE CALL BEGINS. Each datum BY PROGRAM (the guide's laid-datum.mjs) off the statement by which the dump's own 'gosem.cut.vars' lays the variable. In a bare row this is a premise. The card (YtnpggkpcadefjaaDoorCards.lean) ties it to the program's text. -/
def laid_errors_errorType {H : Type} : DataW H := .iface "internal/reflectlite.rtype" (.agg [.ptr (.lit (.string [101, 114, 114, 111, 114]))])

/-- 'redoubtlaw20.JoinDoes': WHATEVER THE INPUT: true; the input reads as it did. -/
def joinDoesSpec : ChangeSpec := { name := "joinDoes", fn := fun _ => fun
  | [d] => { results := [.lit (.bool true)], args := [d] }
  | _ => none }
def joinDoesRow : OpenClaim := { program := "ytnpggkpcadefjaadoor", sum := "07f945caa2f94d3d50e36f7fcfb8150111cbf1881e5ed4501c0f287a45669ade", func := "redoubt/redoubtlaw20.JoinDoes", spec := "joinDoes", inPlace := ["internal/reflectlite.ValueOf", "(internal/reflectlite.Value).Type", "(internal/reflectlite.Value).IsNil", "internal/reflectlite.TypeOf", "(internal/reflectlite.Value).Elem", "(internal/reflectlite.Value).Set", "slices.overlaps[redoubt/api.Ip4]"], unfollowed := true, recurses := true, named := ["errors.errorType"], plainKeys := false, apart := false, laid := [("errors.errorType", laid_errors_errorType)] }
def JoinDoesSaid : Prop := joinDoesRow.holds Tryd.pinned (OpenSpec.ofChange joinDoesSpec)

/-- ITS FALSE NEIGHBOUR: 'it returns false'. Refute it at one input. -/
def joinDoesWrong : ChangeSpec := { name := "joinDoes", fn := fun _ => fun
  | [d] => { results := [.lit (.bool false)], args := [d] }
  | _ => none }
def JoinDoesWrongFalsely : Prop := joinDoesRow.holds Tryd.pinned (OpenSpec.ofChange joinDoesWrong)

/-- 'redoubtlaw20.JoinSplits': WHATEVER THE INPUT: true; the input reads as it did. -/
def joinSplitsSpec : ChangeSpec := { name := "joinSplits", fn := fun _ => fun
  | [d1, d2, d3, d4] => { results := [.lit (.bool true)], args := [d1, d2, d3, d4] }
  | _ => none }
def joinSplitsRow : OpenClaim := { program := "ytnpggkpcadefjaadoor", sum := "07f945caa2f94d3d50e36f7fcfb8150111cbf1881e5ed4501c0f287a45669ade", func := "redoubt/redoubtlaw20.JoinSplits", spec := "joinSplits", inPlace := ["internal/reflectlite.ValueOf", "(internal/reflectlite.Value).Type", "(internal/reflectlite.Value).IsNil", "internal/reflectlite.TypeOf", "(internal/reflectlite.Value).Elem", "(internal/reflectlite.Value).Set", "slices.overlaps[redoubt/api.Ip4]"], unfollowed := true, recurses := true, named := ["errors.errorType"], plainKeys := false, apart := false, laid := [("errors.errorType", laid_errors_errorType)] }
def JoinSplitsSaid : Prop := joinSplitsRow.holds Tryd.pinned (OpenSpec.ofChange joinSplitsSpec)

/-- ITS FALSE NEIGHBOUR: 'it returns false'. Refute it at one input. -/
def joinSplitsWrong : ChangeSpec := { name := "joinSplits", fn := fun _ => fun
  | [d1, d2, d3, d4] => { results := [.lit (.bool false)], args := [d1, d2, d3, d4] }
  | _ => none }
def JoinSplitsWrongFalsely : Prop := joinSplitsRow.holds Tryd.pinned (OpenSpec.ofChange joinSplitsWrong)

/-- 'redoubtlaw20.JoinTicks': WHATEVER THE INPUT: true; the input reads as it did. -/
def joinTicksSpec : ChangeSpec := { name := "joinTicks", fn := fun _ => fun
  | [d1, d2] => { results := [.lit (.bool true)], args := [d1, d2] }
  | _ => none }
def joinTicksRow : OpenClaim := { program := "ytnpggkpcadefjaadoor", sum := "07f945caa2f94d3d50e36f7fcfb8150111cbf1881e5ed4501c0f287a45669ade", func := "redoubt/redoubtlaw20.JoinTicks", spec := "joinTicks", inPlace := ["internal/reflectlite.ValueOf", "(internal/reflectlite.Value).Type", "(internal/reflectlite.Value).IsNil", "internal/reflectlite.TypeOf", "(internal/reflectlite.Value).Elem", "(internal/reflectlite.Value).Set", "slices.overlaps[redoubt/api.Ip4]"], unfollowed := true, recurses := true, named := ["errors.errorType"], plainKeys := false, apart := false, laid := [("errors.errorType", laid_errors_errorType)] }
def JoinTicksSaid : Prop := joinTicksRow.holds Tryd.pinned (OpenSpec.ofChange joinTicksSpec)

/-- ITS FALSE NEIGHBOUR: 'it returns false'. Refute it at one input. -/
def joinTicksWrong : ChangeSpec := { name := "joinTicks", fn := fun _ => fun
  | [d1, d2] => { results := [.lit (.bool false)], args := [d1, d2] }
  | _ => none }
def JoinTicksWrongFalsely : Prop := joinTicksRow.holds Tryd.pinned (OpenSpec.ofChange joinTicksWrong)

/-- 'redoubtlaw20.JoinNil': WHATEVER THE INPUT: true; the input reads as it did. -/
def joinNilSpec : ChangeSpec := { name := "joinNil", fn := fun _ => fun
  | [d1, d2] => { results := [.lit (.bool true)], args := [d1, d2] }
  | _ => none }
def joinNilRow : OpenClaim := { program := "ytnpggkpcadefjaadoor", sum := "07f945caa2f94d3d50e36f7fcfb8150111cbf1881e5ed4501c0f287a45669ade", func := "redoubt/redoubtlaw20.JoinNil", spec := "joinNil", inPlace := ["internal/reflectlite.ValueOf", "(internal/reflectlite.Value).Type", "(internal/reflectlite.Value).IsNil", "internal/reflectlite.TypeOf", "(internal/reflectlite.Value).Elem", "(internal/reflectlite.Value).Set", "slices.overlaps[redoubt/api.Ip4]"], unfollowed := true, recurses := true, named := ["errors.errorType"], plainKeys := false, apart := false, laid := [("errors.errorType", laid_errors_errorType)] }
def JoinNilSaid : Prop := joinNilRow.holds Tryd.pinned (OpenSpec.ofChange joinNilSpec)

/-- ITS FALSE NEIGHBOUR: 'it returns false'. Refute it at one input. -/
def joinNilWrong : ChangeSpec := { name := "joinNil", fn := fun _ => fun
  | [d1, d2] => { results := [.lit (.bool false)], args := [d1, d2] }
  | _ => none }
def JoinNilWrongFalsely : Prop := joinNilRow.holds Tryd.pinned (OpenSpec.ofChange joinNilWrong)

/-- 'redoubtlaw20.JoinFull': WHATEVER THE INPUT: true; the input reads as it did. -/
def joinFullSpec : ChangeSpec := { name := "joinFull", fn := fun _ => fun
  | [d] => { results := [.lit (.bool true)], args := [d] }
  | _ => none }
def joinFullRow : OpenClaim := { program := "ytnpggkpcadefjaadoor", sum := "07f945caa2f94d3d50e36f7fcfb8150111cbf1881e5ed4501c0f287a45669ade", func := "redoubt/redoubtlaw20.JoinFull", spec := "joinFull", inPlace := ["internal/reflectlite.ValueOf", "(internal/reflectlite.Value).Type", "(internal/reflectlite.Value).IsNil", "internal/reflectlite.TypeOf", "(internal/reflectlite.Value).Elem", "(internal/reflectlite.Value).Set", "slices.overlaps[redoubt/api.Ip4]"], unfollowed := true, recurses := true, named := ["errors.errorType"], plainKeys := false, apart := false, laid := [("errors.errorType", laid_errors_errorType)] }
def JoinFullSaid : Prop := joinFullRow.holds Tryd.pinned (OpenSpec.ofChange joinFullSpec)

/-- ITS FALSE NEIGHBOUR: 'it returns false'. Refute it at one input. -/
def joinFullWrong : ChangeSpec := { name := "joinFull", fn := fun _ => fun
  | [d] => { results := [.lit (.bool false)], args := [d] }
  | _ => none }
def JoinFullWrongFalsely : Prop := joinFullRow.holds Tryd.pinned (OpenSpec.ofChange joinFullWrong)

/- THE SECOND FORM. 'bulk': how many values and letters a reading holds, each counted each time it is reached (what is shared counts as often as it is met; a slice's spare places count too). A statement '..UptoSaid' is the law's where the arguments, and the package variables that the reading takes, are together of bulk at most 1048576: NARROWER than '..Said'. Prove '..Said' where nothing that the law and all that it calls make is longer than what came in: it says more and counts as full. Else prove '..UptoSaid'. A law counts once. -/
mutual
def uptoBulk {H : Type} : DataW H → Nat
  | .lit (.string bytes) => bytes.length + 1
  | .lit _ => 1
  | .nil => 1
  | .ptr d => uptoBulk d + 1
  | .slice elems spare => uptoBulkAll elems + uptoBulkAll spare + 1
  | .agg parts => uptoBulkAll parts + 1
  | .iface _ d => uptoBulk d + 1
  | .map entries => uptoBulkEntries entries + 1
  | .held _ => 1
def uptoBulkAll {H : Type} : List (DataW H) → Nat
  | [] => 0
  | d :: r => uptoBulk d + uptoBulkAll r
def uptoBulkEntries {H : Type} : List (Lit × DataW H) → Nat
  | [] => 0
  | x :: r => uptoBulkEntry x + uptoBulkEntries r
def uptoBulkEntry {H : Type} : Lit × DataW H → Nat
  | (.string bytes, d) => bytes.length + uptoBulk d + 1
  | (_, d) => uptoBulk d + 1
 end
def uptoSmall : (H : Type) → List (DataW H) → Bool := fun _ ds => decide (uptoBulkAll ds ≤ 1048576)
def OpenSpec.upto (s : _root_.Go.ChangeSpec) : _root_.Go.OpenSpec := { _root_.Go.OpenSpec.ofChange s with cond := some uptoSmall }

/-- 'redoubtlaw20.JoinDoes', WHERE WHAT IT READS IS OF BULK AT MOST 1048576: true; the input reads as it did. -/
def joinDoesUptoRow : OpenClaim := { program := "ytnpggkpcadefjaadoor", sum := "07f945caa2f94d3d50e36f7fcfb8150111cbf1881e5ed4501c0f287a45669ade", func := "redoubt/redoubtlaw20.JoinDoes", spec := "joinDoes", inPlace := ["internal/reflectlite.ValueOf", "(internal/reflectlite.Value).Type", "(internal/reflectlite.Value).IsNil", "internal/reflectlite.TypeOf", "(internal/reflectlite.Value).Elem", "(internal/reflectlite.Value).Set", "slices.overlaps[redoubt/api.Ip4]"], unfollowed := true, recurses := true, named := ["errors.errorType"], plainKeys := false, apart := false, laid := [("errors.errorType", laid_errors_errorType)], narrowed := true }
def JoinDoesUptoSaid : Prop := joinDoesUptoRow.holds Tryd.pinned (OpenSpec.upto joinDoesSpec)

/-- 'redoubtlaw20.JoinSplits', WHERE WHAT IT READS IS OF BULK AT MOST 1048576: true; the input reads as it did. -/
def joinSplitsUptoRow : OpenClaim := { program := "ytnpggkpcadefjaadoor", sum := "07f945caa2f94d3d50e36f7fcfb8150111cbf1881e5ed4501c0f287a45669ade", func := "redoubt/redoubtlaw20.JoinSplits", spec := "joinSplits", inPlace := ["internal/reflectlite.ValueOf", "(internal/reflectlite.Value).Type", "(internal/reflectlite.Value).IsNil", "internal/reflectlite.TypeOf", "(internal/reflectlite.Value).Elem", "(internal/reflectlite.Value).Set", "slices.overlaps[redoubt/api.Ip4]"], unfollowed := true, recurses := true, named := ["errors.errorType"], plainKeys := false, apart := false, laid := [("errors.errorType", laid_errors_errorType)], narrowed := true }
def JoinSplitsUptoSaid : Prop := joinSplitsUptoRow.holds Tryd.pinned (OpenSpec.upto joinSplitsSpec)

/-- 'redoubtlaw20.JoinTicks', WHERE WHAT IT READS IS OF BULK AT MOST 1048576: true; the input reads as it did. -/
def joinTicksUptoRow : OpenClaim := { program := "ytnpggkpcadefjaadoor", sum := "07f945caa2f94d3d50e36f7fcfb8150111cbf1881e5ed4501c0f287a45669ade", func := "redoubt/redoubtlaw20.JoinTicks", spec := "joinTicks", inPlace := ["internal/reflectlite.ValueOf", "(internal/reflectlite.Value).Type", "(internal/reflectlite.Value).IsNil", "internal/reflectlite.TypeOf", "(internal/reflectlite.Value).Elem", "(internal/reflectlite.Value).Set", "slices.overlaps[redoubt/api.Ip4]"], unfollowed := true, recurses := true, named := ["errors.errorType"], plainKeys := false, apart := false, laid := [("errors.errorType", laid_errors_errorType)], narrowed := true }
def JoinTicksUptoSaid : Prop := joinTicksUptoRow.holds Tryd.pinned (OpenSpec.upto joinTicksSpec)

/-- 'redoubtlaw20.JoinNil', WHERE WHAT IT READS IS OF BULK AT MOST 1048576: true; the input reads as it did. -/
def joinNilUptoRow : OpenClaim := { program := "ytnpggkpcadefjaadoor", sum := "07f945caa2f94d3d50e36f7fcfb8150111cbf1881e5ed4501c0f287a45669ade", func := "redoubt/redoubtlaw20.JoinNil", spec := "joinNil", inPlace := ["internal/reflectlite.ValueOf", "(internal/reflectlite.Value).Type", "(internal/reflectlite.Value).IsNil", "internal/reflectlite.TypeOf", "(internal/reflectlite.Value).Elem", "(internal/reflectlite.Value).Set", "slices.overlaps[redoubt/api.Ip4]"], unfollowed := true, recurses := true, named := ["errors.errorType"], plainKeys := false, apart := false, laid := [("errors.errorType", laid_errors_errorType)], narrowed := true }
def JoinNilUptoSaid : Prop := joinNilUptoRow.holds Tryd.pinned (OpenSpec.upto joinNilSpec)

/-- 'redoubtlaw20.JoinFull', WHERE WHAT IT READS IS OF BULK AT MOST 1048576: true; the input reads as it did. -/
def joinFullUptoRow : OpenClaim := { program := "ytnpggkpcadefjaadoor", sum := "07f945caa2f94d3d50e36f7fcfb8150111cbf1881e5ed4501c0f287a45669ade", func := "redoubt/redoubtlaw20.JoinFull", spec := "joinFull", inPlace := ["internal/reflectlite.ValueOf", "(internal/reflectlite.Value).Type", "(internal/reflectlite.Value).IsNil", "internal/reflectlite.TypeOf", "(internal/reflectlite.Value).Elem", "(internal/reflectlite.Value).Set", "slices.overlaps[redoubt/api.Ip4]"], unfollowed := true, recurses := true, named := ["errors.errorType"], plainKeys := false, apart := false, laid := [("errors.errorType", laid_errors_errorType)], narrowed := true }
def JoinFullUptoSaid : Prop := joinFullUptoRow.holds Tryd.pinned (OpenSpec.upto joinFullSpec)

end Rows
end Go.Proofs.YtnpggkpcadefjaaDoor
