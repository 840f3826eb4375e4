/-
  NARROWER THAN 'FOR EVERY INPUT', by the rows' own cells (each row's printed sentence says how): IcmpLays: laid · IcmpParses: laid · IcmpKinds: laid · IcmpBack: laid · IcmpAnswers: laid.
  DERIVED. THE GIVEN ROWS OF THIS SEAT. 5 by the template 'for every input the law returns true; each argument reads behind the call as it read before'; 0 by the template 'total and deterministic' (their statements: YthmleabmklnmcaaDoorTotals.lean).
  GIVEN WITH THE SEED: the statements are not yours to turn. If you find one false, say at which input.
  Laid BY PROGRAM, IN A SANDBOX (cutbox-rows.mjs): the forced cells as the released guide's own fill.sh prints them over the translation 1d6d9f67342db736… (all of the seat's roots in one cut). By AI agents, Wed Nov 11 2026. No macro, syntax, notation, axiom, sorry.
-/
import Derived.Test.YthmleabmklnmcaaDoorChecked
import GoSem.Claim
import GoSem.ClaimJoined
import GoSem.ClaimMapViews
import Derived.JoinedTies
import Derived.KernelRfl
namespace Go.Proofs.YthmleabmklnmcaaDoor
/- THE CELL 'sum', in the pinned program and in every row, IS THE sha256 OF THE DUMP (.gsa) THAT YthmleabmklnmcaaDoorProg.lean LOADS. Nothing in Lean hashes anything: it is a label: what it is worth is what the hold of that sum in a sandbox is worth. -/
noncomputable def Tryd.pinned : Pinned := { name := "ythmleabmklnmcaadoor", sum := "1d6d9f67342db73602e2723dcff5dc2aef47fe0cae1ee51139f32fbd18d774fb", checked := Tryd.checked }
namespace Rows
def none {H : Type} : Left H := { results := [], args := [] }

/- WHAT THE LISTED PACKAGE-LEVEL VARIABLES READ AS WHEN THE CALL BEGINS. Each datum BY PROGRAM (the guide's laid-datum.mjs) off the statement by which the dump's own 'gosem.cut.vars' lays the variable. In a bare row this is a premise. The card (YthmleabmklnmcaaDoorCards.lean) ties it to the program's text. -/
def laid_redoubt_icmp_families {H : Type} : DataW H := .agg [.agg [.lit (.int .i64 1), .agg [.lit (.int .i64 8), .lit (.int .i64 0), .lit (.bool false)], .agg [.lit (.int .i64 128), .lit (.int .i64 0), .lit (.bool false)]], .agg [.lit (.int .i64 2), .agg [.lit (.int .i64 0), .lit (.int .i64 0), .lit (.bool false)], .agg [.lit (.int .i64 129), .lit (.int .i64 0), .lit (.bool false)]], .agg [.lit (.int .i64 4), .agg [.lit (.int .i64 3), .lit (.int .i64 4), .lit (.bool false)], .agg [.lit (.int .i64 2), .lit (.int .i64 0), .lit (.bool true)]], .agg [.lit (.int .i64 3), .agg [.lit (.int .i64 3), .lit (.int .i64 1), .lit (.bool true)], .agg [.lit (.int .i64 1), .lit (.int .i64 0), .lit (.bool true)]], .agg [.lit (.int .i64 5), .agg [.lit (.int .i64 11), .lit (.int .i64 0), .lit (.bool true)], .agg [.lit (.int .i64 3), .lit (.int .i64 0), .lit (.bool true)]], .agg [.lit (.int .i64 6), .agg [.lit (.int .i64 12), .lit (.int .i64 0), .lit (.bool true)], .agg [.lit (.int .i64 4), .lit (.int .i64 0), .lit (.bool true)]]]

/-- 'redoubtlaw07.IcmpLays': WHATEVER THE INPUT: true; the input reads as it did. -/
def icmpLaysSpec : ChangeSpec := { name := "icmpLays", fn := fun _ => fun
  | [d1, d2, d3] => { results := [.lit (.bool true)], args := [d1, d2, d3] }
  | _ => none }
def icmpLaysRow : OpenClaim := { program := "ythmleabmklnmcaadoor", sum := "1d6d9f67342db73602e2723dcff5dc2aef47fe0cae1ee51139f32fbd18d774fb", func := "redoubt/redoubtlaw07.IcmpLays", spec := "icmpLays", unfollowed := true, recurses := true, named := ["redoubt/icmp.families"], apart := false, laid := [("redoubt/icmp.families", laid_redoubt_icmp_families)] }
def IcmpLaysSaid : Prop := icmpLaysRow.holds Tryd.pinned (OpenSpec.ofChange icmpLaysSpec)

/-- ITS FALSE NEIGHBOUR: 'it returns false'. Refute it at one input. -/
def icmpLaysWrong : ChangeSpec := { name := "icmpLays", fn := fun _ => fun
  | [d1, d2, d3] => { results := [.lit (.bool false)], args := [d1, d2, d3] }
  | _ => none }
def IcmpLaysWrongFalsely : Prop := icmpLaysRow.holds Tryd.pinned (OpenSpec.ofChange icmpLaysWrong)

/-- 'redoubtlaw07.IcmpParses': WHATEVER THE INPUT: true; the input reads as it did. -/
def icmpParsesSpec : ChangeSpec := { name := "icmpParses", fn := fun _ => fun
  | [d1, d2, d3] => { results := [.lit (.bool true)], args := [d1, d2, d3] }
  | _ => none }
def icmpParsesRow : OpenClaim := { program := "ythmleabmklnmcaadoor", sum := "1d6d9f67342db73602e2723dcff5dc2aef47fe0cae1ee51139f32fbd18d774fb", func := "redoubt/redoubtlaw07.IcmpParses", spec := "icmpParses", unfollowed := true, recurses := true, named := ["redoubt/icmp.families"], apart := false, laid := [("redoubt/icmp.families", laid_redoubt_icmp_families)] }
def IcmpParsesSaid : Prop := icmpParsesRow.holds Tryd.pinned (OpenSpec.ofChange icmpParsesSpec)

/-- ITS FALSE NEIGHBOUR: 'it returns false'. Refute it at one input. -/
def icmpParsesWrong : ChangeSpec := { name := "icmpParses", fn := fun _ => fun
  | [d1, d2, d3] => { results := [.lit (.bool false)], args := [d1, d2, d3] }
  | _ => none }
def IcmpParsesWrongFalsely : Prop := icmpParsesRow.holds Tryd.pinned (OpenSpec.ofChange icmpParsesWrong)

/-- 'redoubtlaw07.IcmpKinds': WHATEVER THE INPUT: true; the input reads as it did. -/
def icmpKindsSpec : ChangeSpec := { name := "icmpKinds", fn := fun _ => fun
  | [d1, d2, d3, d4] => { results := [.lit (.bool true)], args := [d1, d2, d3, d4] }
  | _ => none }
def icmpKindsRow : OpenClaim := { program := "ythmleabmklnmcaadoor", sum := "1d6d9f67342db73602e2723dcff5dc2aef47fe0cae1ee51139f32fbd18d774fb", func := "redoubt/redoubtlaw07.IcmpKinds", spec := "icmpKinds", unfollowed := true, recurses := true, named := ["redoubt/icmp.families"], apart := false, laid := [("redoubt/icmp.families", laid_redoubt_icmp_families)] }
def IcmpKindsSaid : Prop := icmpKindsRow.holds Tryd.pinned (OpenSpec.ofChange icmpKindsSpec)

/-- ITS FALSE NEIGHBOUR: 'it returns false'. Refute it at one input. -/
def icmpKindsWrong : ChangeSpec := { name := "icmpKinds", fn := fun _ => fun
  | [d1, d2, d3, d4] => { results := [.lit (.bool false)], args := [d1, d2, d3, d4] }
  | _ => none }
def IcmpKindsWrongFalsely : Prop := icmpKindsRow.holds Tryd.pinned (OpenSpec.ofChange icmpKindsWrong)

/-- 'redoubtlaw07.IcmpBack': WHATEVER THE INPUT: true; the input reads as it did. -/
def icmpBackSpec : ChangeSpec := { name := "icmpBack", fn := fun _ => fun
  | [d1, d2, d3, d4] => { results := [.lit (.bool true)], args := [d1, d2, d3, d4] }
  | _ => none }
def icmpBackRow : OpenClaim := { program := "ythmleabmklnmcaadoor", sum := "1d6d9f67342db73602e2723dcff5dc2aef47fe0cae1ee51139f32fbd18d774fb", func := "redoubt/redoubtlaw07.IcmpBack", spec := "icmpBack", unfollowed := true, recurses := true, named := ["redoubt/icmp.families"], apart := false, laid := [("redoubt/icmp.families", laid_redoubt_icmp_families)] }
def IcmpBackSaid : Prop := icmpBackRow.holds Tryd.pinned (OpenSpec.ofChange icmpBackSpec)

/-- ITS FALSE NEIGHBOUR: 'it returns false'. Refute it at one input. -/
def icmpBackWrong : ChangeSpec := { name := "icmpBack", fn := fun _ => fun
  | [d1, d2, d3, d4] => { results := [.lit (.bool false)], args := [d1, d2, d3, d4] }
  | _ => none }
def IcmpBackWrongFalsely : Prop := icmpBackRow.holds Tryd.pinned (OpenSpec.ofChange icmpBackWrong)

/-- 'redoubtlaw07.IcmpAnswers': WHATEVER THE INPUT: true; the input reads as it did. -/
def icmpAnswersSpec : ChangeSpec := { name := "icmpAnswers", fn := fun _ => fun
  | [d1, d2, d3, d4] => { results := [.lit (.bool true)], args := [d1, d2, d3, d4] }
  | _ => none }
def icmpAnswersRow : OpenClaim := { program := "ythmleabmklnmcaadoor", sum := "1d6d9f67342db73602e2723dcff5dc2aef47fe0cae1ee51139f32fbd18d774fb", func := "redoubt/redoubtlaw07.IcmpAnswers", spec := "icmpAnswers", unfollowed := true, recurses := true, named := ["redoubt/icmp.families"], apart := false, laid := [("redoubt/icmp.families", laid_redoubt_icmp_families)] }
def IcmpAnswersSaid : Prop := icmpAnswersRow.holds Tryd.pinned (OpenSpec.ofChange icmpAnswersSpec)

/-- ITS FALSE NEIGHBOUR: 'it returns false'. Refute it at one input. -/
def icmpAnswersWrong : ChangeSpec := { name := "icmpAnswers", fn := fun _ => fun
  | [d1, d2, d3, d4] => { results := [.lit (.bool false)], args := [d1, d2, d3, d4] }
  | _ => none }
def IcmpAnswersWrongFalsely : Prop := icmpAnswersRow.holds Tryd.pinned (OpenSpec.ofChange icmpAnswersWrong)

/- THE SECOND FORM. 'bulk': how many values and letters a reading holds, each counted each time it is reached (what is shared counts as often as it is met; a slice's spare places count too). A statement '..UptoSaid' is the law's where the arguments, and the package variables that the reading takes, are together of bulk at most 1048576: NARROWER than '..Said'. Prove '..Said' where nothing that the law and all that it calls make is longer than what came in: it says more and counts as full. Else prove '..UptoSaid'. A law counts once. -/
mutual
def uptoBulk {H : Type} : DataW H → Nat
  | .lit (.string bytes) => bytes.length + 1
  | .lit _ => 1
  | .nil => 1
  | .ptr d => uptoBulk d + 1
  | .slice elems spare => uptoBulkAll elems + uptoBulkAll spare + 1
  | .agg parts => uptoBulkAll parts + 1
  | .iface _ d => uptoBulk d + 1
  | .map entries => uptoBulkEntries entries + 1
  | .held _ => 1
def uptoBulkAll {H : Type} : List (DataW H) → Nat
  | [] => 0
  | d :: r => uptoBulk d + uptoBulkAll r
def uptoBulkEntries {H : Type} : List (Lit × DataW H) → Nat
  | [] => 0
  | x :: r => uptoBulkEntry x + uptoBulkEntries r
def uptoBulkEntry {H : Type} : Lit × DataW H → Nat
  | (.string bytes, d) => bytes.length + uptoBulk d + 1
  | (_, d) => uptoBulk d + 1
 end
def uptoSmall : (H : Type) → List (DataW H) → Bool := fun _ ds => decide (uptoBulkAll ds ≤ 1048576)
def OpenSpec.upto (s : _root_.Go.ChangeSpec) : _root_.Go.OpenSpec := { _root_.Go.OpenSpec.ofChange s with cond := some uptoSmall }

/-- 'redoubtlaw07.IcmpLays', WHERE WHAT IT READS IS OF BULK AT MOST 1048576: true; the input reads as it did. -/
def icmpLaysUptoRow : OpenClaim := { program := "ythmleabmklnmcaadoor", sum := "1d6d9f67342db73602e2723dcff5dc2aef47fe0cae1ee51139f32fbd18d774fb", func := "redoubt/redoubtlaw07.IcmpLays", spec := "icmpLays", unfollowed := true, recurses := true, named := ["redoubt/icmp.families"], apart := false, laid := [("redoubt/icmp.families", laid_redoubt_icmp_families)], narrowed := true }
def IcmpLaysUptoSaid : Prop := icmpLaysUptoRow.holds Tryd.pinned (OpenSpec.upto icmpLaysSpec)

/-- 'redoubtlaw07.IcmpParses', WHERE WHAT IT READS IS OF BULK AT MOST 1048576: true; the input reads as it did. -/
def icmpParsesUptoRow : OpenClaim := { program := "ythmleabmklnmcaadoor", sum := "1d6d9f67342db73602e2723dcff5dc2aef47fe0cae1ee51139f32fbd18d774fb", func := "redoubt/redoubtlaw07.IcmpParses", spec := "icmpParses", unfollowed := true, recurses := true, named := ["redoubt/icmp.families"], apart := false, laid := [("redoubt/icmp.families", laid_redoubt_icmp_families)], narrowed := true }
def IcmpParsesUptoSaid : Prop := icmpParsesUptoRow.holds Tryd.pinned (OpenSpec.upto icmpParsesSpec)

/-- 'redoubtlaw07.IcmpKinds', WHERE WHAT IT READS IS OF BULK AT MOST 1048576: true; the input reads as it did. -/
def icmpKindsUptoRow : OpenClaim := { program := "ythmleabmklnmcaadoor", sum := "1d6d9f67342db73602e2723dcff5dc2aef47fe0cae1ee51139f32fbd18d774fb", func := "redoubt/redoubtlaw07.IcmpKinds", spec := "icmpKinds", unfollowed := true, recurses := true, named := ["redoubt/icmp.families"], apart := false, laid := [("redoubt/icmp.families", laid_redoubt_icmp_families)], narrowed := true }
def IcmpKindsUptoSaid : Prop := icmpKindsUptoRow.holds Tryd.pinned (OpenSpec.upto icmpKindsSpec)

/-- 'redoubtlaw07.IcmpBack', WHERE WHAT IT READS IS OF BULK AT MOST 1048576: true; the input reads as it did. -/
def icmpBackUptoRow : OpenClaim := { program := "ythmleabmklnmcaadoor", sum := "1d6d9f67342db73602e2723dcff5dc2aef47fe0cae1ee51139f32fbd18d774fb", func := "redoubt/redoubtlaw07.IcmpBack", spec := "icmpBack", unfollowed := true, recurses := true, named := ["redoubt/icmp.families"], apart := false, laid := [("redoubt/icmp.families", laid_redoubt_icmp_families)], narrowed := true }
def IcmpBackUptoSaid : Prop := icmpBackUptoRow.holds Tryd.pinned (OpenSpec.upto icmpBackSpec)

/-- 'redoubtlaw07.IcmpAnswers', WHERE WHAT IT READS IS OF BULK AT MOST 1048576: true; the input reads as it did. -/
def icmpAnswersUptoRow : OpenClaim := { program := "ythmleabmklnmcaadoor", sum := "1d6d9f67342db73602e2723dcff5dc2aef47fe0cae1ee51139f32fbd18d774fb", func := "redoubt/redoubtlaw07.IcmpAnswers", spec := "icmpAnswers", unfollowed := true, recurses := true, named := ["redoubt/icmp.families"], apart := false, laid := [("redoubt/icmp.families", laid_redoubt_icmp_families)], narrowed := true }
def IcmpAnswersUptoSaid : Prop := icmpAnswersUptoRow.holds Tryd.pinned (OpenSpec.upto icmpAnswersSpec)

end Rows
end Go.Proofs.YthmleabmklnmcaaDoor
