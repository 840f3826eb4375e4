/-
  DERIVED. GIVEN WITH THE SEED: THE CARDS: each row of YtppnkkpjfjhfkaaDoorRows.lean that lists a variable, with what it lists TIED to the program's text (the seventh form; the later family's looks); each row that meets fmt, with fmt's text TOLD by the authors' own Lean function (tested against real Go, not proved from fmt's source: count such statements apart). THE CARD IS WHAT COUNTS. Prove the row's statement (the work); the ties are given (YtppnkkpjfjhfkaaDoorTie.lean); close each card by the builder's one call (the guide's Derived/Test/ToyasCard.lean, 'card_holds'). Laid BY PROGRAM, IN A SANDBOX (cutbox-door.mjs). By AI agents, Wed Nov 11 2026. No macro, syntax, notation, axiom, sorry.
-/
import Derived.Test.YtppnkkpjfjhfkaaDoorRows
import GoSem.ClaimSeven
namespace Go.Proofs.YtppnkkpjfjhfkaaDoor
namespace Rows

/-- THE TIED CARD OF 'redoubtlaw17.SadDoes'. -/
def sadDoesCard : Claim7 := { stood := { row := sadDoesRow, standIns := [], harness := (true, "06de4e7dd2c6f528e1050dc8e3ef07a380ed6dc1681462977827f25bfbce37a9"), looks := true }, kinds := [], alts := [], laidByText := true, laidKinds := [.handle], laidTests := true, laidLooks := .later }
def SadDoesCardSaid : Prop := Claim7.holds Tryd.pinned (.plain (OpenSpec.ofChange sadDoesSpec)) sadDoesCard

/-- THE TIED CARD OF 'redoubtlaw17.SadOnce'. -/
def sadOnceCard : Claim7 := { stood := { row := sadOnceRow, standIns := [], harness := (true, "06de4e7dd2c6f528e1050dc8e3ef07a380ed6dc1681462977827f25bfbce37a9"), looks := true }, kinds := [], alts := [], laidByText := true, laidKinds := [.handle], laidTests := true, laidLooks := .later }
def SadOnceCardSaid : Prop := Claim7.holds Tryd.pinned (.plain (OpenSpec.ofChange sadOnceSpec)) sadOnceCard

/-- THE TIED CARD OF 'redoubtlaw17.SadAges'. -/
def sadAgesCard : Claim7 := { stood := { row := sadAgesRow, standIns := [], harness := (true, "06de4e7dd2c6f528e1050dc8e3ef07a380ed6dc1681462977827f25bfbce37a9"), looks := true }, kinds := [], alts := [], laidByText := true, laidKinds := [.handle], laidTests := true, laidLooks := .later }
def SadAgesCardSaid : Prop := Claim7.holds Tryd.pinned (.plain (OpenSpec.ofChange sadAgesSpec)) sadAgesCard

/-- THE TIED CARD OF 'redoubtlaw17.SadNil'. -/
def sadNilCard : Claim7 := { stood := { row := sadNilRow, standIns := [], harness := (true, "06de4e7dd2c6f528e1050dc8e3ef07a380ed6dc1681462977827f25bfbce37a9"), looks := true }, kinds := [], alts := [], laidByText := true, laidKinds := [.handle], laidTests := true, laidLooks := .later }
def SadNilCardSaid : Prop := Claim7.holds Tryd.pinned (.plain (OpenSpec.ofChange sadNilSpec)) sadNilCard

/-- THE TIED CARD OF 'redoubtlaw17.SadFollows'. -/
def sadFollowsCard : Claim7 := { stood := { row := sadFollowsRow, standIns := [], harness := (true, "06de4e7dd2c6f528e1050dc8e3ef07a380ed6dc1681462977827f25bfbce37a9"), looks := true }, kinds := [], alts := [], laidByText := true, laidKinds := [.handle], laidTests := true, laidLooks := .later }
def SadFollowsCardSaid : Prop := Claim7.holds Tryd.pinned (.plain (OpenSpec.ofChange sadFollowsSpec)) sadFollowsCard

/-- THE SECOND FORM's CARD OF 'redoubtlaw17.SadDoes'. -/
def sadDoesUptoCard : Claim7 := { stood := { row := sadDoesUptoRow, standIns := [], harness := (true, "06de4e7dd2c6f528e1050dc8e3ef07a380ed6dc1681462977827f25bfbce37a9"), looks := true }, kinds := [], alts := [], laidByText := true, laidKinds := [.handle], laidTests := true, laidLooks := .later }
def SadDoesUptoCardSaid : Prop := Claim7.holds Tryd.pinned (.plain (OpenSpec.upto sadDoesSpec)) sadDoesUptoCard

/-- THE SECOND FORM's CARD OF 'redoubtlaw17.SadOnce'. -/
def sadOnceUptoCard : Claim7 := { stood := { row := sadOnceUptoRow, standIns := [], harness := (true, "06de4e7dd2c6f528e1050dc8e3ef07a380ed6dc1681462977827f25bfbce37a9"), looks := true }, kinds := [], alts := [], laidByText := true, laidKinds := [.handle], laidTests := true, laidLooks := .later }
def SadOnceUptoCardSaid : Prop := Claim7.holds Tryd.pinned (.plain (OpenSpec.upto sadOnceSpec)) sadOnceUptoCard

/-- THE SECOND FORM's CARD OF 'redoubtlaw17.SadAges'. -/
def sadAgesUptoCard : Claim7 := { stood := { row := sadAgesUptoRow, standIns := [], harness := (true, "06de4e7dd2c6f528e1050dc8e3ef07a380ed6dc1681462977827f25bfbce37a9"), looks := true }, kinds := [], alts := [], laidByText := true, laidKinds := [.handle], laidTests := true, laidLooks := .later }
def SadAgesUptoCardSaid : Prop := Claim7.holds Tryd.pinned (.plain (OpenSpec.upto sadAgesSpec)) sadAgesUptoCard

/-- THE SECOND FORM's CARD OF 'redoubtlaw17.SadNil'. -/
def sadNilUptoCard : Claim7 := { stood := { row := sadNilUptoRow, standIns := [], harness := (true, "06de4e7dd2c6f528e1050dc8e3ef07a380ed6dc1681462977827f25bfbce37a9"), looks := true }, kinds := [], alts := [], laidByText := true, laidKinds := [.handle], laidTests := true, laidLooks := .later }
def SadNilUptoCardSaid : Prop := Claim7.holds Tryd.pinned (.plain (OpenSpec.upto sadNilSpec)) sadNilUptoCard

/-- THE SECOND FORM's CARD OF 'redoubtlaw17.SadFollows'. -/
def sadFollowsUptoCard : Claim7 := { stood := { row := sadFollowsUptoRow, standIns := [], harness := (true, "06de4e7dd2c6f528e1050dc8e3ef07a380ed6dc1681462977827f25bfbce37a9"), looks := true }, kinds := [], alts := [], laidByText := true, laidKinds := [.handle], laidTests := true, laidLooks := .later }
def SadFollowsUptoCardSaid : Prop := Claim7.holds Tryd.pinned (.plain (OpenSpec.upto sadFollowsSpec)) sadFollowsUptoCard
end Rows
end Go.Proofs.YtppnkkpjfjhfkaaDoor
