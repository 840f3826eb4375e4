/-
  DERIVED. GIVEN WITH THE SEED: THE CARDS: each row of YtnpggkpcadefjaaDoorRows.lean that lists a variable, with what it lists TIED to the program's text (the seventh form; the later family's looks); each row that meets fmt, with fmt's text TOLD by the authors' own Lean function (tested against real Go, not proved from fmt's source: count such statements apart). THE CARD IS WHAT COUNTS. Prove the row's statement (the work); the ties are given (YtnpggkpcadefjaaDoorTie.lean); close each card by the builder's one call (the guide's Derived/Test/ToyasCard.lean, 'card_holds'). Laid BY PROGRAM, IN A SANDBOX (cutbox-door.mjs). By AI agents, Wed Nov 11 2026. No macro, syntax, notation, axiom, sorry.
-/
import Derived.Test.YtnpggkpcadefjaaDoorRows
import GoSem.ClaimSeven
namespace Go.Proofs.YtnpggkpcadefjaaDoor
namespace Rows

/-- THE TIED CARD OF 'redoubtlaw20.JoinDoes'. -/
def joinDoesCard : Claim7 := { stood := { row := joinDoesRow, standIns := [], harness := (true, "dbdbeae4daa61bd7df1777d836c455285d1a7be3d07dd6289223e67d2170c4d9"), looks := true }, kinds := [], alts := [], laidByText := true, laidKinds := [.handle], laidTests := true, laidLooks := .later }
def JoinDoesCardSaid : Prop := Claim7.holds Tryd.pinned (.plain (OpenSpec.ofChange joinDoesSpec)) joinDoesCard

/-- THE TIED CARD OF 'redoubtlaw20.JoinSplits'. -/
def joinSplitsCard : Claim7 := { stood := { row := joinSplitsRow, standIns := [], harness := (true, "dbdbeae4daa61bd7df1777d836c455285d1a7be3d07dd6289223e67d2170c4d9"), looks := true }, kinds := [], alts := [], laidByText := true, laidKinds := [.handle], laidTests := true, laidLooks := .later }
def JoinSplitsCardSaid : Prop := Claim7.holds Tryd.pinned (.plain (OpenSpec.ofChange joinSplitsSpec)) joinSplitsCard

/-- THE TIED CARD OF 'redoubtlaw20.JoinTicks'. -/
def joinTicksCard : Claim7 := { stood := { row := joinTicksRow, standIns := [], harness := (true, "dbdbeae4daa61bd7df1777d836c455285d1a7be3d07dd6289223e67d2170c4d9"), looks := true }, kinds := [], alts := [], laidByText := true, laidKinds := [.handle], laidTests := true, laidLooks := .later }
def JoinTicksCardSaid : Prop := Claim7.holds Tryd.pinned (.plain (OpenSpec.ofChange joinTicksSpec)) joinTicksCard

/-- THE TIED CARD OF 'redoubtlaw20.JoinNil'. -/
def joinNilCard : Claim7 := { stood := { row := joinNilRow, standIns := [], harness := (true, "dbdbeae4daa61bd7df1777d836c455285d1a7be3d07dd6289223e67d2170c4d9"), looks := true }, kinds := [], alts := [], laidByText := true, laidKinds := [.handle], laidTests := true, laidLooks := .later }
def JoinNilCardSaid : Prop := Claim7.holds Tryd.pinned (.plain (OpenSpec.ofChange joinNilSpec)) joinNilCard

/-- THE TIED CARD OF 'redoubtlaw20.JoinFull'. -/
def joinFullCard : Claim7 := { stood := { row := joinFullRow, standIns := [], harness := (true, "dbdbeae4daa61bd7df1777d836c455285d1a7be3d07dd6289223e67d2170c4d9"), looks := true }, kinds := [], alts := [], laidByText := true, laidKinds := [.handle], laidTests := true, laidLooks := .later }
def JoinFullCardSaid : Prop := Claim7.holds Tryd.pinned (.plain (OpenSpec.ofChange joinFullSpec)) joinFullCard

/-- THE SECOND FORM's CARD OF 'redoubtlaw20.JoinDoes'. -/
def joinDoesUptoCard : Claim7 := { stood := { row := joinDoesUptoRow, standIns := [], harness := (true, "dbdbeae4daa61bd7df1777d836c455285d1a7be3d07dd6289223e67d2170c4d9"), looks := true }, kinds := [], alts := [], laidByText := true, laidKinds := [.handle], laidTests := true, laidLooks := .later }
def JoinDoesUptoCardSaid : Prop := Claim7.holds Tryd.pinned (.plain (OpenSpec.upto joinDoesSpec)) joinDoesUptoCard

/-- THE SECOND FORM's CARD OF 'redoubtlaw20.JoinSplits'. -/
def joinSplitsUptoCard : Claim7 := { stood := { row := joinSplitsUptoRow, standIns := [], harness := (true, "dbdbeae4daa61bd7df1777d836c455285d1a7be3d07dd6289223e67d2170c4d9"), looks := true }, kinds := [], alts := [], laidByText := true, laidKinds := [.handle], laidTests := true, laidLooks := .later }
def JoinSplitsUptoCardSaid : Prop := Claim7.holds Tryd.pinned (.plain (OpenSpec.upto joinSplitsSpec)) joinSplitsUptoCard

/-- THE SECOND FORM's CARD OF 'redoubtlaw20.JoinTicks'. -/
def joinTicksUptoCard : Claim7 := { stood := { row := joinTicksUptoRow, standIns := [], harness := (true, "dbdbeae4daa61bd7df1777d836c455285d1a7be3d07dd6289223e67d2170c4d9"), looks := true }, kinds := [], alts := [], laidByText := true, laidKinds := [.handle], laidTests := true, laidLooks := .later }
def JoinTicksUptoCardSaid : Prop := Claim7.holds Tryd.pinned (.plain (OpenSpec.upto joinTicksSpec)) joinTicksUptoCard

/-- THE SECOND FORM's CARD OF 'redoubtlaw20.JoinNil'. -/
def joinNilUptoCard : Claim7 := { stood := { row := joinNilUptoRow, standIns := [], harness := (true, "dbdbeae4daa61bd7df1777d836c455285d1a7be3d07dd6289223e67d2170c4d9"), looks := true }, kinds := [], alts := [], laidByText := true, laidKinds := [.handle], laidTests := true, laidLooks := .later }
def JoinNilUptoCardSaid : Prop := Claim7.holds Tryd.pinned (.plain (OpenSpec.upto joinNilSpec)) joinNilUptoCard

/-- THE SECOND FORM's CARD OF 'redoubtlaw20.JoinFull'. -/
def joinFullUptoCard : Claim7 := { stood := { row := joinFullUptoRow, standIns := [], harness := (true, "dbdbeae4daa61bd7df1777d836c455285d1a7be3d07dd6289223e67d2170c4d9"), looks := true }, kinds := [], alts := [], laidByText := true, laidKinds := [.handle], laidTests := true, laidLooks := .later }
def JoinFullUptoCardSaid : Prop := Claim7.holds Tryd.pinned (.plain (OpenSpec.upto joinFullSpec)) joinFullUptoCard
end Rows
end Go.Proofs.YtnpggkpcadefjaaDoor
