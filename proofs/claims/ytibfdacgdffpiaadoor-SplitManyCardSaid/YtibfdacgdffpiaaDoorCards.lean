/-
  DERIVED. GIVEN WITH THE SEED: THE CARDS: each row of YtibfdacgdffpiaaDoorRows.lean that lists a variable, with what it lists TIED to the program's text (the seventh form; the later family's looks); each row that meets fmt, with fmt's text TOLD by the authors' own Lean function (tested against real Go, not proved from fmt's source: count such statements apart). THE CARD IS WHAT COUNTS. Prove the row's statement (the work); the ties are given (YtibfdacgdffpiaaDoorTie.lean); close each card by the builder's one call (the guide's Derived/Test/ToyasCard.lean, 'card_holds'). Laid BY PROGRAM, IN A SANDBOX (cutbox-door.mjs). By AI agents, Wed Nov 11 2026. No macro, syntax, notation, axiom, sorry.
-/
import Derived.Test.YtibfdacgdffpiaaDoorRows
import GoSem.ClaimSeven
namespace Go.Proofs.YtibfdacgdffpiaaDoor
namespace Rows

/-- THE TIED CARD OF 'redoubtlaw19.SplitWhole'. -/
def splitWholeCard : Claim7 := { stood := { row := splitWholeRow, standIns := [], harness := (true, "10e316f8e557325db1226f5a611b0f4e1c9536087235098d99f1d0a3cca97dd6"), looks := true }, kinds := [], alts := [], laidByText := true, laidKinds := [.handle], laidTests := true, laidLooks := .later }
def SplitWholeCardSaid : Prop := Claim7.holds Tryd.pinned (.plain (OpenSpec.ofChange splitWholeSpec)) splitWholeCard

/-- THE TIED CARD OF 'redoubtlaw19.SplitAgain'. -/
def splitAgainCard : Claim7 := { stood := { row := splitAgainRow, standIns := [], harness := (true, "10e316f8e557325db1226f5a611b0f4e1c9536087235098d99f1d0a3cca97dd6"), looks := true }, kinds := [], alts := [], laidByText := true, laidKinds := [.handle], laidTests := true, laidLooks := .later }
def SplitAgainCardSaid : Prop := Claim7.holds Tryd.pinned (.plain (OpenSpec.ofChange splitAgainSpec)) splitAgainCard

/-- THE TIED CARD OF 'redoubtlaw19.SplitMany'. -/
def splitManyCard : Claim7 := { stood := { row := splitManyRow, standIns := [], harness := (true, "10e316f8e557325db1226f5a611b0f4e1c9536087235098d99f1d0a3cca97dd6"), looks := true }, kinds := [], alts := [], laidByText := true, laidKinds := [.handle], laidTests := true, laidLooks := .later }
def SplitManyCardSaid : Prop := Claim7.holds Tryd.pinned (.plain (OpenSpec.ofChange splitManySpec)) splitManyCard

/-- THE SECOND FORM's CARD OF 'redoubtlaw19.SplitWhole'. -/
def splitWholeUptoCard : Claim7 := { stood := { row := splitWholeUptoRow, standIns := [], harness := (true, "10e316f8e557325db1226f5a611b0f4e1c9536087235098d99f1d0a3cca97dd6"), looks := true }, kinds := [], alts := [], laidByText := true, laidKinds := [.handle], laidTests := true, laidLooks := .later }
def SplitWholeUptoCardSaid : Prop := Claim7.holds Tryd.pinned (.plain (OpenSpec.upto splitWholeSpec)) splitWholeUptoCard

/-- THE SECOND FORM's CARD OF 'redoubtlaw19.SplitAgain'. -/
def splitAgainUptoCard : Claim7 := { stood := { row := splitAgainUptoRow, standIns := [], harness := (true, "10e316f8e557325db1226f5a611b0f4e1c9536087235098d99f1d0a3cca97dd6"), looks := true }, kinds := [], alts := [], laidByText := true, laidKinds := [.handle], laidTests := true, laidLooks := .later }
def SplitAgainUptoCardSaid : Prop := Claim7.holds Tryd.pinned (.plain (OpenSpec.upto splitAgainSpec)) splitAgainUptoCard

/-- THE SECOND FORM's CARD OF 'redoubtlaw19.SplitMany'. -/
def splitManyUptoCard : Claim7 := { stood := { row := splitManyUptoRow, standIns := [], harness := (true, "10e316f8e557325db1226f5a611b0f4e1c9536087235098d99f1d0a3cca97dd6"), looks := true }, kinds := [], alts := [], laidByText := true, laidKinds := [.handle], laidTests := true, laidLooks := .later }
def SplitManyUptoCardSaid : Prop := Claim7.holds Tryd.pinned (.plain (OpenSpec.upto splitManySpec)) splitManyUptoCard
end Rows
end Go.Proofs.YtibfdacgdffpiaaDoor
