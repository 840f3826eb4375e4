/-
  DERIVED. GIVEN WITH THE SEED: THE CARDS: each row of YtdnkbefpbehllaaDoorRows.lean that lists a variable, with what it lists TIED to the program's text (the seventh form; the later family's looks); each row that meets fmt, with fmt's text TOLD by the authors' own Lean function (tested against real Go, not proved from fmt's source: count such statements apart). THE CARD IS WHAT COUNTS. Prove the row's statement (the work); the ties are given (YtdnkbefpbehllaaDoorTie.lean); close each card by the builder's one call (the guide's Derived/Test/ToyasCard.lean, 'card_holds'). Laid BY PROGRAM, IN A SANDBOX (cutbox-door.mjs). By AI agents, Wed Nov 11 2026. No macro, syntax, notation, axiom, sorry.
-/
import Derived.Test.YtdnkbefpbehllaaDoorRows
import GoSem.ClaimSeven
namespace Go.Proofs.YtdnkbefpbehllaaDoor
namespace Rows

/-- THE TIED CARD OF 'redoubtlaw14.EspBack'. -/
def espBackCard : Claim7 := { stood := { row := espBackRow, standIns := [], harness := (true, "6e2ee7ed5797480d5b5d1f794f1c9c5959810bcc7820d34d691b60421fbe362e"), looks := true }, kinds := [], alts := [], laidByText := true, laidKinds := [.data], laidTests := true, laidLooks := .later }
def EspBackCardSaid : Prop := Claim7.holds Tryd.pinned (.plain (OpenSpec.ofChange espBackSpec)) espBackCard

/-- THE TIED CARD OF 'redoubtlaw14.EspForged'. -/
def espForgedCard : Claim7 := { stood := { row := espForgedRow, standIns := [], harness := (true, "6e2ee7ed5797480d5b5d1f794f1c9c5959810bcc7820d34d691b60421fbe362e"), looks := true }, kinds := [], alts := [], laidByText := true, laidKinds := [.data], laidTests := true, laidLooks := .later }
def EspForgedCardSaid : Prop := Claim7.holds Tryd.pinned (.plain (OpenSpec.ofChange espForgedSpec)) espForgedCard

/-- THE TIED CARD OF 'redoubtlaw14.EspNumbers'. -/
def espNumbersCard : Claim7 := { stood := { row := espNumbersRow, standIns := [], harness := (true, "6e2ee7ed5797480d5b5d1f794f1c9c5959810bcc7820d34d691b60421fbe362e"), looks := true }, kinds := [], alts := [], laidByText := true, laidKinds := [.data], laidTests := true, laidLooks := .later }
def EspNumbersCardSaid : Prop := Claim7.holds Tryd.pinned (.plain (OpenSpec.ofChange espNumbersSpec)) espNumbersCard

/-- THE SECOND FORM's CARD OF 'redoubtlaw14.EspBack'. -/
def espBackUptoCard : Claim7 := { stood := { row := espBackUptoRow, standIns := [], harness := (true, "6e2ee7ed5797480d5b5d1f794f1c9c5959810bcc7820d34d691b60421fbe362e"), looks := true }, kinds := [], alts := [], laidByText := true, laidKinds := [.data], laidTests := true, laidLooks := .later }
def EspBackUptoCardSaid : Prop := Claim7.holds Tryd.pinned (.plain (OpenSpec.upto espBackSpec)) espBackUptoCard

/-- THE SECOND FORM's CARD OF 'redoubtlaw14.EspForged'. -/
def espForgedUptoCard : Claim7 := { stood := { row := espForgedUptoRow, standIns := [], harness := (true, "6e2ee7ed5797480d5b5d1f794f1c9c5959810bcc7820d34d691b60421fbe362e"), looks := true }, kinds := [], alts := [], laidByText := true, laidKinds := [.data], laidTests := true, laidLooks := .later }
def EspForgedUptoCardSaid : Prop := Claim7.holds Tryd.pinned (.plain (OpenSpec.upto espForgedSpec)) espForgedUptoCard

/-- THE SECOND FORM's CARD OF 'redoubtlaw14.EspNumbers'. -/
def espNumbersUptoCard : Claim7 := { stood := { row := espNumbersUptoRow, standIns := [], harness := (true, "6e2ee7ed5797480d5b5d1f794f1c9c5959810bcc7820d34d691b60421fbe362e"), looks := true }, kinds := [], alts := [], laidByText := true, laidKinds := [.data], laidTests := true, laidLooks := .later }
def EspNumbersUptoCardSaid : Prop := Claim7.holds Tryd.pinned (.plain (OpenSpec.upto espNumbersSpec)) espNumbersUptoCard
end Rows
end Go.Proofs.YtdnkbefpbehllaaDoor
