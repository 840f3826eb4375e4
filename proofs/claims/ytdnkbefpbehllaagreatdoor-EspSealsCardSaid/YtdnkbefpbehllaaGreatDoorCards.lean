/-
  DERIVED. GIVEN WITH THE SEED: THE CARDS: each row of YtdnkbefpbehllaaGreatDoorRows.lean that lists a variable, with what it lists TIED to the program's text (the seventh form; the later family's looks); each row that meets fmt, with fmt's text TOLD by the authors' own Lean function (tested against real Go, not proved from fmt's source: count such statements apart). THE CARD IS WHAT COUNTS. Prove the row's statement (the work); the ties are given (YtdnkbefpbehllaaGreatDoorTie.lean); close each card by the builder's one call (the guide's Derived/Test/ToyasCard.lean, 'card_holds'). Laid BY PROGRAM, IN A SANDBOX (cutbox-door.mjs). By AI agents, Wed Nov 11 2026. No macro, syntax, notation, axiom, sorry.
-/
import Derived.Test.YtdnkbefpbehllaaGreatDoorRows
import GoSem.ClaimSeven
namespace Go.Proofs.YtdnkbefpbehllaaGreatDoor
namespace Rows

/-- THE TIED CARD OF 'redoubtlaw14.EspSeals'. -/
def espSealsCard : Claim7 := { stood := { row := espSealsRow, standIns := [], harness := (true, "3a5c349be2b210c60e41eae4b2372dc5ed0007af61407e7a790c1d3b266c48e4"), looks := true }, kinds := [], alts := [], laidByText := true, laidKinds := [.data], laidTests := true, laidLooks := .later }
def EspSealsCardSaid : Prop := Claim7.holds Tryz.pinned (.plain (OpenSpec.ofChange espSealsSpec)) espSealsCard

/-- THE TIED CARD OF 'redoubtlaw14.EspOpens'. -/
def espOpensCard : Claim7 := { stood := { row := espOpensRow, standIns := [], harness := (true, "3a5c349be2b210c60e41eae4b2372dc5ed0007af61407e7a790c1d3b266c48e4"), looks := true }, kinds := [], alts := [], laidByText := true, laidKinds := [.data], laidTests := true, laidLooks := .later }
def EspOpensCardSaid : Prop := Claim7.holds Tryz.pinned (.plain (OpenSpec.ofChange espOpensSpec)) espOpensCard

/-- THE SECOND FORM's CARD OF 'redoubtlaw14.EspSeals'. -/
def espSealsUptoCard : Claim7 := { stood := { row := espSealsUptoRow, standIns := [], harness := (true, "3a5c349be2b210c60e41eae4b2372dc5ed0007af61407e7a790c1d3b266c48e4"), looks := true }, kinds := [], alts := [], laidByText := true, laidKinds := [.data], laidTests := true, laidLooks := .later }
def EspSealsUptoCardSaid : Prop := Claim7.holds Tryz.pinned (.plain (OpenSpec.upto espSealsSpec)) espSealsUptoCard

/-- THE SECOND FORM's CARD OF 'redoubtlaw14.EspOpens'. -/
def espOpensUptoCard : Claim7 := { stood := { row := espOpensUptoRow, standIns := [], harness := (true, "3a5c349be2b210c60e41eae4b2372dc5ed0007af61407e7a790c1d3b266c48e4"), looks := true }, kinds := [], alts := [], laidByText := true, laidKinds := [.data], laidTests := true, laidLooks := .later }
def EspOpensUptoCardSaid : Prop := Claim7.holds Tryz.pinned (.plain (OpenSpec.upto espOpensSpec)) espOpensUptoCard
end Rows
end Go.Proofs.YtdnkbefpbehllaaGreatDoor
