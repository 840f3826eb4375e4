/-
  DERIVED. GIVEN WITH THE SEED: THE CARDS: each row of YthmleabmklnmcaaDoorRows.lean that lists a variable, with what it lists TIED to the program's text (the seventh form; the later family's looks); each row that meets fmt, with fmt's text TOLD by the authors' own Lean function (tested against real Go, not proved from fmt's source: count such statements apart). THE CARD IS WHAT COUNTS. Prove the row's statement (the work); the ties are given (YthmleabmklnmcaaDoorTie.lean); close each card by the builder's one call (the guide's Derived/Test/ToyasCard.lean, 'card_holds'). Laid BY PROGRAM, IN A SANDBOX (cutbox-door.mjs). By AI agents, Wed Nov 11 2026. No macro, syntax, notation, axiom, sorry.
-/
import Derived.Test.YthmleabmklnmcaaDoorRows
import GoSem.ClaimSeven
namespace Go.Proofs.YthmleabmklnmcaaDoor
namespace Rows

/-- THE TIED CARD OF 'redoubtlaw07.IcmpLays'. -/
def icmpLaysCard : Claim7 := { stood := { row := icmpLaysRow, standIns := [], harness := (true, "6d6bdc50b46811306835a90781793c5d58b52255709ecf1160c2a5182f02d598"), looks := false }, kinds := [], alts := [], laidByText := true, laidKinds := [.data], laidTests := true, laidLooks := .later }
def IcmpLaysCardSaid : Prop := Claim7.holds Tryd.pinned (.plain (OpenSpec.ofChange icmpLaysSpec)) icmpLaysCard

/-- THE TIED CARD OF 'redoubtlaw07.IcmpParses'. -/
def icmpParsesCard : Claim7 := { stood := { row := icmpParsesRow, standIns := [], harness := (true, "6d6bdc50b46811306835a90781793c5d58b52255709ecf1160c2a5182f02d598"), looks := false }, kinds := [], alts := [], laidByText := true, laidKinds := [.data], laidTests := true, laidLooks := .later }
def IcmpParsesCardSaid : Prop := Claim7.holds Tryd.pinned (.plain (OpenSpec.ofChange icmpParsesSpec)) icmpParsesCard

/-- THE TIED CARD OF 'redoubtlaw07.IcmpKinds'. -/
def icmpKindsCard : Claim7 := { stood := { row := icmpKindsRow, standIns := [], harness := (true, "6d6bdc50b46811306835a90781793c5d58b52255709ecf1160c2a5182f02d598"), looks := false }, kinds := [], alts := [], laidByText := true, laidKinds := [.data], laidTests := true, laidLooks := .later }
def IcmpKindsCardSaid : Prop := Claim7.holds Tryd.pinned (.plain (OpenSpec.ofChange icmpKindsSpec)) icmpKindsCard

/-- THE TIED CARD OF 'redoubtlaw07.IcmpBack'. -/
def icmpBackCard : Claim7 := { stood := { row := icmpBackRow, standIns := [], harness := (true, "6d6bdc50b46811306835a90781793c5d58b52255709ecf1160c2a5182f02d598"), looks := false }, kinds := [], alts := [], laidByText := true, laidKinds := [.data], laidTests := true, laidLooks := .later }
def IcmpBackCardSaid : Prop := Claim7.holds Tryd.pinned (.plain (OpenSpec.ofChange icmpBackSpec)) icmpBackCard

/-- THE TIED CARD OF 'redoubtlaw07.IcmpAnswers'. -/
def icmpAnswersCard : Claim7 := { stood := { row := icmpAnswersRow, standIns := [], harness := (true, "6d6bdc50b46811306835a90781793c5d58b52255709ecf1160c2a5182f02d598"), looks := false }, kinds := [], alts := [], laidByText := true, laidKinds := [.data], laidTests := true, laidLooks := .later }
def IcmpAnswersCardSaid : Prop := Claim7.holds Tryd.pinned (.plain (OpenSpec.ofChange icmpAnswersSpec)) icmpAnswersCard

/-- THE SECOND FORM's CARD OF 'redoubtlaw07.IcmpLays'. -/
def icmpLaysUptoCard : Claim7 := { stood := { row := icmpLaysUptoRow, standIns := [], harness := (true, "6d6bdc50b46811306835a90781793c5d58b52255709ecf1160c2a5182f02d598"), looks := false }, kinds := [], alts := [], laidByText := true, laidKinds := [.data], laidTests := true, laidLooks := .later }
def IcmpLaysUptoCardSaid : Prop := Claim7.holds Tryd.pinned (.plain (OpenSpec.upto icmpLaysSpec)) icmpLaysUptoCard

/-- THE SECOND FORM's CARD OF 'redoubtlaw07.IcmpParses'. -/
def icmpParsesUptoCard : Claim7 := { stood := { row := icmpParsesUptoRow, standIns := [], harness := (true, "6d6bdc50b46811306835a90781793c5d58b52255709ecf1160c2a5182f02d598"), looks := false }, kinds := [], alts := [], laidByText := true, laidKinds := [.data], laidTests := true, laidLooks := .later }
def IcmpParsesUptoCardSaid : Prop := Claim7.holds Tryd.pinned (.plain (OpenSpec.upto icmpParsesSpec)) icmpParsesUptoCard

/-- THE SECOND FORM's CARD OF 'redoubtlaw07.IcmpKinds'. -/
def icmpKindsUptoCard : Claim7 := { stood := { row := icmpKindsUptoRow, standIns := [], harness := (true, "6d6bdc50b46811306835a90781793c5d58b52255709ecf1160c2a5182f02d598"), looks := false }, kinds := [], alts := [], laidByText := true, laidKinds := [.data], laidTests := true, laidLooks := .later }
def IcmpKindsUptoCardSaid : Prop := Claim7.holds Tryd.pinned (.plain (OpenSpec.upto icmpKindsSpec)) icmpKindsUptoCard

/-- THE SECOND FORM's CARD OF 'redoubtlaw07.IcmpBack'. -/
def icmpBackUptoCard : Claim7 := { stood := { row := icmpBackUptoRow, standIns := [], harness := (true, "6d6bdc50b46811306835a90781793c5d58b52255709ecf1160c2a5182f02d598"), looks := false }, kinds := [], alts := [], laidByText := true, laidKinds := [.data], laidTests := true, laidLooks := .later }
def IcmpBackUptoCardSaid : Prop := Claim7.holds Tryd.pinned (.plain (OpenSpec.upto icmpBackSpec)) icmpBackUptoCard

/-- THE SECOND FORM's CARD OF 'redoubtlaw07.IcmpAnswers'. -/
def icmpAnswersUptoCard : Claim7 := { stood := { row := icmpAnswersUptoRow, standIns := [], harness := (true, "6d6bdc50b46811306835a90781793c5d58b52255709ecf1160c2a5182f02d598"), looks := false }, kinds := [], alts := [], laidByText := true, laidKinds := [.data], laidTests := true, laidLooks := .later }
def IcmpAnswersUptoCardSaid : Prop := Claim7.holds Tryd.pinned (.plain (OpenSpec.upto icmpAnswersSpec)) icmpAnswersUptoCard
end Rows
end Go.Proofs.YthmleabmklnmcaaDoor
