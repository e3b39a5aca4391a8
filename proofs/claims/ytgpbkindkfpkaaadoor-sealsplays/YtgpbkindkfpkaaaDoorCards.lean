/-
  DERIVED. GIVEN WITH THE SEED: THE CARDS: each row of YtgpbkindkfpkaaaDoorRows.lean that lists a variable, with what it lists TIED to the program's text (the seventh form; the later family's looks); each row that meets fmt, with fmt's text TOLD by the authors' own Lean function (tested against real Go, not proved from fmt's source: count such statements apart). THE CARD IS WHAT COUNTS. Prove the row's statement (the work); the ties are given (YtgpbkindkfpkaaaDoorTie.lean); close each card by the builder's one call (the guide's Derived/Test/ToyasCard.lean, 'card_holds'). Laid BY PROGRAM, IN A SANDBOX (cutbox-door.mjs). By AI agents, Wed Nov 11 2026. No macro, syntax, notation, axiom, sorry.
-/
import Derived.Test.YtgpbkindkfpkaaaDoorRows
import GoSem.ClaimSeven
namespace Go.Proofs.YtgpbkindkfpkaaaDoor
namespace Rows

/-- THE TIED CARD OF 'cohortlaw04.SealsPlays'. -/
def sealsPlaysCard : Claim7 := { stood := { row := sealsPlaysRow, standIns := [], harness := (true, "9546b6d416b32a40cd244816fad4055d1608ba626ab79bba5948af1f387968d8"), looks := true }, kinds := [], alts := [], laidByText := true, laidKinds := [.data, .data, .data, .handle], laidTests := true, laidLooks := .later }
def SealsPlaysCardSaid : Prop := Claim7.holds Tryd.pinned (.plain (OpenSpec.ofChange sealsPlaysSpec)) sealsPlaysCard

/-- THE TIED CARD OF 'cohortlaw04.SealsNames'. -/
def sealsNamesCard : Claim7 := { stood := { row := sealsNamesRow, standIns := [], harness := (true, "9546b6d416b32a40cd244816fad4055d1608ba626ab79bba5948af1f387968d8"), looks := true }, kinds := [], alts := [], laidByText := true, laidKinds := [.data, .data, .data, .handle], laidTests := true, laidLooks := .later }
def SealsNamesCardSaid : Prop := Claim7.holds Tryd.pinned (.plain (OpenSpec.ofChange sealsNamesSpec)) sealsNamesCard

/-- THE TIED CARD OF 'cohortlaw04.SealsStay'. -/
def sealsStayCard : Claim7 := { stood := { row := sealsStayRow, standIns := [], harness := (true, "9546b6d416b32a40cd244816fad4055d1608ba626ab79bba5948af1f387968d8"), looks := true }, kinds := [], alts := [], laidByText := true, laidKinds := [.data, .data, .data, .handle], laidTests := true, laidLooks := .later }
def SealsStayCardSaid : Prop := Claim7.holds Tryd.pinned (.plain (OpenSpec.ofChange sealsStaySpec)) sealsStayCard

/-- THE TIED CARD OF 'cohortlaw04.SealsWho'. -/
def sealsWhoCard : Claim7 := { stood := { row := sealsWhoRow, standIns := [], harness := (true, "9546b6d416b32a40cd244816fad4055d1608ba626ab79bba5948af1f387968d8"), looks := true }, kinds := [], alts := [], laidByText := true, laidKinds := [.data, .data, .data, .handle], laidTests := true, laidLooks := .later }
def SealsWhoCardSaid : Prop := Claim7.holds Tryd.pinned (.plain (OpenSpec.ofChange sealsWhoSpec)) sealsWhoCard

/-- THE TIED CARD OF 'cohortlaw04.SealsOthers'. -/
def sealsOthersCard : Claim7 := { stood := { row := sealsOthersRow, standIns := [], harness := (true, "9546b6d416b32a40cd244816fad4055d1608ba626ab79bba5948af1f387968d8"), looks := true }, kinds := [], alts := [], laidByText := true, laidKinds := [.data, .data, .data, .handle], laidTests := true, laidLooks := .later }
def SealsOthersCardSaid : Prop := Claim7.holds Tryd.pinned (.plain (OpenSpec.ofChange sealsOthersSpec)) sealsOthersCard

/-- THE SECOND FORM's CARD OF 'cohortlaw04.SealsPlays'. -/
def sealsPlaysUptoCard : Claim7 := { stood := { row := sealsPlaysUptoRow, standIns := [], harness := (true, "9546b6d416b32a40cd244816fad4055d1608ba626ab79bba5948af1f387968d8"), looks := true }, kinds := [], alts := [], laidByText := true, laidKinds := [.data, .data, .data, .handle], laidTests := true, laidLooks := .later }
def SealsPlaysUptoCardSaid : Prop := Claim7.holds Tryd.pinned (.plain (OpenSpec.upto sealsPlaysSpec)) sealsPlaysUptoCard

/-- THE SECOND FORM's CARD OF 'cohortlaw04.SealsNames'. -/
def sealsNamesUptoCard : Claim7 := { stood := { row := sealsNamesUptoRow, standIns := [], harness := (true, "9546b6d416b32a40cd244816fad4055d1608ba626ab79bba5948af1f387968d8"), looks := true }, kinds := [], alts := [], laidByText := true, laidKinds := [.data, .data, .data, .handle], laidTests := true, laidLooks := .later }
def SealsNamesUptoCardSaid : Prop := Claim7.holds Tryd.pinned (.plain (OpenSpec.upto sealsNamesSpec)) sealsNamesUptoCard

/-- THE SECOND FORM's CARD OF 'cohortlaw04.SealsStay'. -/
def sealsStayUptoCard : Claim7 := { stood := { row := sealsStayUptoRow, standIns := [], harness := (true, "9546b6d416b32a40cd244816fad4055d1608ba626ab79bba5948af1f387968d8"), looks := true }, kinds := [], alts := [], laidByText := true, laidKinds := [.data, .data, .data, .handle], laidTests := true, laidLooks := .later }
def SealsStayUptoCardSaid : Prop := Claim7.holds Tryd.pinned (.plain (OpenSpec.upto sealsStaySpec)) sealsStayUptoCard

/-- THE SECOND FORM's CARD OF 'cohortlaw04.SealsWho'. -/
def sealsWhoUptoCard : Claim7 := { stood := { row := sealsWhoUptoRow, standIns := [], harness := (true, "9546b6d416b32a40cd244816fad4055d1608ba626ab79bba5948af1f387968d8"), looks := true }, kinds := [], alts := [], laidByText := true, laidKinds := [.data, .data, .data, .handle], laidTests := true, laidLooks := .later }
def SealsWhoUptoCardSaid : Prop := Claim7.holds Tryd.pinned (.plain (OpenSpec.upto sealsWhoSpec)) sealsWhoUptoCard

/-- THE SECOND FORM's CARD OF 'cohortlaw04.SealsOthers'. -/
def sealsOthersUptoCard : Claim7 := { stood := { row := sealsOthersUptoRow, standIns := [], harness := (true, "9546b6d416b32a40cd244816fad4055d1608ba626ab79bba5948af1f387968d8"), looks := true }, kinds := [], alts := [], laidByText := true, laidKinds := [.data, .data, .data, .handle], laidTests := true, laidLooks := .later }
def SealsOthersUptoCardSaid : Prop := Claim7.holds Tryd.pinned (.plain (OpenSpec.upto sealsOthersSpec)) sealsOthersUptoCard
end Rows
end Go.Proofs.YtgpbkindkfpkaaaDoor
