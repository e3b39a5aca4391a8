/-
  DERIVED. GIVEN WITH THE SEED: THE CARDS: each row of YtongebdafjedjaaDoorRows.lean that lists a variable, with what it lists TIED to the program's text (the seventh form; the later family's looks); each row that meets fmt, with fmt's text TOLD by the authors' own Lean function (tested against real Go, not proved from fmt's source: count such statements apart). THE CARD IS WHAT COUNTS. Prove the row's statement (the work); the ties are given (YtongebdafjedjaaDoorTie.lean); close each card by the builder's one call (the guide's Derived/Test/ToyasCard.lean, 'card_holds'). Laid BY PROGRAM, IN A SANDBOX (cutbox-door.mjs). By AI agents, Wed Nov 11 2026. No macro, syntax, notation, axiom, sorry.
-/
import Derived.Test.YtongebdafjedjaaDoorRows
import GoSem.ClaimSeven
namespace Go.Proofs.YtongebdafjedjaaDoor
namespace Rows

/-- THE TIED CARD OF 'cohortlaw03.BookTells'. -/
def bookTellsCard : Claim7 := { stood := { row := bookTellsRow, standIns := [], harness := (true, "ab5df3b796cb5b24b6c6af84c983fbd5c04a72eac6d3be051e90f8d0fc63adf4"), looks := true }, kinds := [], alts := [], laidByText := true, laidKinds := [.data, .data, .data, .handle], laidTests := true, laidLooks := .later }
def BookTellsCardSaid : Prop := Claim7.holds Tryd.pinned (.plain (OpenSpec.ofChange bookTellsSpec)) bookTellsCard

/-- THE TIED CARD OF 'cohortlaw03.BookOwn'. -/
def bookOwnCard : Claim7 := { stood := { row := bookOwnRow, standIns := [], harness := (true, "ab5df3b796cb5b24b6c6af84c983fbd5c04a72eac6d3be051e90f8d0fc63adf4"), looks := true }, kinds := [], alts := [], laidByText := true, laidKinds := [.data, .data, .data, .handle], laidTests := true, laidLooks := .later }
def BookOwnCardSaid : Prop := Claim7.holds Tryd.pinned (.plain (OpenSpec.ofChange bookOwnSpec)) bookOwnCard

/-- THE TIED CARD OF 'cohortlaw03.BookGrows'. -/
def bookGrowsCard : Claim7 := { stood := { row := bookGrowsRow, standIns := [], harness := (true, "ab5df3b796cb5b24b6c6af84c983fbd5c04a72eac6d3be051e90f8d0fc63adf4"), looks := true }, kinds := [], alts := [], laidByText := true, laidKinds := [.data, .data, .data, .handle], laidTests := true, laidLooks := .later }
def BookGrowsCardSaid : Prop := Claim7.holds Tryd.pinned (.plain (OpenSpec.ofChange bookGrowsSpec)) bookGrowsCard

/-- THE TIED CARD OF 'cohortlaw03.BookFresh'. -/
def bookFreshCard : Claim7 := { stood := { row := bookFreshRow, standIns := [], harness := (true, "ab5df3b796cb5b24b6c6af84c983fbd5c04a72eac6d3be051e90f8d0fc63adf4"), looks := true }, kinds := [], alts := [], laidByText := true, laidKinds := [.data, .data, .data, .handle], laidTests := true, laidLooks := .later }
def BookFreshCardSaid : Prop := Claim7.holds Tryd.pinned (.plain (OpenSpec.ofChange bookFreshSpec)) bookFreshCard

/-- THE SECOND FORM's CARD OF 'cohortlaw03.BookTells'. -/
def bookTellsUptoCard : Claim7 := { stood := { row := bookTellsUptoRow, standIns := [], harness := (true, "ab5df3b796cb5b24b6c6af84c983fbd5c04a72eac6d3be051e90f8d0fc63adf4"), looks := true }, kinds := [], alts := [], laidByText := true, laidKinds := [.data, .data, .data, .handle], laidTests := true, laidLooks := .later }
def BookTellsUptoCardSaid : Prop := Claim7.holds Tryd.pinned (.plain (OpenSpec.upto bookTellsSpec)) bookTellsUptoCard

/-- THE SECOND FORM's CARD OF 'cohortlaw03.BookOwn'. -/
def bookOwnUptoCard : Claim7 := { stood := { row := bookOwnUptoRow, standIns := [], harness := (true, "ab5df3b796cb5b24b6c6af84c983fbd5c04a72eac6d3be051e90f8d0fc63adf4"), looks := true }, kinds := [], alts := [], laidByText := true, laidKinds := [.data, .data, .data, .handle], laidTests := true, laidLooks := .later }
def BookOwnUptoCardSaid : Prop := Claim7.holds Tryd.pinned (.plain (OpenSpec.upto bookOwnSpec)) bookOwnUptoCard

/-- THE SECOND FORM's CARD OF 'cohortlaw03.BookGrows'. -/
def bookGrowsUptoCard : Claim7 := { stood := { row := bookGrowsUptoRow, standIns := [], harness := (true, "ab5df3b796cb5b24b6c6af84c983fbd5c04a72eac6d3be051e90f8d0fc63adf4"), looks := true }, kinds := [], alts := [], laidByText := true, laidKinds := [.data, .data, .data, .handle], laidTests := true, laidLooks := .later }
def BookGrowsUptoCardSaid : Prop := Claim7.holds Tryd.pinned (.plain (OpenSpec.upto bookGrowsSpec)) bookGrowsUptoCard

/-- THE SECOND FORM's CARD OF 'cohortlaw03.BookFresh'. -/
def bookFreshUptoCard : Claim7 := { stood := { row := bookFreshUptoRow, standIns := [], harness := (true, "ab5df3b796cb5b24b6c6af84c983fbd5c04a72eac6d3be051e90f8d0fc63adf4"), looks := true }, kinds := [], alts := [], laidByText := true, laidKinds := [.data, .data, .data, .handle], laidTests := true, laidLooks := .later }
def BookFreshUptoCardSaid : Prop := Claim7.holds Tryd.pinned (.plain (OpenSpec.upto bookFreshSpec)) bookFreshUptoCard
end Rows
end Go.Proofs.YtongebdafjedjaaDoor
