/-
  DERIVED. GIVEN WITH THE SEED: THE CARDS: each row of YtmhbfplaglipnaaGreatDoorRows.lean that lists a variable, with what it lists TIED to the program's text (the seventh form; the later family's looks); each row that meets fmt, with fmt's text TOLD by the authors' own Lean function (tested against real Go, not proved from fmt's source: count such statements apart). THE CARD IS WHAT COUNTS. Prove the row's statement (the work); the ties are given (YtmhbfplaglipnaaGreatDoorTie.lean); close each card by the builder's one call (the guide's Derived/Test/ToyasCard.lean, 'card_holds'). Laid BY PROGRAM, IN A SANDBOX (cutbox-door.mjs). By AI agents, Wed Nov 11 2026. No macro, syntax, notation, axiom, sorry.
-/
import Derived.Test.YtmhbfplaglipnaaGreatDoorRows
import GoSem.ClaimSeven
namespace Go.Proofs.YtmhbfplaglipnaaGreatDoor
namespace Rows

/-- THE TIED CARD OF 'cohortlaw06.MerkleNothing'. -/
def merkleNothingCard : Claim7 := { stood := { row := merkleNothingRow, standIns := [], harness := (true, "23a24ac0a8d6fe60459932ce85543ecf70427b19e248c8d9c22a37ff71ea6473"), looks := true }, kinds := [], alts := [], laidByText := true, laidKinds := [.data, .data, .data, .handle], laidTests := true, laidLooks := .later }
def MerkleNothingCardSaid : Prop := Claim7.holds Tryz.pinned (.plain (OpenSpec.ofChange merkleNothingSpec)) merkleNothingCard

/-- THE TIED CARD OF 'cohortlaw06.MerkleMade'. -/
def merkleMadeCard : Claim7 := { stood := { row := merkleMadeRow, standIns := [], harness := (true, "23a24ac0a8d6fe60459932ce85543ecf70427b19e248c8d9c22a37ff71ea6473"), looks := true }, kinds := [], alts := [], laidByText := true, laidKinds := [.data, .data, .data, .handle], laidTests := true, laidLooks := .later }
def MerkleMadeCardSaid : Prop := Claim7.holds Tryz.pinned (.plain (OpenSpec.ofChange merkleMadeSpec)) merkleMadeCard

/-- THE TIED CARD OF 'cohortlaw06.MerkleHas'. -/
def merkleHasCard : Claim7 := { stood := { row := merkleHasRow, standIns := [], harness := (true, "23a24ac0a8d6fe60459932ce85543ecf70427b19e248c8d9c22a37ff71ea6473"), looks := true }, kinds := [], alts := [], laidByText := true, laidKinds := [.data, .data, .data, .handle], laidTests := true, laidLooks := .later }
def MerkleHasCardSaid : Prop := Claim7.holds Tryz.pinned (.plain (OpenSpec.ofChange merkleHasSpec)) merkleHasCard

/-- THE TIED CARD OF 'cohortlaw06.MerkleRange'. -/
def merkleRangeCard : Claim7 := { stood := { row := merkleRangeRow, standIns := [], harness := (true, "23a24ac0a8d6fe60459932ce85543ecf70427b19e248c8d9c22a37ff71ea6473"), looks := true }, kinds := [], alts := [], laidByText := true, laidKinds := [.data, .data, .data, .handle], laidTests := true, laidLooks := .later }
def MerkleRangeCardSaid : Prop := Claim7.holds Tryz.pinned (.plain (OpenSpec.ofChange merkleRangeSpec)) merkleRangeCard

/-- THE TIED CARD OF 'cohortlaw06.MerkleSizes'. -/
def merkleSizesCard : Claim7 := { stood := { row := merkleSizesRow, standIns := [], harness := (true, "23a24ac0a8d6fe60459932ce85543ecf70427b19e248c8d9c22a37ff71ea6473"), looks := true }, kinds := [], alts := [], laidByText := true, laidKinds := [.data, .data, .data, .handle], laidTests := true, laidLooks := .later }
def MerkleSizesCardSaid : Prop := Claim7.holds Tryz.pinned (.plain (OpenSpec.ofChange merkleSizesSpec)) merkleSizesCard

/-- THE TIED CARD OF 'cohortlaw06.MerkleAgain'. -/
def merkleAgainCard : Claim7 := { stood := { row := merkleAgainRow, standIns := [], harness := (true, "23a24ac0a8d6fe60459932ce85543ecf70427b19e248c8d9c22a37ff71ea6473"), looks := true }, kinds := [], alts := [], laidByText := true, laidKinds := [.data, .data, .data, .handle], laidTests := true, laidLooks := .later }
def MerkleAgainCardSaid : Prop := Claim7.holds Tryz.pinned (.plain (OpenSpec.ofChange merkleAgainSpec)) merkleAgainCard

/-- THE TIED CARD OF 'cohortlaw06.MerkleOrder'. -/
def merkleOrderCard : Claim7 := { stood := { row := merkleOrderRow, standIns := [], harness := (true, "23a24ac0a8d6fe60459932ce85543ecf70427b19e248c8d9c22a37ff71ea6473"), looks := true }, kinds := [], alts := [], laidByText := true, laidKinds := [.data, .data, .data, .handle], laidTests := true, laidLooks := .later }
def MerkleOrderCardSaid : Prop := Claim7.holds Tryz.pinned (.plain (OpenSpec.ofChange merkleOrderSpec)) merkleOrderCard

/-- THE SECOND FORM's CARD OF 'cohortlaw06.MerkleNothing'. -/
def merkleNothingUptoCard : Claim7 := { stood := { row := merkleNothingUptoRow, standIns := [], harness := (true, "23a24ac0a8d6fe60459932ce85543ecf70427b19e248c8d9c22a37ff71ea6473"), looks := true }, kinds := [], alts := [], laidByText := true, laidKinds := [.data, .data, .data, .handle], laidTests := true, laidLooks := .later }
def MerkleNothingUptoCardSaid : Prop := Claim7.holds Tryz.pinned (.plain (OpenSpec.upto merkleNothingSpec)) merkleNothingUptoCard

/-- THE SECOND FORM's CARD OF 'cohortlaw06.MerkleMade'. -/
def merkleMadeUptoCard : Claim7 := { stood := { row := merkleMadeUptoRow, standIns := [], harness := (true, "23a24ac0a8d6fe60459932ce85543ecf70427b19e248c8d9c22a37ff71ea6473"), looks := true }, kinds := [], alts := [], laidByText := true, laidKinds := [.data, .data, .data, .handle], laidTests := true, laidLooks := .later }
def MerkleMadeUptoCardSaid : Prop := Claim7.holds Tryz.pinned (.plain (OpenSpec.upto merkleMadeSpec)) merkleMadeUptoCard

/-- THE SECOND FORM's CARD OF 'cohortlaw06.MerkleHas'. -/
def merkleHasUptoCard : Claim7 := { stood := { row := merkleHasUptoRow, standIns := [], harness := (true, "23a24ac0a8d6fe60459932ce85543ecf70427b19e248c8d9c22a37ff71ea6473"), looks := true }, kinds := [], alts := [], laidByText := true, laidKinds := [.data, .data, .data, .handle], laidTests := true, laidLooks := .later }
def MerkleHasUptoCardSaid : Prop := Claim7.holds Tryz.pinned (.plain (OpenSpec.upto merkleHasSpec)) merkleHasUptoCard

/-- THE SECOND FORM's CARD OF 'cohortlaw06.MerkleRange'. -/
def merkleRangeUptoCard : Claim7 := { stood := { row := merkleRangeUptoRow, standIns := [], harness := (true, "23a24ac0a8d6fe60459932ce85543ecf70427b19e248c8d9c22a37ff71ea6473"), looks := true }, kinds := [], alts := [], laidByText := true, laidKinds := [.data, .data, .data, .handle], laidTests := true, laidLooks := .later }
def MerkleRangeUptoCardSaid : Prop := Claim7.holds Tryz.pinned (.plain (OpenSpec.upto merkleRangeSpec)) merkleRangeUptoCard

/-- THE SECOND FORM's CARD OF 'cohortlaw06.MerkleSizes'. -/
def merkleSizesUptoCard : Claim7 := { stood := { row := merkleSizesUptoRow, standIns := [], harness := (true, "23a24ac0a8d6fe60459932ce85543ecf70427b19e248c8d9c22a37ff71ea6473"), looks := true }, kinds := [], alts := [], laidByText := true, laidKinds := [.data, .data, .data, .handle], laidTests := true, laidLooks := .later }
def MerkleSizesUptoCardSaid : Prop := Claim7.holds Tryz.pinned (.plain (OpenSpec.upto merkleSizesSpec)) merkleSizesUptoCard

/-- THE SECOND FORM's CARD OF 'cohortlaw06.MerkleAgain'. -/
def merkleAgainUptoCard : Claim7 := { stood := { row := merkleAgainUptoRow, standIns := [], harness := (true, "23a24ac0a8d6fe60459932ce85543ecf70427b19e248c8d9c22a37ff71ea6473"), looks := true }, kinds := [], alts := [], laidByText := true, laidKinds := [.data, .data, .data, .handle], laidTests := true, laidLooks := .later }
def MerkleAgainUptoCardSaid : Prop := Claim7.holds Tryz.pinned (.plain (OpenSpec.upto merkleAgainSpec)) merkleAgainUptoCard

/-- THE SECOND FORM's CARD OF 'cohortlaw06.MerkleOrder'. -/
def merkleOrderUptoCard : Claim7 := { stood := { row := merkleOrderUptoRow, standIns := [], harness := (true, "23a24ac0a8d6fe60459932ce85543ecf70427b19e248c8d9c22a37ff71ea6473"), looks := true }, kinds := [], alts := [], laidByText := true, laidKinds := [.data, .data, .data, .handle], laidTests := true, laidLooks := .later }
def MerkleOrderUptoCardSaid : Prop := Claim7.holds Tryz.pinned (.plain (OpenSpec.upto merkleOrderSpec)) merkleOrderUptoCard
end Rows
end Go.Proofs.YtmhbfplaglipnaaGreatDoor
