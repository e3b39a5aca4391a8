/-
  DERIVED. GIVEN WITH THE SEED: THE CARDS: each row of YtddmjbmfkdhhgaaDoorRows.lean that lists a variable, with what it lists TIED to the program's text (the seventh form; the later family's looks); each row that meets fmt, with fmt's text TOLD by the authors' own Lean function (tested against real Go, not proved from fmt's source: count such statements apart). THE CARD IS WHAT COUNTS. Prove the row's statement (the work); the ties are given (YtddmjbmfkdhhgaaDoorTie.lean); close each card by the builder's one call (the guide's Derived/Test/ToyasCard.lean, 'card_holds'). Laid BY PROGRAM, IN A SANDBOX (cutbox-door.mjs). By AI agents, Wed Nov 11 2026. No macro, syntax, notation, axiom, sorry.
-/
import Derived.Test.YtddmjbmfkdhhgaaDoorRows
import GoSem.ClaimSeven
namespace Go.Proofs.YtddmjbmfkdhhgaaDoor
namespace Rows

/-- THE TIED CARD OF 'cohortlaw07.StorePuts'. -/
def storePutsCard : Claim7 := { stood := { row := storePutsRow, standIns := [], harness := (true, "de9e4175e6416bea754ca7bc4b7494ce4d02e4bb10c6363080160d2ccdbd8995"), looks := true }, kinds := [], alts := [], laidByText := true, laidKinds := [.data, .data, .data, .handle], laidTests := true, laidLooks := .later }
def StorePutsCardSaid : Prop := Claim7.holds Tryd.pinned (.plain (OpenSpec.ofChange storePutsSpec)) storePutsCard

/-- THE TIED CARD OF 'cohortlaw07.StoreDrops'. -/
def storeDropsCard : Claim7 := { stood := { row := storeDropsRow, standIns := [], harness := (true, "de9e4175e6416bea754ca7bc4b7494ce4d02e4bb10c6363080160d2ccdbd8995"), looks := true }, kinds := [], alts := [], laidByText := true, laidKinds := [.data, .data, .data, .handle], laidTests := true, laidLooks := .later }
def StoreDropsCardSaid : Prop := Claim7.holds Tryd.pinned (.plain (OpenSpec.ofChange storeDropsSpec)) storeDropsCard

/-- THE TIED CARD OF 'cohortlaw07.StoreOrder'. -/
def storeOrderCard : Claim7 := { stood := { row := storeOrderRow, standIns := [], harness := (true, "de9e4175e6416bea754ca7bc4b7494ce4d02e4bb10c6363080160d2ccdbd8995"), looks := true }, kinds := [], alts := [], laidByText := true, laidKinds := [.data, .data, .data, .handle], laidTests := true, laidLooks := .later }
def StoreOrderCardSaid : Prop := Claim7.holds Tryd.pinned (.plain (OpenSpec.ofChange storeOrderSpec)) storeOrderCard

/-- THE TIED CARD OF 'cohortlaw07.StoreLays'. -/
def storeLaysCard : Claim7 := { stood := { row := storeLaysRow, standIns := [], harness := (true, "de9e4175e6416bea754ca7bc4b7494ce4d02e4bb10c6363080160d2ccdbd8995"), looks := true }, kinds := [], alts := [], laidByText := true, laidKinds := [.data, .data, .data, .handle], laidTests := true, laidLooks := .later }
def StoreLaysCardSaid : Prop := Claim7.holds Tryd.pinned (.plain (OpenSpec.ofChange storeLaysSpec)) storeLaysCard

/-- THE TIED CARD OF 'cohortlaw07.StoreKeys'. -/
def storeKeysCard : Claim7 := { stood := { row := storeKeysRow, standIns := [], harness := (true, "de9e4175e6416bea754ca7bc4b7494ce4d02e4bb10c6363080160d2ccdbd8995"), looks := true }, kinds := [], alts := [], laidByText := true, laidKinds := [.data, .data, .data, .handle], laidTests := true, laidLooks := .later }
def StoreKeysCardSaid : Prop := Claim7.holds Tryd.pinned (.plain (OpenSpec.ofChange storeKeysSpec)) storeKeysCard

/-- THE SECOND FORM's CARD OF 'cohortlaw07.StorePuts'. -/
def storePutsUptoCard : Claim7 := { stood := { row := storePutsUptoRow, standIns := [], harness := (true, "de9e4175e6416bea754ca7bc4b7494ce4d02e4bb10c6363080160d2ccdbd8995"), looks := true }, kinds := [], alts := [], laidByText := true, laidKinds := [.data, .data, .data, .handle], laidTests := true, laidLooks := .later }
def StorePutsUptoCardSaid : Prop := Claim7.holds Tryd.pinned (.plain (OpenSpec.upto storePutsSpec)) storePutsUptoCard

/-- THE SECOND FORM's CARD OF 'cohortlaw07.StoreDrops'. -/
def storeDropsUptoCard : Claim7 := { stood := { row := storeDropsUptoRow, standIns := [], harness := (true, "de9e4175e6416bea754ca7bc4b7494ce4d02e4bb10c6363080160d2ccdbd8995"), looks := true }, kinds := [], alts := [], laidByText := true, laidKinds := [.data, .data, .data, .handle], laidTests := true, laidLooks := .later }
def StoreDropsUptoCardSaid : Prop := Claim7.holds Tryd.pinned (.plain (OpenSpec.upto storeDropsSpec)) storeDropsUptoCard

/-- THE SECOND FORM's CARD OF 'cohortlaw07.StoreOrder'. -/
def storeOrderUptoCard : Claim7 := { stood := { row := storeOrderUptoRow, standIns := [], harness := (true, "de9e4175e6416bea754ca7bc4b7494ce4d02e4bb10c6363080160d2ccdbd8995"), looks := true }, kinds := [], alts := [], laidByText := true, laidKinds := [.data, .data, .data, .handle], laidTests := true, laidLooks := .later }
def StoreOrderUptoCardSaid : Prop := Claim7.holds Tryd.pinned (.plain (OpenSpec.upto storeOrderSpec)) storeOrderUptoCard

/-- THE SECOND FORM's CARD OF 'cohortlaw07.StoreLays'. -/
def storeLaysUptoCard : Claim7 := { stood := { row := storeLaysUptoRow, standIns := [], harness := (true, "de9e4175e6416bea754ca7bc4b7494ce4d02e4bb10c6363080160d2ccdbd8995"), looks := true }, kinds := [], alts := [], laidByText := true, laidKinds := [.data, .data, .data, .handle], laidTests := true, laidLooks := .later }
def StoreLaysUptoCardSaid : Prop := Claim7.holds Tryd.pinned (.plain (OpenSpec.upto storeLaysSpec)) storeLaysUptoCard

/-- THE SECOND FORM's CARD OF 'cohortlaw07.StoreKeys'. -/
def storeKeysUptoCard : Claim7 := { stood := { row := storeKeysUptoRow, standIns := [], harness := (true, "de9e4175e6416bea754ca7bc4b7494ce4d02e4bb10c6363080160d2ccdbd8995"), looks := true }, kinds := [], alts := [], laidByText := true, laidKinds := [.data, .data, .data, .handle], laidTests := true, laidLooks := .later }
def StoreKeysUptoCardSaid : Prop := Claim7.holds Tryd.pinned (.plain (OpenSpec.upto storeKeysSpec)) storeKeysUptoCard
end Rows
end Go.Proofs.YtddmjbmfkdhhgaaDoor
