/-
  DERIVED. GIVEN WITH THE SEED: THE CARDS: each row of YtnojbejjlahhkaaDoorRows.lean that lists a variable, with what it lists TIED to the program's text (the seventh form; the later family's looks); each row that meets fmt, with fmt's text TOLD by the authors' own Lean function (tested against real Go, not proved from fmt's source: count such statements apart). THE CARD IS WHAT COUNTS. Prove the row's statement (the work); the ties are given (YtnojbejjlahhkaaDoorTie.lean); close each card by the builder's one call (the guide's Derived/Test/ToyasCard.lean, 'card_holds'). Laid BY PROGRAM, IN A SANDBOX (cutbox-door.mjs). By AI agents, Wed Nov 11 2026. No macro, syntax, notation, axiom, sorry.
-/
import Derived.Test.YtnojbejjlahhkaaDoorRows
import GoSem.ClaimSeven
namespace Go.Proofs.YtnojbejjlahhkaaDoor
namespace Rows

/-- THE TIED CARD OF 'cohortlaw08.LocksAlone'. -/
def locksAloneCard : Claim7 := { stood := { row := locksAloneRow, standIns := [], harness := (true, "7132eaaad8a6fadebf4e7dc8149038b9bef3f01c722e74514789cdc9324f049d"), looks := true }, kinds := [], alts := [], laidByText := true, laidKinds := [.data, .data, .data, .handle], laidTests := true, laidLooks := .later }
def LocksAloneCardSaid : Prop := Claim7.holds Tryd.pinned (.plain (OpenSpec.ofChange locksAloneSpec)) locksAloneCard

/-- THE TIED CARD OF 'cohortlaw08.LocksKeys'. -/
def locksKeysCard : Claim7 := { stood := { row := locksKeysRow, standIns := [], harness := (true, "7132eaaad8a6fadebf4e7dc8149038b9bef3f01c722e74514789cdc9324f049d"), looks := true }, kinds := [], alts := [], laidByText := true, laidKinds := [.data, .data, .data, .handle], laidTests := true, laidLooks := .later }
def LocksKeysCardSaid : Prop := Claim7.holds Tryd.pinned (.plain (OpenSpec.ofChange locksKeysSpec)) locksKeysCard

/-- THE TIED CARD OF 'cohortlaw08.LocksTwice'. -/
def locksTwiceCard : Claim7 := { stood := { row := locksTwiceRow, standIns := [], harness := (true, "7132eaaad8a6fadebf4e7dc8149038b9bef3f01c722e74514789cdc9324f049d"), looks := true }, kinds := [], alts := [], laidByText := true, laidKinds := [.data, .data, .data, .handle], laidTests := true, laidLooks := .later }
def LocksTwiceCardSaid : Prop := Claim7.holds Tryd.pinned (.plain (OpenSpec.ofChange locksTwiceSpec)) locksTwiceCard

/-- THE SECOND FORM's CARD OF 'cohortlaw08.LocksAlone'. -/
def locksAloneUptoCard : Claim7 := { stood := { row := locksAloneUptoRow, standIns := [], harness := (true, "7132eaaad8a6fadebf4e7dc8149038b9bef3f01c722e74514789cdc9324f049d"), looks := true }, kinds := [], alts := [], laidByText := true, laidKinds := [.data, .data, .data, .handle], laidTests := true, laidLooks := .later }
def LocksAloneUptoCardSaid : Prop := Claim7.holds Tryd.pinned (.plain (OpenSpec.upto locksAloneSpec)) locksAloneUptoCard

/-- THE SECOND FORM's CARD OF 'cohortlaw08.LocksKeys'. -/
def locksKeysUptoCard : Claim7 := { stood := { row := locksKeysUptoRow, standIns := [], harness := (true, "7132eaaad8a6fadebf4e7dc8149038b9bef3f01c722e74514789cdc9324f049d"), looks := true }, kinds := [], alts := [], laidByText := true, laidKinds := [.data, .data, .data, .handle], laidTests := true, laidLooks := .later }
def LocksKeysUptoCardSaid : Prop := Claim7.holds Tryd.pinned (.plain (OpenSpec.upto locksKeysSpec)) locksKeysUptoCard

/-- THE SECOND FORM's CARD OF 'cohortlaw08.LocksTwice'. -/
def locksTwiceUptoCard : Claim7 := { stood := { row := locksTwiceUptoRow, standIns := [], harness := (true, "7132eaaad8a6fadebf4e7dc8149038b9bef3f01c722e74514789cdc9324f049d"), looks := true }, kinds := [], alts := [], laidByText := true, laidKinds := [.data, .data, .data, .handle], laidTests := true, laidLooks := .later }
def LocksTwiceUptoCardSaid : Prop := Claim7.holds Tryd.pinned (.plain (OpenSpec.upto locksTwiceSpec)) locksTwiceUptoCard
end Rows
end Go.Proofs.YtnojbejjlahhkaaDoor
