/-
  What is proved here: wire's appendRow (of texts and of numbers) and the search for a text that is too long, over this program.
-/
import Derived.Test.YtmhbfplaglipnaaGreatDoorWB
namespace Go.Proofs.YtmhbfplaglipnaaGreatDoor
open Go.RowKit Go.Extern.Stop Go.Stop Go.Extern

/-- is a text too long? -/
def anyLong (l : List (List UInt8)) : Bool := l.any fun s => decide (65536 < s.length)

end Go.Proofs.YtmhbfplaglipnaaGreatDoor
