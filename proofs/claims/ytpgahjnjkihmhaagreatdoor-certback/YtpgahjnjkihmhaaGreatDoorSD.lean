/-
  What is proved here: the statements' own head (cohortlaw04), over this program.
-/
import Derived.Test.YtpgahjnjkihmhaaGreatDoorSC
namespace Go.Proofs.YtpgahjnjkihmhaaGreatDoor
open Go.RowKit Go.Extern.Stop Go.Stop Go.Extern

theorem head_text4 : textL [(⟨#[115, 101, 97, 108, 115]⟩, 99)] ++ errText 1 = [115, 101, 97, 108, 115, 32, 57, 57, 58, 32, 99, 111, 104, 111, 114, 116, 58, 32, 101, 114, 114, 111, 114, 32, 49] := by decide +kernel
theorem head_who : whoTo [(135, 4)] 2 4 10 = [3] := by decide +kernel

end Go.Proofs.YtpgahjnjkihmhaaGreatDoor
