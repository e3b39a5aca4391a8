/-
  What is proved here: the document's Same of certificates, over this program.
-/
import Derived.Test.YtpgahjnjkihmhaaGreatDoorSH
import Derived.Test.YtpgahjnjkihmhaaGreatDoorCB
namespace Go.Proofs.YtpgahjnjkihmhaaGreatDoor
open Go.RowKit Go.Extern.Stop Go.Stop Go.Extern

set_option maxRecDepth 100000 in
set_option maxHeartbeats 8000000 in
theorem dcSame_true (A B : Nat → Prop) (g d : Int) (x y : Value) (l : List Int) (w : World) (hx : NumsIn w A x l) (hy : NumsIn w B y l) (hlen : l.length ≤ 1000000) :
    Calls Tryz.prog 7 #[.agg #[.int .i64 g, .int .i64 d, x], .agg #[.int .i64 g, .int .i64 d, y]] w fun e w' => e = .returned (.bool true) ∧ Below w.heap.size w w' := by
  have H1 := hideIt hx
  have H2 := hideIt hy
  have HL := hideIt hlen
  obtain ⟨a1, cap1, rfl⟩ := hx.form
  obtain ⟨a2, cap2, rfl⟩ := hy.form
  clear hx hy hlen
  go_enter Tryz.func7, Tryz.ntmps7
  go_wp2_with fail
  have hb : Below w.heap.size w ((w.alloc (.cells #[.int .i64 g, .int .i64 d, .slice a1 l.length cap1] 24)).alloc (.cells #[.int .i64 g, .int .i64 d, .slice a2 l.length cap2] 24)) := ((Below.refl _ _).alloc (Nat.le_refl _) _).alloc (by simp) _
  refine (SameInts_true A B _ _ l _ (RowIn.kept H1.out (Kept.of_all hb)) (RowIn.kept H2.out (Kept.of_all hb)) HL.out).mono ?_
  rintro e w3 ⟨rfl, hb3⟩
  have HB3 := hideIt (hb.trans (hb3.mono hb.size))
  clear hb hb3
  go_wp2
  go_ret
  exact ⟨rfl, HB3.out⟩
end Go.Proofs.YtpgahjnjkihmhaaGreatDoor
