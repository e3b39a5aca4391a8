/-
  What is proved here: what a row over this program gives a walk: the library's variables as they are laid; a slice of steps that came in, opened; a world for the witness.
-/
import Derived.Test.YtohlepbfjgehgaaGreatDoorCards
import Derived.Test.YtohlepbfjgehgaaGreatDoorTie
import Derived.Test.YtohlepbfjgehgaaGreatDoorJ1
import Derived.ProofKit
import Derived.OpenShut
import Derived.ShutString
import Derived.ChangeOld
import Derived.Deep.DeepHandedRow
import Derived.Deep.Slices
import Derived.Lib.LaidTab
import Derived.LaidHandle
import Derived.Stop.LaidErr
namespace Go.Proofs.YtohlepbfjgehgaaGreatDoor
open Go.ChangeShapes Go.WideShapes Go.ChangeAt Go.RowKit

theorem own : ownKnob Tryz.prog.godebug = none := by kernel_rfl
theorem laidOut : laidOutB Tryz.prog = true := by kernel_rfl

theorem et_global : Tryz.prog.globalNamed "errors.errorType" = some 0 := by kernel_rfl
theorem et_rtype : (Tryz.prog.cutTypes.find? (·.1 == "internal/reflectlite.rtype")).map (·.2) = some 189 := by kernel_rfl
theorem et_row : ((List.range 260).filter fun t => Tryz.prog.rowNamed t [101, 114, 114, 111, 114]) = [30] := by kernel_rfl
theorem et_size : Tryz.prog.types.size = 260 := by kernel_rfl
theorem et_handle : typeHandle Tryz.prog 30 = .pointer (some ⟨2, 30, none⟩) := by kernel_rfl

/-- the list that every row of this seat bears -/
abbrev laidList : List (String × DataW Unit) := Rows.txnBackRow.laid

theorem et_of_laid {W : World} (h : laidMetH Tryz.prog laidList W) : ET W := by
  have h' : laidMet Tryz.prog [] W ∧ handlesMet Tryz.prog [("errors.errorType", Rows.laid_errors_errorType)] W := h
  obtain ⟨name, u, ty, e1, e2, e3, e4, e5⟩ := h'.2 _ (List.mem_singleton.2 rfl)
  have en : name = [101, 114, 114, 111, 114] := (Option.some.inj e1).symm
  subst en
  obtain rfl := Option.some.inj (et_rtype.symm.trans e2)
  have hm : ty ∈ (List.range 260).filter fun t => Tryz.prog.rowNamed t [101, 114, 114, 111, 114] := List.mem_filter.2 ⟨List.mem_range.2 (by rw [← et_size]; exact e3), e4⟩
  rw [et_row] at hm
  obtain rfl := List.mem_singleton.1 hm
  rw [et_handle] at e5
  unfold ET
  simpa using World.var?_cell et_global e5 0

theorem pt_of_laid {W : World} (_ : laidMetH Tryz.prog laidList W) : PT W := trivial
/-- a block with other cells -/
def putCells (c : Array Value) : Obj → Obj
  | .cells _ t frozen => .cells c t frozen
  | o => o
/-- for the witness: a world with the listed variables holding what their initialisers lay -/
def laidOn (w : World) : World :=
  { w with heap := w.heap.modify 0 (putCells #[.iface 189 (.agg #[.pointer (some ⟨2, 30, none⟩)])]) }
theorem laid_met (os : Os) (args : Array Value) : laidMetH Tryz.prog laidList ((laidOn (World.holding Tryz.prog os ⟨#[], #[], []⟩)).forCall (fun _ _ => 0) ⟨#[], args, []⟩).memory :=
  laidMetH_of_parts (laidMet_of_run' 8 (by kernel_rfl) (by kernel_rfl)) (by kernel_rfl)

theorem cellsStep : Tryz.prog.cellsOf 169 = 2 := by kernel_rfl
theorem cellsString : Tryz.prog.cellsOf 9 = 1 := by kernel_rfl
theorem cellsInt : Tryz.prog.cellsOf 3 = 1 := by kernel_rfl
theorem fits_of_wf {n : Int} (h : (Lit.int .i64 n).wf = true) : fits n := by
  unfold fits
  simp [Lit.wf, IntKind.min, IntKind.max, IntKind.signed, IntKind.bits] at h
  omega

set_option maxRecDepth 100000 in
/-- a step that is read: its two cells -/
theorem open_step {H : Type} {enc : TypeId × Value → H} {w : World} {base : Nat} {spare : Nat → Bool} {held : Bool} {fuel : Nat} {cs : List Value} {x : DataW H × List MemPlace} (h : DataW.trod enc Tryz.prog w base spare held fuel 169 cs = some x) :
    ∃ (s : ByteArray) (k : Int), cs = [.string s, .int .i64 k] ∧ s.size ≤ maxLen ∧ fits k := by
  obtain ⟨y0, y1, n, rfl, hl, h0, h1⟩ := trod_struct2 Tryz.underlying169 h
  rw [cellsStep] at hl
  match cs, hl with
  | [c0, c1], _ =>
    have h0' : DataW.trod enc Tryz.prog w base spare held n 9 [c0] = some y0 := by have := h0; rw [cellsString] at this; simpa using this
    have h1' : DataW.trod enc Tryz.prog w base spare held n 3 [c1] = some y1 := by have := h1; rw [cellsInt] at this; simpa using this
    obtain ⟨s, hs, _, hsz⟩ := DataW.trod_string Tryz.underlying9 h0'
    obtain ⟨k, hk, _, hwf⟩ := DataW.trod_int Tryz.underlying3 h1'
    simp at hs hk
    subst hs hk
    exact ⟨s, k, rfl, hsz, fits_of_wf hwf⟩

end Go.Proofs.YtohlepbfjgehgaaGreatDoor
