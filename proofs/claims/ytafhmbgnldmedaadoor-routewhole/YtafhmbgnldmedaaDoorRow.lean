/-
  What is proved here: what a row over this program gives a walk: the library's variables as they are laid; a slice of steps that came in, opened; a world for the witness.
-/
import Derived.Test.YtafhmbgnldmedaaDoorCards
import Derived.Test.YtafhmbgnldmedaaDoorTie
import Derived.Test.YtafhmbgnldmedaaDoorBasic
import Derived.ProofKit
import Derived.OpenShut
import Derived.ShutString
import Derived.ChangeOld
import Derived.Deep.DeepHandedRow
import Derived.Deep.Slices
import Derived.Lib.LaidTab
import Derived.LaidHandle
import Derived.Stop.LaidErr
namespace Go.Proofs.YtafhmbgnldmedaaDoor
open Go.ChangeShapes Go.WideShapes Go.ChangeAt Go.RowKit

theorem own : ownKnob Tryd.prog.godebug = none := by kernel_rfl
theorem laidOut : laidOutB Tryd.prog = true := by kernel_rfl

theorem et_global : Tryd.prog.globalNamed "errors.errorType" = some 0 := by kernel_rfl
theorem et_rtype : (Tryd.prog.cutTypes.find? (·.1 == "internal/reflectlite.rtype")).map (·.2) = some 116 := by kernel_rfl
theorem et_row : ((List.range 173).filter fun t => Tryd.prog.rowNamed t [101, 114, 114, 111, 114]) = [28] := by kernel_rfl
theorem et_size : Tryd.prog.types.size = 173 := by kernel_rfl
theorem et_handle : typeHandle Tryd.prog 28 = .pointer (some ⟨4, 28, none⟩) := by kernel_rfl

/-- the list that every row of this seat bears -/
abbrev laidList : List (String × DataW Unit) := Rows.routePlaysRow.laid

theorem et_of_laid {W : World} (h : laidMetH Tryd.prog laidList W) : ET W := by
  have h' : laidMet Tryd.prog [("math/bits.deBruijn32tab", Rows.laid_math_bits_deBruijn32tab), ("math/bits.deBruijn64tab", Rows.laid_math_bits_deBruijn64tab), ("internal/strconv.uint64pow10", Rows.laid_internal_strconv_uint64pow10)] W ∧ handlesMet Tryd.prog [("errors.errorType", Rows.laid_errors_errorType)] W := h
  obtain ⟨name, u, ty, e1, e2, e3, e4, e5⟩ := h'.2 _ (List.mem_singleton.2 rfl)
  have en : name = [101, 114, 114, 111, 114] := (Option.some.inj e1).symm
  subst en
  obtain rfl := Option.some.inj (et_rtype.symm.trans e2)
  have hm : ty ∈ (List.range 173).filter fun t => Tryd.prog.rowNamed t [101, 114, 114, 111, 114] := List.mem_filter.2 ⟨List.mem_range.2 (by rw [← et_size]; exact e3), e4⟩
  rw [et_row] at hm
  obtain rfl := List.mem_singleton.1 hm
  rw [et_handle] at e5
  unfold ET
  simpa using World.var?_cell et_global e5 0

theorem pt_type : (Tryd.prog.globals[1]?).map (·.type) = some 139 := by kernel_rfl
theorem cells_pow10 : Tryd.prog.cellsOf 139 = 20 := by kernel_rfl
theorem cells_u64 : Tryd.prog.cellsOf 131 = 1 := by kernel_rfl
theorem pt_of_laid {W : World} (h : laidMetH Tryd.prog laidList W) : PT W := by
  have h' : laidMet Tryd.prog [("math/bits.deBruijn32tab", Rows.laid_math_bits_deBruijn32tab), ("math/bits.deBruijn64tab", Rows.laid_math_bits_deBruijn64tab), ("internal/strconv.uint64pow10", Rows.laid_internal_strconv_uint64pow10)] W ∧ handlesMet Tryd.prog [("errors.errorType", Rows.laid_errors_errorType)] W := h
  exact Lib.tabIs_of_head (rest := []) pow10Global pt_type Tryd.underlying139 Tryd.underlying131 cells_u64 cells_pow10 h'.1.tail.tail

/-- a table's numbers as cells -/
def tabCells {H : Type} : DataW H → Array Value
  | .agg l => (l.filterMap fun | .lit (.int k z) => some (Value.int k z) | _ => none).toArray
  | _ => #[]
/-- a block with other cells -/
def putCells (c : Array Value) : Obj → Obj
  | .cells _ t frozen => .cells c t frozen
  | o => o
/-- for the witness: a world with the listed variables holding what their initialisers lay -/
def laidOn (w : World) : World :=
  { w with heap := (((w.heap.modify 0 (putCells #[.iface 116 (.agg #[.pointer (some ⟨4, 28, none⟩)])])).modify 1 (putCells (tabCells (H := Unit) Rows.laid_internal_strconv_uint64pow10))).modify 2 (putCells (tabCells (H := Unit) Rows.laid_math_bits_deBruijn32tab))).modify 3 (putCells (tabCells (H := Unit) Rows.laid_math_bits_deBruijn64tab)) }
theorem laid_met (os : Os) (args : Array Value) : laidMetH Tryd.prog laidList ((laidOn (World.holding Tryd.prog os ⟨#[], #[], []⟩)).forCall (fun _ _ => 0) ⟨#[], args, []⟩).memory :=
  laidMetH_of_parts (laidMet_of_run' 8 (by kernel_rfl) (by kernel_rfl)) (by kernel_rfl)

theorem cellsStep : Tryd.prog.cellsOf 66 = 2 := by kernel_rfl
theorem cellsString : Tryd.prog.cellsOf 9 = 1 := by kernel_rfl
theorem cellsInt : Tryd.prog.cellsOf 3 = 1 := by kernel_rfl
theorem fits_of_wf {n : Int} (h : (Lit.int .i64 n).wf = true) : fits n := by
  unfold fits
  simp [Lit.wf, IntKind.min, IntKind.max, IntKind.signed, IntKind.bits] at h
  omega

set_option maxRecDepth 100000 in
/-- a step that is read: its two cells -/
theorem open_step {H : Type} {enc : TypeId × Value → H} {w : World} {base : Nat} {spare : Nat → Bool} {held : Bool} {fuel : Nat} {cs : List Value} {x : DataW H × List MemPlace} (h : DataW.trod enc Tryd.prog w base spare held fuel 66 cs = some x) :
    ∃ (s : ByteArray) (k : Int), cs = [.string s, .int .i64 k] ∧ s.size ≤ maxLen ∧ fits k := by
  obtain ⟨y0, y1, n, rfl, hl, h0, h1⟩ := trod_struct2 Tryd.underlying66 h
  rw [cellsStep] at hl
  match cs, hl with
  | [c0, c1], _ =>
    have h0' : DataW.trod enc Tryd.prog w base spare held n 9 [c0] = some y0 := by have := h0; rw [cellsString] at this; simpa using this
    have h1' : DataW.trod enc Tryd.prog w base spare held n 3 [c1] = some y1 := by have := h1; rw [cellsInt] at this; simpa using this
    obtain ⟨s, hs, _, hsz⟩ := DataW.trod_string Tryd.underlying9 h0'
    obtain ⟨k, hk, _, hwf⟩ := DataW.trod_int Tryd.underlying3 h1'
    simp at hs hk
    subst hs hk
    exact ⟨s, k, rfl, hsz, fits_of_wf hwf⟩

set_option maxRecDepth 100000 in
/-- a slice of steps that came in -/
theorem open_steps {H : Type} {enc : TypeId × Value → H} {W : World} {base : Nat} {v : Value} {d : DataW H} {p : List MemPlace} (hv : Value.okWide Tryd.prog W .any base 63 v) (h : DataW.Trod enc Tryd.prog W 0 (fun _ => true) true 63 v d p) :
    ∃ l : List (ByteArray × Int), Steps W W.heap.size v l ∧ l.length ≤ maxLen ∧ (∀ x ∈ l, x.1.size ≤ maxLen) ∧ ∀ x ∈ l, fits x.2 := by
  obtain ⟨a0, len, cap, rfl⟩ := okWide_slice Tryd.underlying63 hv
  obtain ⟨fuel, hf⟩ := h
  rcases Deep.open_slice Tryd.underlying63 hf with ⟨hcs, _⟩ | ⟨a, len', cap', m, n, D, Pl, hcs, _, hl, hm, hmm, _, hx⟩
  · simp [Value.cells] at hcs
    obtain ⟨rfl, rfl, rfl⟩ := hcs
    exact ⟨[], ⟨none, 0, rfl, fun k x hx => by simp at hx⟩, by simp, by simp, by simp⟩
  · simp [Value.cells] at hcs
    obtain ⟨rfl, rfl, rfl⟩ := hcs
    rw [cellsStep] at hx
    simp only [if_true] at hmm
    obtain ⟨f, hfn⟩ := Deep.choose_lt (α := ByteArray × Int) (n := len) (p := fun i x => W.cell? (a.add (i * 2)) = some (.string x.1) ∧ W.cell? (a.add (i * 2 + 1)) = some (.int .i64 x.2) ∧ x.1.size ≤ maxLen ∧ fits x.2) (fun i hi => by
      obtain ⟨cs', h1, h2⟩ := hx i (by omega)
      obtain ⟨s, k, rfl, hs, hk⟩ := open_step h2
      obtain ⟨_, _, hc⟩ := World.cells?_some h1
      have c0 := hc 0 (by omega)
      have c1 := hc 1 (by omega)
      rw [Deep.add_add] at c0 c1
      exact ⟨(s, k), by simpa using c0, by simpa using c1, hs, hk⟩)
    refine ⟨(List.range len).map f, ?_, by simp; omega, ?_, ?_⟩
    · refine ⟨some a, cap, by simp, fun k x hkx => ?_⟩
      have hlt : k < len := by
        have := (List.getElem?_eq_some_iff.1 hkx).1; simpa using this
      have hfx : f k = x := by simpa [hlt] using hkx
      obtain ⟨c0, c1, _, _⟩ := hfn k hlt
      rw [hfx] at c0 c1
      obtain ⟨b, off, spot⟩ := a
      have hlt0 := lt_of_cell c1
      have hspot : spot = none := by
        have := World.cell?_spot (hfn 0 (by omega)).1
        simpa [Addr.add] using this
      subst hspot
      have e0 : ∀ j, (⟨b, off, none⟩ : Addr).add j = ⟨b, off + j, none⟩ := by intro j; unfold Addr.add; split <;> simp_all
      rw [e0] at c0 c1 hlt0
      exact ⟨b, off, rfl, hlt0, c0, by rw [Nat.add_assoc]; exact c1⟩
    · intro x hxm
      obtain ⟨i, hi, rfl⟩ := List.mem_map.1 hxm
      exact (hfn i (List.mem_range.1 hi)).2.2.1
    · intro x hxm
      obtain ⟨i, hi, rfl⟩ := List.mem_map.1 hxm
      exact (hfn i (List.mem_range.1 hi)).2.2.2
end Go.Proofs.YtafhmbgnldmedaaDoor
