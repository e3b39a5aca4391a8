/-
  What is proved here: fault's Code and Is, over this program, at errors that package fault made. Condition: errors.errorType holds the handle of the type error.
-/
import Derived.Test.YtddmjbmfkdhhgaaDoorHolds
namespace Go.Proofs.YtddmjbmfkdhhgaaDoor
open Go.RowKit Go.Extern.Stop Go.Stop Go.Extern

/-- errors.errorType lies as package errors lays it. -/
def ET (w : World) : Prop := w.cell? ⟨1, 0, none⟩ = some (.iface 114 (.agg #[.pointer (some ⟨5, 33, none⟩)]))
theorem ET.kept {B : Nat} {w w' : World} (h : ET w) (hb : Below B w w') (hB : 1 < B) : ET w' := by
  unfold ET; rw [hb.cell hB]; exact h
theorem ET.lt {w : World} (h : ET w) : 1 < w.heap.size := lt_of_cell (a := ⟨1, 0, none⟩) h

theorem below_set {B : Nat} {w W : World} (h : Below B w W) (t : Addr) (v : Value) : Below B (w.setCell t v) (W.setCell t v) := by
  refine ⟨h.os, h.tape, h.output, by simpa [World.setCell] using h.size, fun k hk => ?_⟩
  simp only [World.setCell, Array.getElem?_modify]
  by_cases e : t.block = k
  · rw [if_pos e, if_pos e, h.block k hk]
  · rw [if_neg e, if_neg e, h.block k hk]

theorem size_set (w : World) (t : Addr) (v : Value) : (w.setCell t v).heap.size = w.heap.size := by simp [World.setCell]

theorem hmf : ∀ (fn : Fn) (first cap : Array Value) (w : World), (Instr.makeFunc fn first cap).run Tryd.prog w = .ok (.func fn first cap) w := fun _ _ _ _ => rfl
theorem enterTold1 (cap : Array Value) (W : World) : (callFunc 47 cap).run Tryd.prog W = .ok (.enter 47 cap) W := by simp [go_sem]
theorem enterOut1 (cap : Array Value) (W : World) : (callFunc 50 cap).run Tryd.prog W = .ok (.enter 50 cap) W := by simp [go_sem]

/-- two boxes and a third, laid one behind the other: what each holds -/
theorem cell3_0 (w : World) (x y z : Value) (tx ty tz : TypeId) : (((w.alloc (.cells #[x] tx)).alloc (.cells #[y] ty)).alloc (.cells #[z] tz)).cell? ⟨w.heap.size, 0, none⟩ = some x := by
  rw [World.cell?_alloc_lt _ _ _ (by simp; omega), World.cell?_alloc_lt _ _ _ (by simp)]; simp
theorem cell3_1 (w : World) (x y z : Value) (tx ty tz : TypeId) : (((w.alloc (.cells #[x] tx)).alloc (.cells #[y] ty)).alloc (.cells #[z] tz)).cell? ⟨w.heap.size + 1, 0, none⟩ = some y := by
  rw [World.cell?_alloc_lt _ _ _ (by simp), World.cell?_alloc_at _ _ _ _ (by simp)]; rfl
theorem cell3_2 (w : World) (x y z : Value) (tx ty tz : TypeId) : (((w.alloc (.cells #[x] tx)).alloc (.cells #[y] ty)).alloc (.cells #[z] tz)).cell? ⟨w.heap.size + 1 + 1, 0, none⟩ = some z := by
  rw [World.cell?_alloc_at _ _ _ _ (by simp)]; rfl
theorem froz3_1 (w : World) (x y z : Value) (tx ty tz : TypeId) : (((w.alloc (.cells #[x] tx)).alloc (.cells #[y] ty)).alloc (.cells #[z] tz)).frozen? ⟨w.heap.size + 1, 0, none⟩ = false := by
  rw [World.frozen?_alloc_old _ _ _ (by simp)]; simp
theorem froz3_2 (w : World) (x y z : Value) (tx ty tz : TypeId) : (((w.alloc (.cells #[x] tx)).alloc (.cells #[y] ty)).alloc (.cells #[z] tz)).frozen? ⟨w.heap.size + 1 + 1, 0, none⟩ = false := World.frozen?_alloc_at _ _ _ _ (by simp)
theorem below3 (w : World) (x y z : Value) (tx ty tz : TypeId) : Below w.heap.size w (((w.alloc (.cells #[x] tx)).alloc (.cells #[y] ty)).alloc (.cells #[z] tz)) :=
  (((Below.refl _ _).alloc (Nat.le_refl _) _).alloc (by simp) _).alloc (by simp; omega) _
theorem below2 (w : World) (x y : Value) (tx ty : TypeId) : Below w.heap.size w ((w.alloc (.cells #[x] tx)).alloc (.cells #[y] ty)) :=
  ((Below.refl _ _).alloc (Nat.le_refl _) _).alloc (by simp) _

/-- behind a closure that writes the second box: what holds leaves -/
theorem closed3 {w W : World} {x y z u : Value} {tx ty tz : TypeId} (hb : Below (((w.alloc (.cells #[x] tx)).alloc (.cells #[y] ty)).alloc (.cells #[z] tz)).heap.size ((((w.alloc (.cells #[x] tx)).alloc (.cells #[y] ty)).alloc (.cells #[z] tz)).setCell ⟨w.heap.size + 1, 0, none⟩ u) W) :
    W.cell? ⟨w.heap.size + 1 + 1, 0, none⟩ = some z ∧ W.frozen? ⟨w.heap.size + 1 + 1, 0, none⟩ = false ∧ W.cell? ⟨w.heap.size + 1, 0, none⟩ = some u ∧ W.frozen? ⟨w.heap.size + 1, 0, none⟩ = false ∧ Below w.heap.size w W := by
  have hs : (((w.alloc (.cells #[x] tx)).alloc (.cells #[y] ty)).alloc (.cells #[z] tz)).heap.size = w.heap.size + 1 + 1 + 1 := by simp
  refine ⟨?_, ?_, ?_, ?_, ?_⟩
  · rw [hb.cell (by rw [hs]; show w.heap.size + 1 + 1 < _; omega), World.cell?_setCell_other _ _ _ _ (by simp), cell3_2]
  · rw [hb.frozen (by rw [hs]; show w.heap.size + 1 + 1 < _; omega), World.frozen?_setCell, froz3_2]
  · rw [hb.cell (by rw [hs]; show w.heap.size + 1 < _; omega)]; exact World.cell?_setCell_same _ _ _ (cell3_1 ..)
  · rw [hb.frozen (by rw [hs]; show w.heap.size + 1 < _; omega), World.frozen?_setCell, froz3_1]
  · exact ((below3 ..).setCell (by show w.heap.size ≤ w.heap.size + 1; omega) _).trans (hb.mono (by rw [hs]; omega))

end Go.Proofs.YtddmjbmfkdhhgaaDoor
