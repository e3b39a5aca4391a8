/-
  What is proved here: errors.as at a **wrapped target, errors.As at both targets, errors.Is at an Errno, over this program, at errors that package fault made.
-/
import Derived.Test.YtddmjbmfkdhhgaaDoorAs2
namespace Go.Proofs.YtddmjbmfkdhhgaaDoor
open Go.RowKit Go.Extern.Stop Go.Stop Go.Extern

set_option maxHeartbeats 4000000 in
/-- errors.as with a **wrapped for its target, at a wrapped error: that one is found. -/
theorem as_wrapped (p a t : Addr) (old : Value) (w : World) (ha : w.cell? a = some (.pointer (some t))) (ht0 : w.cell? t = some old) (hf0 : w.frozen? t = false) :
    Calls Tryd.prog 60 #[.iface 82 (.pointer (some p)), .iface 91 (.pointer (some t)), .agg #[.pointer (some ⟨5, 91, none⟩), .pointer (some a), .int .u64 150], .iface 114 (.agg #[.pointer (some ⟨5, 82, none⟩)])] w
      fun ev w' => ev = .returned (.bool true) ∧ w' = ((w.alloc (.cells #[.pointer (some ⟨5, 91, none⟩), .pointer (some a), .int .u64 150] 98)).alloc (.cells #[.pointer (some p)] 82)).setCell t (.pointer (some p)) := by
  have h33 := @run_callFunc_extern Tryd.prog 57 _ (fun args => ReflectliteValue.unpack (args.getD 0 (.tuple #[]))) Tryd.func57 (by kernel_rfl) (by kernel_rfl) (by kernel_rfl) (by kernel_rfl)
  have h37 := @run_callFunc_extern Tryd.prog 65 _ ReflectliteType.typeOf Tryd.func65 (by kernel_rfl) (by kernel_rfl) (by kernel_rfl) (by kernel_rfl)
  have h80 := @run_callFunc_extern Tryd.prog 100 _ (ReflectliteType.relation "AssignableTo" ReflectliteType.assignableTo) Tryd.func100 (by kernel_rfl) (by kernel_rfl) (by kernel_rfl) (by kernel_rfl)
  have h42 := @run_callFunc_extern Tryd.prog 66 _ (ReflectliteValue.method (ReflectliteValue.valueError "reflectlite.Value.Elem" 0) ReflectliteValue.elem) Tryd.func66 (by kernel_rfl) (by kernel_rfl) (by kernel_rfl) (by kernel_rfl)
  have h43 := @run_callFunc_extern Tryd.prog 67 _ ReflectliteValue.set Tryd.func67 (by kernel_rfl) (by kernel_rfl) (by kernel_rfl) (by kernel_rfl)
  have tW := typeOfW
  have mA := methodAssignableTo
  have aW := assignableWW
  have vW := valueOfW
  have hat := lt_of_cell ha
  have htt := lt_of_cell ht0
  have el := elemVPP a t (w.alloc (.cells #[.pointer (some ⟨5, 91, none⟩), .pointer (some a), .int .u64 150] 98)) (by rw [World.cell?_alloc_lt _ _ a hat]; exact ha)
  have st := setW t ⟨w.heap.size + 1, 0, none⟩ p old ((w.alloc (.cells #[.pointer (some ⟨5, 91, none⟩), .pointer (some a), .int .u64 150] 98)).alloc (.cells #[.pointer (some p)] 82))
    (by rw [World.cell?_alloc_at _ _ _ _ (by simp)]; rfl)
    (by rw [World.cell?_alloc_lt _ _ t (by simp; omega), World.cell?_alloc_lt _ _ t htt]; exact ht0)
    (by rw [World.frozen?_alloc_old _ _ t (by simp; omega), World.frozen?_alloc_old _ _ t (by omega)]; exact hf0)
  clear ha ht0 hf0
  go_enter Tryd.func60, Tryd.ntmps60
  go_wp2
  refine wp_loop_rounds 1 ?_
  rw [rounds_succ]
  go_wp2
  go_ret
  exact ⟨rfl, rfl⟩

set_option maxHeartbeats 4000000 in
/-- errors.as with a **wrapped for its target, at a number: none is found. -/
theorem as_wrapped_not (n : Int) (a t : Addr) (w : World) :
    Calls Tryd.prog 60 #[.iface 59 (.int .i64 n), .iface 91 (.pointer (some t)), .agg #[.pointer (some ⟨5, 91, none⟩), .pointer (some a), .int .u64 150], .iface 114 (.agg #[.pointer (some ⟨5, 82, none⟩)])] w
      fun ev w' => ev = .returned (.bool false) ∧ w' = w.alloc (.cells #[.pointer (some ⟨5, 91, none⟩), .pointer (some a), .int .u64 150] 98) := by
  have h37 := @run_callFunc_extern Tryd.prog 65 _ ReflectliteType.typeOf Tryd.func65 (by kernel_rfl) (by kernel_rfl) (by kernel_rfl) (by kernel_rfl)
  have h80 := @run_callFunc_extern Tryd.prog 100 _ (ReflectliteType.relation "AssignableTo" ReflectliteType.assignableTo) Tryd.func100 (by kernel_rfl) (by kernel_rfl) (by kernel_rfl) (by kernel_rfl)
  have tE := typeOfE
  have mA := methodAssignableTo
  have aE := assignableEW
  have nA := noAsE
  have nU := noUnwrapE
  have nV := noUnwrapsE
  go_enter Tryd.func60, Tryd.ntmps60
  go_wp2
  refine wp_loop_rounds 1 ?_
  rw [rounds_succ]
  go_wp2
  go_ret
  exact ⟨rfl, rfl⟩

/-- What errors.As lays ahead of errors.as. -/
abbrev asWorld (pt : TypeId) (t : Addr) (w : World) : World :=
  (w.alloc (.cells #[.pointer (some t)] pt)).alloc (.cells #[.pointer (some ⟨5, pt, none⟩), .pointer (some ⟨w.heap.size, 0, none⟩), .int .u64 150] 98)

theorem cell_asWorld {pt : TypeId} {t : Addr} {w : World} {q : Addr} (hq : q.block < w.heap.size) : (asWorld pt t w).cell? q = w.cell? q := by
  rw [World.cell?_alloc_lt _ _ q (by simp; omega), World.cell?_alloc_lt _ _ q hq]
theorem frozen_asWorld {pt : TypeId} {t : Addr} {w : World} {q : Addr} (hq : q.block < w.heap.size) : (asWorld pt t w).frozen? q = w.frozen? q := by
  rw [World.frozen?_alloc_old _ _ q (by simp; omega), World.frozen?_alloc_old _ _ q (by omega)]
theorem ptr_asWorld (pt : TypeId) (t : Addr) (w : World) : (asWorld pt t w).cell? ⟨w.heap.size, 0, none⟩ = some (.pointer (some t)) := by
  rw [World.cell?_alloc_lt _ _ _ (by simp)]; simp

end Go.Proofs.YtddmjbmfkdhhgaaDoor
