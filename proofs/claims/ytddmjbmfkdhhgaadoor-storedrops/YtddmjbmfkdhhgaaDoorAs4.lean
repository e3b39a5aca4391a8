/-
  What is proved here: errors.As at a **wrapped target, and errors.Is at an Errno, over this program, at errors that package fault made.
-/
import Derived.Test.YtddmjbmfkdhhgaaDoorAs3
namespace Go.Proofs.YtddmjbmfkdhhgaaDoor
open Go.RowKit Go.Extern.Stop Go.Stop Go.Extern

set_option maxHeartbeats 4000000 in
theorem As_wrapped (p t : Addr) (old : Value) (w : World) (ht0 : w.cell? t = some old) (hf0 : w.frozen? t = false)
    (hg : w.cell? ⟨1, 0, none⟩ = some (.iface 114 (.agg #[.pointer (some ⟨5, 33, none⟩)]))) :
    Calls Tryd.prog 51 #[.iface 82 (.pointer (some p)), .iface 91 (.pointer (some t))] w
      fun ev w' => ev = .returned (.bool true) ∧ w' = (((asWorld 91 t w).alloc (.cells #[.pointer (some ⟨5, 91, none⟩), .pointer (some ⟨w.heap.size, 0, none⟩), .int .u64 150] 98)).alloc (.cells #[.pointer (some p)] 82)).setCell t (.pointer (some p)) := by
  have h33 := @run_callFunc_extern Tryd.prog 57 _ (fun args => ReflectliteValue.unpack (args.getD 0 (.tuple #[]))) Tryd.func57 (by kernel_rfl) (by kernel_rfl) (by kernel_rfl) (by kernel_rfl)
  have h34 := @run_callFunc_extern Tryd.prog 58 _ (ReflectliteValue.methodAny (ReflectliteValue.valueError "reflectlite.Value.Type" 0) (fun t _ _ _ => ReflectliteType.toType t)) Tryd.func58 (by kernel_rfl) (by kernel_rfl) (by kernel_rfl) (by kernel_rfl)
  have h35 := @run_callFunc_extern Tryd.prog 59 _ (ReflectliteValue.method (ReflectliteValue.valueError "reflectlite.Value.IsNil" 0) ReflectliteValue.isNil) Tryd.func59 (by kernel_rfl) (by kernel_rfl) (by kernel_rfl) (by kernel_rfl)
  have h69 := @run_callFunc_extern Tryd.prog 89 _ (ReflectliteType.abiMethod fun t => do pure (.int .u8 (← Rtype.kind t))) Tryd.func89 (by kernel_rfl) (by kernel_rfl) (by kernel_rfl) (by kernel_rfl)
  have h82 := @run_callFunc_extern Tryd.prog 102 _ (ReflectliteType.method ReflectliteType.elem) Tryd.func102 (by kernel_rfl) (by kernel_rfl) (by kernel_rfl) (by kernel_rfl)
  have h83 := @run_callFunc_extern Tryd.prog 103 _ (ReflectliteType.relation "Implements" ReflectliteType.implements_) Tryd.func103 (by kernel_rfl) (by kernel_rfl) (by kernel_rfl) (by kernel_rfl)
  have v1 := valueOfPP
  have y1 := typePP
  have mK := methodKind
  have mE := methodElem
  have mI := methodImplements
  have k1 := kindPP
  have k2 := kindW
  have e1 := elemPP
  have i1 := implementsW
  have htt := lt_of_cell ht0
  have hgl := lt_of_cell hg
  have n8 := isNilPP ⟨w.heap.size, 0, none⟩ t (asWorld 91 t w) (ptr_asWorld _ _ _)
  have hg2 : (asWorld 91 t w).cell? ⟨1, 0, none⟩ = some (.iface 114 (.agg #[.pointer (some ⟨5, 33, none⟩)])) := by rw [cell_asWorld hgl]; exact hg
  have HA := hideIt (as_wrapped p ⟨w.heap.size, 0, none⟩ t old (asWorld 91 t w) (ptr_asWorld _ _ _) (by rw [cell_asWorld htt]; exact ht0) (by rw [frozen_asWorld htt]; exact hf0))
  clear ht0 hf0 hg
  go_enter Tryd.func51, Tryd.ntmps51
  go_wp2_with (go_at_call 60; refine HA.out.mono ?_; rintro e w' ⟨rfl, rfl⟩)
  go_ret
  exact ⟨rfl, rfl⟩

set_option maxHeartbeats 4000000 in
theorem As_wrapped_not (n : Int) (t : Addr) (w : World)
    (hg : w.cell? ⟨1, 0, none⟩ = some (.iface 114 (.agg #[.pointer (some ⟨5, 33, none⟩)]))) :
    Calls Tryd.prog 51 #[.iface 59 (.int .i64 n), .iface 91 (.pointer (some t))] w
      fun ev w' => ev = .returned (.bool false) ∧ w' = (asWorld 91 t w).alloc (.cells #[.pointer (some ⟨5, 91, none⟩), .pointer (some ⟨w.heap.size, 0, none⟩), .int .u64 150] 98) := by
  have h33 := @run_callFunc_extern Tryd.prog 57 _ (fun args => ReflectliteValue.unpack (args.getD 0 (.tuple #[]))) Tryd.func57 (by kernel_rfl) (by kernel_rfl) (by kernel_rfl) (by kernel_rfl)
  have h34 := @run_callFunc_extern Tryd.prog 58 _ (ReflectliteValue.methodAny (ReflectliteValue.valueError "reflectlite.Value.Type" 0) (fun t _ _ _ => ReflectliteType.toType t)) Tryd.func58 (by kernel_rfl) (by kernel_rfl) (by kernel_rfl) (by kernel_rfl)
  have h35 := @run_callFunc_extern Tryd.prog 59 _ (ReflectliteValue.method (ReflectliteValue.valueError "reflectlite.Value.IsNil" 0) ReflectliteValue.isNil) Tryd.func59 (by kernel_rfl) (by kernel_rfl) (by kernel_rfl) (by kernel_rfl)
  have h69 := @run_callFunc_extern Tryd.prog 89 _ (ReflectliteType.abiMethod fun t => do pure (.int .u8 (← Rtype.kind t))) Tryd.func89 (by kernel_rfl) (by kernel_rfl) (by kernel_rfl) (by kernel_rfl)
  have h82 := @run_callFunc_extern Tryd.prog 102 _ (ReflectliteType.method ReflectliteType.elem) Tryd.func102 (by kernel_rfl) (by kernel_rfl) (by kernel_rfl) (by kernel_rfl)
  have h83 := @run_callFunc_extern Tryd.prog 103 _ (ReflectliteType.relation "Implements" ReflectliteType.implements_) Tryd.func103 (by kernel_rfl) (by kernel_rfl) (by kernel_rfl) (by kernel_rfl)
  have v1 := valueOfPP
  have y1 := typePP
  have mK := methodKind
  have mE := methodElem
  have mI := methodImplements
  have k1 := kindPP
  have k2 := kindW
  have e1 := elemPP
  have i1 := implementsW
  have hgl := lt_of_cell hg
  have n8 := isNilPP ⟨w.heap.size, 0, none⟩ t (asWorld 91 t w) (ptr_asWorld _ _ _)
  have hg2 : (asWorld 91 t w).cell? ⟨1, 0, none⟩ = some (.iface 114 (.agg #[.pointer (some ⟨5, 33, none⟩)])) := by rw [cell_asWorld hgl]; exact hg
  have HA := hideIt (as_wrapped_not n ⟨w.heap.size, 0, none⟩ t (asWorld 91 t w))
  clear hg
  go_enter Tryd.func51, Tryd.ntmps51
  go_wp2_with (go_at_call 60; refine HA.out.mono ?_; rintro e w' ⟨rfl, rfl⟩)
  go_ret
  exact ⟨rfl, rfl⟩

end Go.Proofs.YtddmjbmfkdhhgaaDoor
