/-
  What is proved here: errors.As at a **wrapped target, and errors.Is at an Errno, over this program, at errors that package fault made.
-/
import Derived.Test.YtafhmbgnldmedaaDoorAs3
namespace Go.Proofs.YtafhmbgnldmedaaDoor
open Go.RowKit Go.Extern.Stop Go.Stop Go.Extern

set_option maxHeartbeats 4000000 in
theorem As_wrapped (p t : Addr) (old : Value) (w : World) (ht0 : w.cell? t = some old) (hf0 : w.frozen? t = false)
    (hg : w.cell? ⟨0, 0, none⟩ = some (.iface 116 (.agg #[.pointer (some ⟨4, 28, none⟩)]))) :
    Calls Tryd.prog 45 #[.iface 92 (.pointer (some p)), .iface 112 (.pointer (some t))] w
      fun ev w' => ev = .returned (.bool true) ∧ w' = (((asWorld 112 t w).alloc (.cells #[.pointer (some ⟨4, 112, none⟩), .pointer (some ⟨w.heap.size, 0, none⟩), .int .u64 150] 101)).alloc (.cells #[.pointer (some p)] 92)).setCell t (.pointer (some p)) := by
  have h33 := @run_callFunc_extern Tryd.prog 58 _ (fun args => ReflectliteValue.unpack (args.getD 0 (.tuple #[]))) Tryd.func58 (by kernel_rfl) (by kernel_rfl) (by kernel_rfl) (by kernel_rfl)
  have h34 := @run_callFunc_extern Tryd.prog 59 _ (ReflectliteValue.methodAny (ReflectliteValue.valueError "reflectlite.Value.Type" 0) (fun t _ _ _ => ReflectliteType.toType t)) Tryd.func59 (by kernel_rfl) (by kernel_rfl) (by kernel_rfl) (by kernel_rfl)
  have h35 := @run_callFunc_extern Tryd.prog 60 _ (ReflectliteValue.method (ReflectliteValue.valueError "reflectlite.Value.IsNil" 0) ReflectliteValue.isNil) Tryd.func60 (by kernel_rfl) (by kernel_rfl) (by kernel_rfl) (by kernel_rfl)
  have h69 := @run_callFunc_extern Tryd.prog 99 _ (ReflectliteType.abiMethod fun t => do pure (.int .u8 (← Rtype.kind t))) Tryd.func99 (by kernel_rfl) (by kernel_rfl) (by kernel_rfl) (by kernel_rfl)
  have h82 := @run_callFunc_extern Tryd.prog 112 _ (ReflectliteType.method ReflectliteType.elem) Tryd.func112 (by kernel_rfl) (by kernel_rfl) (by kernel_rfl) (by kernel_rfl)
  have h83 := @run_callFunc_extern Tryd.prog 113 _ (ReflectliteType.relation "Implements" ReflectliteType.implements_) Tryd.func113 (by kernel_rfl) (by kernel_rfl) (by kernel_rfl) (by kernel_rfl)
  have v1 := valueOfPP
  have y1 := typePP
  have mK := methodKind
  have mE := methodElem
  have mI := methodImplements
  have k1 := kindPP
  have k2 := kindW
  have e1 := elemPP
  have i1 := implementsW
  have htt := lt_of_cell ht0
  have hgl := lt_of_cell hg
  have n8 := isNilPP ⟨w.heap.size, 0, none⟩ t (asWorld 112 t w) (ptr_asWorld _ _ _)
  have hg2 : (asWorld 112 t w).cell? ⟨0, 0, none⟩ = some (.iface 116 (.agg #[.pointer (some ⟨4, 28, none⟩)])) := by rw [cell_asWorld hgl]; exact hg
  have HA := hideIt (as_wrapped p ⟨w.heap.size, 0, none⟩ t old (asWorld 112 t w) (ptr_asWorld _ _ _) (by rw [cell_asWorld htt]; exact ht0) (by rw [frozen_asWorld htt]; exact hf0))
  clear ht0 hf0 hg
  go_enter Tryd.func45, Tryd.ntmps45
  go_wp2_with (go_at_call 61; refine HA.out.mono ?_; rintro e w' ⟨rfl, rfl⟩)
  go_ret
  exact ⟨rfl, rfl⟩

set_option maxHeartbeats 4000000 in
theorem As_wrapped_not (n : Int) (t : Addr) (w : World)
    (hg : w.cell? ⟨0, 0, none⟩ = some (.iface 116 (.agg #[.pointer (some ⟨4, 28, none⟩)]))) :
    Calls Tryd.prog 45 #[.iface 32 (.int .i64 n), .iface 112 (.pointer (some t))] w
      fun ev w' => ev = .returned (.bool false) ∧ w' = (asWorld 112 t w).alloc (.cells #[.pointer (some ⟨4, 112, none⟩), .pointer (some ⟨w.heap.size, 0, none⟩), .int .u64 150] 101) := by
  have h33 := @run_callFunc_extern Tryd.prog 58 _ (fun args => ReflectliteValue.unpack (args.getD 0 (.tuple #[]))) Tryd.func58 (by kernel_rfl) (by kernel_rfl) (by kernel_rfl) (by kernel_rfl)
  have h34 := @run_callFunc_extern Tryd.prog 59 _ (ReflectliteValue.methodAny (ReflectliteValue.valueError "reflectlite.Value.Type" 0) (fun t _ _ _ => ReflectliteType.toType t)) Tryd.func59 (by kernel_rfl) (by kernel_rfl) (by kernel_rfl) (by kernel_rfl)
  have h35 := @run_callFunc_extern Tryd.prog 60 _ (ReflectliteValue.method (ReflectliteValue.valueError "reflectlite.Value.IsNil" 0) ReflectliteValue.isNil) Tryd.func60 (by kernel_rfl) (by kernel_rfl) (by kernel_rfl) (by kernel_rfl)
  have h69 := @run_callFunc_extern Tryd.prog 99 _ (ReflectliteType.abiMethod fun t => do pure (.int .u8 (← Rtype.kind t))) Tryd.func99 (by kernel_rfl) (by kernel_rfl) (by kernel_rfl) (by kernel_rfl)
  have h82 := @run_callFunc_extern Tryd.prog 112 _ (ReflectliteType.method ReflectliteType.elem) Tryd.func112 (by kernel_rfl) (by kernel_rfl) (by kernel_rfl) (by kernel_rfl)
  have h83 := @run_callFunc_extern Tryd.prog 113 _ (ReflectliteType.relation "Implements" ReflectliteType.implements_) Tryd.func113 (by kernel_rfl) (by kernel_rfl) (by kernel_rfl) (by kernel_rfl)
  have v1 := valueOfPP
  have y1 := typePP
  have mK := methodKind
  have mE := methodElem
  have mI := methodImplements
  have k1 := kindPP
  have k2 := kindW
  have e1 := elemPP
  have i1 := implementsW
  have hgl := lt_of_cell hg
  have n8 := isNilPP ⟨w.heap.size, 0, none⟩ t (asWorld 112 t w) (ptr_asWorld _ _ _)
  have hg2 : (asWorld 112 t w).cell? ⟨0, 0, none⟩ = some (.iface 116 (.agg #[.pointer (some ⟨4, 28, none⟩)])) := by rw [cell_asWorld hgl]; exact hg
  have HA := hideIt (as_wrapped_not n ⟨w.heap.size, 0, none⟩ t (asWorld 112 t w))
  clear hg
  go_enter Tryd.func45, Tryd.ntmps45
  go_wp2_with (go_at_call 61; refine HA.out.mono ?_; rintro e w' ⟨rfl, rfl⟩)
  go_ret
  exact ⟨rfl, rfl⟩

end Go.Proofs.YtafhmbgnldmedaaDoor
