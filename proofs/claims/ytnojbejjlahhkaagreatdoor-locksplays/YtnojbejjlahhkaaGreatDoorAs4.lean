/-
  What is proved here: errors.As at a **wrapped target, and errors.Is at an Errno, over this program, at errors that package fault made.
-/
import Derived.Test.YtnojbejjlahhkaaGreatDoorAs3
namespace Go.Proofs.YtnojbejjlahhkaaGreatDoor
open Go.RowKit Go.Extern.Stop Go.Stop Go.Extern

set_option maxHeartbeats 4000000 in
theorem As_wrapped (p t : Addr) (old : Value) (w : World) (ht0 : w.cell? t = some old) (hf0 : w.frozen? t = false)
    (hg : w.cell? ⟨0, 0, none⟩ = some (.iface 103 (.agg #[.pointer (some ⟨4, 35, none⟩)]))) :
    Calls Tryz.prog 29 #[.iface 93 (.pointer (some p)), .iface 116 (.pointer (some t))] w
      fun ev w' => ev = .returned (.bool true) ∧ w' = (((asWorld 116 t w).alloc (.cells #[.pointer (some ⟨4, 116, none⟩), .pointer (some ⟨w.heap.size, 0, none⟩), .int .u64 150] 84)).alloc (.cells #[.pointer (some p)] 93)).setCell t (.pointer (some p)) := by
  have h33 := @run_callFunc_extern Tryz.prog 41 _ (fun args => ReflectliteValue.unpack (args.getD 0 (.tuple #[]))) Tryz.func41 (by kernel_rfl) (by kernel_rfl) (by kernel_rfl) (by kernel_rfl)
  have h34 := @run_callFunc_extern Tryz.prog 42 _ (ReflectliteValue.methodAny (ReflectliteValue.valueError "reflectlite.Value.Type" 0) (fun t _ _ _ => ReflectliteType.toType t)) Tryz.func42 (by kernel_rfl) (by kernel_rfl) (by kernel_rfl) (by kernel_rfl)
  have h35 := @run_callFunc_extern Tryz.prog 43 _ (ReflectliteValue.method (ReflectliteValue.valueError "reflectlite.Value.IsNil" 0) ReflectliteValue.isNil) Tryz.func43 (by kernel_rfl) (by kernel_rfl) (by kernel_rfl) (by kernel_rfl)
  have h69 := @run_callFunc_extern Tryz.prog 99 _ (ReflectliteType.abiMethod fun t => do pure (.int .u8 (← Rtype.kind t))) Tryz.func99 (by kernel_rfl) (by kernel_rfl) (by kernel_rfl) (by kernel_rfl)
  have h82 := @run_callFunc_extern Tryz.prog 112 _ (ReflectliteType.method ReflectliteType.elem) Tryz.func112 (by kernel_rfl) (by kernel_rfl) (by kernel_rfl) (by kernel_rfl)
  have h83 := @run_callFunc_extern Tryz.prog 113 _ (ReflectliteType.relation "Implements" ReflectliteType.implements_) Tryz.func113 (by kernel_rfl) (by kernel_rfl) (by kernel_rfl) (by kernel_rfl)
  have v1 := valueOfPP
  have y1 := typePP
  have mK := methodKind
  have mE := methodElem
  have mI := methodImplements
  have k1 := kindPP
  have k2 := kindW
  have e1 := elemPP
  have i1 := implementsW
  have htt := lt_of_cell ht0
  have hgl := lt_of_cell hg
  have n8 := isNilPP ⟨w.heap.size, 0, none⟩ t (asWorld 116 t w) (ptr_asWorld _ _ _)
  have hg2 : (asWorld 116 t w).cell? ⟨0, 0, none⟩ = some (.iface 103 (.agg #[.pointer (some ⟨4, 35, none⟩)])) := by rw [cell_asWorld hgl]; exact hg
  have HA := hideIt (as_wrapped p ⟨w.heap.size, 0, none⟩ t old (asWorld 116 t w) (ptr_asWorld _ _ _) (by rw [cell_asWorld htt]; exact ht0) (by rw [frozen_asWorld htt]; exact hf0))
  clear ht0 hf0 hg
  go_enter Tryz.func29, Tryz.ntmps29
  go_wp2_with (go_at_call 44; refine HA.out.mono ?_; rintro e w' ⟨rfl, rfl⟩)
  go_ret
  exact ⟨rfl, rfl⟩

set_option maxHeartbeats 4000000 in
theorem As_wrapped_not (n : Int) (t : Addr) (w : World)
    (hg : w.cell? ⟨0, 0, none⟩ = some (.iface 103 (.agg #[.pointer (some ⟨4, 35, none⟩)]))) :
    Calls Tryz.prog 29 #[.iface 37 (.int .i64 n), .iface 116 (.pointer (some t))] w
      fun ev w' => ev = .returned (.bool false) ∧ w' = (asWorld 116 t w).alloc (.cells #[.pointer (some ⟨4, 116, none⟩), .pointer (some ⟨w.heap.size, 0, none⟩), .int .u64 150] 84) := by
  have h33 := @run_callFunc_extern Tryz.prog 41 _ (fun args => ReflectliteValue.unpack (args.getD 0 (.tuple #[]))) Tryz.func41 (by kernel_rfl) (by kernel_rfl) (by kernel_rfl) (by kernel_rfl)
  have h34 := @run_callFunc_extern Tryz.prog 42 _ (ReflectliteValue.methodAny (ReflectliteValue.valueError "reflectlite.Value.Type" 0) (fun t _ _ _ => ReflectliteType.toType t)) Tryz.func42 (by kernel_rfl) (by kernel_rfl) (by kernel_rfl) (by kernel_rfl)
  have h35 := @run_callFunc_extern Tryz.prog 43 _ (ReflectliteValue.method (ReflectliteValue.valueError "reflectlite.Value.IsNil" 0) ReflectliteValue.isNil) Tryz.func43 (by kernel_rfl) (by kernel_rfl) (by kernel_rfl) (by kernel_rfl)
  have h69 := @run_callFunc_extern Tryz.prog 99 _ (ReflectliteType.abiMethod fun t => do pure (.int .u8 (← Rtype.kind t))) Tryz.func99 (by kernel_rfl) (by kernel_rfl) (by kernel_rfl) (by kernel_rfl)
  have h82 := @run_callFunc_extern Tryz.prog 112 _ (ReflectliteType.method ReflectliteType.elem) Tryz.func112 (by kernel_rfl) (by kernel_rfl) (by kernel_rfl) (by kernel_rfl)
  have h83 := @run_callFunc_extern Tryz.prog 113 _ (ReflectliteType.relation "Implements" ReflectliteType.implements_) Tryz.func113 (by kernel_rfl) (by kernel_rfl) (by kernel_rfl) (by kernel_rfl)
  have v1 := valueOfPP
  have y1 := typePP
  have mK := methodKind
  have mE := methodElem
  have mI := methodImplements
  have k1 := kindPP
  have k2 := kindW
  have e1 := elemPP
  have i1 := implementsW
  have hgl := lt_of_cell hg
  have n8 := isNilPP ⟨w.heap.size, 0, none⟩ t (asWorld 116 t w) (ptr_asWorld _ _ _)
  have hg2 : (asWorld 116 t w).cell? ⟨0, 0, none⟩ = some (.iface 103 (.agg #[.pointer (some ⟨4, 35, none⟩)])) := by rw [cell_asWorld hgl]; exact hg
  have HA := hideIt (as_wrapped_not n ⟨w.heap.size, 0, none⟩ t (asWorld 116 t w))
  clear hg
  go_enter Tryz.func29, Tryz.ntmps29
  go_wp2_with (go_at_call 44; refine HA.out.mono ?_; rintro e w' ⟨rfl, rfl⟩)
  go_ret
  exact ⟨rfl, rfl⟩

end Go.Proofs.YtnojbejjlahhkaaGreatDoor
