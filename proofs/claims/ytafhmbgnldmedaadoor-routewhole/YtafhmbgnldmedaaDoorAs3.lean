/-
  What is proved here: errors.as at a **wrapped target, errors.As at both targets, errors.Is at an Errno, over this program, at errors that package fault made.
-/
import Derived.Test.YtafhmbgnldmedaaDoorAs2
namespace Go.Proofs.YtafhmbgnldmedaaDoor
open Go.RowKit Go.Extern.Stop Go.Stop Go.Extern

set_option maxHeartbeats 4000000 in
/-- errors.as with a **wrapped for its target, at a wrapped error: that one is found. -/
theorem as_wrapped (p a t : Addr) (old : Value) (w : World) (ha : w.cell? a = some (.pointer (some t))) (ht0 : w.cell? t = some old) (hf0 : w.frozen? t = false) :
    Calls Tryd.prog 61 #[.iface 92 (.pointer (some p)), .iface 112 (.pointer (some t)), .agg #[.pointer (some ⟨4, 112, none⟩), .pointer (some a), .int .u64 150], .iface 116 (.agg #[.pointer (some ⟨4, 92, none⟩)])] w
      fun ev w' => ev = .returned (.bool true) ∧ w' = ((w.alloc (.cells #[.pointer (some ⟨4, 112, none⟩), .pointer (some a), .int .u64 150] 101)).alloc (.cells #[.pointer (some p)] 92)).setCell t (.pointer (some p)) := by
  have h33 := @run_callFunc_extern Tryd.prog 58 _ (fun args => ReflectliteValue.unpack (args.getD 0 (.tuple #[]))) Tryd.func58 (by kernel_rfl) (by kernel_rfl) (by kernel_rfl) (by kernel_rfl)
  have h37 := @run_callFunc_extern Tryd.prog 69 _ ReflectliteType.typeOf Tryd.func69 (by kernel_rfl) (by kernel_rfl) (by kernel_rfl) (by kernel_rfl)
  have h80 := @run_callFunc_extern Tryd.prog 110 _ (ReflectliteType.relation "AssignableTo" ReflectliteType.assignableTo) Tryd.func110 (by kernel_rfl) (by kernel_rfl) (by kernel_rfl) (by kernel_rfl)
  have h42 := @run_callFunc_extern Tryd.prog 70 _ (ReflectliteValue.method (ReflectliteValue.valueError "reflectlite.Value.Elem" 0) ReflectliteValue.elem) Tryd.func70 (by kernel_rfl) (by kernel_rfl) (by kernel_rfl) (by kernel_rfl)
  have h43 := @run_callFunc_extern Tryd.prog 71 _ ReflectliteValue.set Tryd.func71 (by kernel_rfl) (by kernel_rfl) (by kernel_rfl) (by kernel_rfl)
  have tW := typeOfW
  have mA := methodAssignableTo
  have aW := assignableWW
  have vW := valueOfW
  have hat := lt_of_cell ha
  have htt := lt_of_cell ht0
  have el := elemVPP a t (w.alloc (.cells #[.pointer (some ⟨4, 112, none⟩), .pointer (some a), .int .u64 150] 101)) (by rw [World.cell?_alloc_lt _ _ a hat]; exact ha)
  have st := setW t ⟨w.heap.size + 1, 0, none⟩ p old ((w.alloc (.cells #[.pointer (some ⟨4, 112, none⟩), .pointer (some a), .int .u64 150] 101)).alloc (.cells #[.pointer (some p)] 92))
    (by rw [World.cell?_alloc_at _ _ _ _ (by simp)]; rfl)
    (by rw [World.cell?_alloc_lt _ _ t (by simp; omega), World.cell?_alloc_lt _ _ t htt]; exact ht0)
    (by rw [World.frozen?_alloc_old _ _ t (by simp; omega), World.frozen?_alloc_old _ _ t (by omega)]; exact hf0)
  clear ha ht0 hf0
  go_enter Tryd.func61, Tryd.ntmps61
  go_wp2
  refine wp_loop_rounds 1 ?_
  rw [rounds_succ]
  go_wp2
  go_ret
  exact ⟨rfl, rfl⟩

set_option maxHeartbeats 4000000 in
/-- errors.as with a **wrapped for its target, at a number: none is found. -/
theorem as_wrapped_not (n : Int) (a t : Addr) (w : World) :
    Calls Tryd.prog 61 #[.iface 32 (.int .i64 n), .iface 112 (.pointer (some t)), .agg #[.pointer (some ⟨4, 112, none⟩), .pointer (some a), .int .u64 150], .iface 116 (.agg #[.pointer (some ⟨4, 92, none⟩)])] w
      fun ev w' => ev = .returned (.bool false) ∧ w' = w.alloc (.cells #[.pointer (some ⟨4, 112, none⟩), .pointer (some a), .int .u64 150] 101) := by
  have h37 := @run_callFunc_extern Tryd.prog 69 _ ReflectliteType.typeOf Tryd.func69 (by kernel_rfl) (by kernel_rfl) (by kernel_rfl) (by kernel_rfl)
  have h80 := @run_callFunc_extern Tryd.prog 110 _ (ReflectliteType.relation "AssignableTo" ReflectliteType.assignableTo) Tryd.func110 (by kernel_rfl) (by kernel_rfl) (by kernel_rfl) (by kernel_rfl)
  have tE := typeOfE
  have mA := methodAssignableTo
  have aE := assignableEW
  have nA := noAsE
  have nU := noUnwrapE
  have nV := noUnwrapsE
  go_enter Tryd.func61, Tryd.ntmps61
  go_wp2
  refine wp_loop_rounds 1 ?_
  rw [rounds_succ]
  go_wp2
  go_ret
  exact ⟨rfl, rfl⟩

/-- What errors.As lays ahead of errors.as. -/
abbrev asWorld (pt : TypeId) (t : Addr) (w : World) : World :=
  (w.alloc (.cells #[.pointer (some t)] pt)).alloc (.cells #[.pointer (some ⟨4, pt, none⟩), .pointer (some ⟨w.heap.size, 0, none⟩), .int .u64 150] 101)

theorem cell_asWorld {pt : TypeId} {t : Addr} {w : World} {q : Addr} (hq : q.block < w.heap.size) : (asWorld pt t w).cell? q = w.cell? q := by
  rw [World.cell?_alloc_lt _ _ q (by simp; omega), World.cell?_alloc_lt _ _ q hq]
theorem frozen_asWorld {pt : TypeId} {t : Addr} {w : World} {q : Addr} (hq : q.block < w.heap.size) : (asWorld pt t w).frozen? q = w.frozen? q := by
  rw [World.frozen?_alloc_old _ _ q (by simp; omega), World.frozen?_alloc_old _ _ q (by omega)]
theorem ptr_asWorld (pt : TypeId) (t : Addr) (w : World) : (asWorld pt t w).cell? ⟨w.heap.size, 0, none⟩ = some (.pointer (some t)) := by
  rw [World.cell?_alloc_lt _ _ _ (by simp)]; simp

set_option maxHeartbeats 4000000 in
theorem As_errno (B : Nat) (l : List (ByteArray × Int)) (v : Value) (n : Int) (t : Addr) (old : Value) (w : World) (hc : Chain B w n v l) (hB : B ≤ t.block) (ht0 : w.cell? t = some old) (hf0 : w.frozen? t = false)
    (hg : w.cell? ⟨0, 0, none⟩ = some (.iface 116 (.agg #[.pointer (some ⟨4, 28, none⟩)]))) :
    Calls Tryd.prog 45 #[v, .iface 87 (.pointer (some t))] w
      fun ev w' => ev = .returned (.bool true) ∧ w' = (((asWorld 87 t w).alloc (.cells #[.pointer (some ⟨4, 87, none⟩), .pointer (some ⟨w.heap.size, 0, none⟩), .int .u64 150] 101)).alloc (.cells #[.int .i64 n] 32)).setCell t (.int .i64 n) := by
  have h33 := @run_callFunc_extern Tryd.prog 58 _ (fun args => ReflectliteValue.unpack (args.getD 0 (.tuple #[]))) Tryd.func58 (by kernel_rfl) (by kernel_rfl) (by kernel_rfl) (by kernel_rfl)
  have h34 := @run_callFunc_extern Tryd.prog 59 _ (ReflectliteValue.methodAny (ReflectliteValue.valueError "reflectlite.Value.Type" 0) (fun t _ _ _ => ReflectliteType.toType t)) Tryd.func59 (by kernel_rfl) (by kernel_rfl) (by kernel_rfl) (by kernel_rfl)
  have h35 := @run_callFunc_extern Tryd.prog 60 _ (ReflectliteValue.method (ReflectliteValue.valueError "reflectlite.Value.IsNil" 0) ReflectliteValue.isNil) Tryd.func60 (by kernel_rfl) (by kernel_rfl) (by kernel_rfl) (by kernel_rfl)
  have h69 := @run_callFunc_extern Tryd.prog 99 _ (ReflectliteType.abiMethod fun t => do pure (.int .u8 (← Rtype.kind t))) Tryd.func99 (by kernel_rfl) (by kernel_rfl) (by kernel_rfl) (by kernel_rfl)
  have h82 := @run_callFunc_extern Tryd.prog 112 _ (ReflectliteType.method ReflectliteType.elem) Tryd.func112 (by kernel_rfl) (by kernel_rfl) (by kernel_rfl) (by kernel_rfl)
  have h83 := @run_callFunc_extern Tryd.prog 113 _ (ReflectliteType.relation "Implements" ReflectliteType.implements_) Tryd.func113 (by kernel_rfl) (by kernel_rfl) (by kernel_rfl) (by kernel_rfl)
  have v1 := valueOfPE
  have y1 := typePE
  have mK := methodKind
  have mE := methodElem
  have mI := methodImplements
  have k1 := kindPE
  have k2 := kindE
  have e1 := elemPE
  have i1 := implementsE
  have htt := lt_of_cell ht0
  have hgl := lt_of_cell hg
  have n8 := isNilPE ⟨w.heap.size, 0, none⟩ t (asWorld 87 t w) (ptr_asWorld _ _ _)
  have hg2 : (asWorld 87 t w).cell? ⟨0, 0, none⟩ = some (.iface 116 (.agg #[.pointer (some ⟨4, 28, none⟩)])) := by rw [cell_asWorld hgl]; exact hg
  obtain ⟨ty, y, rfl⟩ := hc.iface
  have HA := hideIt (as_errno B l _ n ⟨w.heap.size, 0, none⟩ t old (asWorld 87 t w) (hc.kept (((Below.refl _ _).alloc (by omega) _).alloc (by simp; omega) _)) hB (ptr_asWorld _ _ _) (by rw [cell_asWorld htt]; exact ht0) (by rw [frozen_asWorld htt]; exact hf0))
  clear hc ht0 hf0 hg
  go_enter Tryd.func45, Tryd.ntmps45
  go_wp2_with (go_at_call 61; refine HA.out.mono ?_; rintro e w' ⟨rfl, rfl⟩)
  go_ret
  exact ⟨rfl, rfl⟩
end Go.Proofs.YtafhmbgnldmedaaDoor
