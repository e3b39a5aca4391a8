/-
  What is proved here: what the texts below say, one behind the other.
-/
import Derived.Test.YtohlepbfjgehgaaGreatDoorProg
import Derived.WalkKit
import Derived.LaidEql
import Derived.Stop.Asserts
import Derived.RowKitTokens
import Derived.Deep.LoopGhost
import Derived.Recover
import Derived.WalkLawsBesides
import Derived.Lib.ItoaLen
/-
  What is proved here: how errors.As (and errors.as) answers, over this program, at errors that package fault makes: a chain of wrapped errors around an Errno. Conditions: the variable errors.errorType holds the handle of the type error.
-/
namespace Go.Proofs.YtohlepbfjgehgaaGreatDoor
open Go.RowKit Go.Extern.Stop Go.Stop Go.Extern

/-- errors.As of no error. -/
theorem as_nil (t : Value) (w : World) :
    Calls Tryz.prog 67 #[.nilIface, t] w fun e w' => e = .returned (.bool false) ∧ w' = w := by
  go_enter Tryz.func67, Tryz.ntmps67
  go_wp2
  go_ret
  exact ⟨rfl, rfl⟩

theorem valueOfPE (t : Addr) (w : World) : (ReflectliteValue.unpack (.iface 123 (.pointer (some t)))).run Tryz.prog w
    = .ok (.agg #[.pointer (some ⟨2, 123, none⟩), .pointer (some ⟨w.heap.size, 0, none⟩), .int .u64 150]) (w.alloc (.cells #[.pointer (some t)] 123)) := by kernel_rfl
theorem valueOfE (n : Int) (w : World) : (ReflectliteValue.unpack (.iface 70 (.int .i64 n))).run Tryz.prog w
    = .ok (.agg #[.pointer (some ⟨2, 70, none⟩), .pointer (some ⟨w.heap.size, 0, none⟩), .int .u64 130]) (w.alloc (.cells #[.int .i64 n] 70)) := by kernel_rfl
theorem valueOfW (t : Addr) (w : World) : (ReflectliteValue.unpack (.iface 167 (.pointer (some t)))).run Tryz.prog w
    = .ok (.agg #[.pointer (some ⟨2, 167, none⟩), .pointer (some ⟨w.heap.size, 0, none⟩), .int .u64 150]) (w.alloc (.cells #[.pointer (some t)] 167)) := by kernel_rfl
theorem typePE (a : Addr) (w : World) : (ReflectliteValue.methodAny (ReflectliteValue.valueError "reflectlite.Value.Type" 0) (fun t _ _ _ => ReflectliteType.toType t) #[.agg #[.pointer (some ⟨2, 123, none⟩), .pointer (some a), .int .u64 150]]).run Tryz.prog w
    = .ok (.iface 189 (.agg #[.pointer (some ⟨2, 123, none⟩)])) w := by kernel_rfl
theorem methodKind (h : Value) (w : World) : (Go.method (260 + 100) 189 (.agg #[h]) "Kind").run Tryz.prog w = .ok (172, h) w := by kernel_rfl
theorem methodElem (h : Value) (w : World) : (Go.method (260 + 100) 189 (.agg #[h]) "Elem").run Tryz.prog w = .ok (185, .agg #[h]) w := by kernel_rfl
theorem methodImplements (h : Value) (w : World) : (Go.method (260 + 100) 189 (.agg #[h]) "Implements").run Tryz.prog w = .ok (186, .agg #[h]) w := by kernel_rfl
theorem methodAssignableTo (h : Value) (w : World) : (Go.method (260 + 100) 189 (.agg #[h]) "AssignableTo").run Tryz.prog w = .ok (183, .agg #[h]) w := by kernel_rfl
theorem methodComparable (h : Value) (w : World) : (Go.method (260 + 100) 189 (.agg #[h]) "Comparable").run Tryz.prog w = .ok (184, .agg #[h]) w := by kernel_rfl
theorem methodUnwrap (a : Addr) (w : World) : (Go.method (260 + 100) 167 (.pointer (some a)) "Unwrap").run Tryz.prog w = .ok (181, .pointer (some a)) w := by kernel_rfl
theorem kindPE (w : World) : ((ReflectliteType.abiMethod fun t => (fun a : Nat => Value.int IntKind.u8 (a : Int)) <$> Rtype.kind t) #[.pointer (some ⟨2, 123, none⟩)]).run Tryz.prog w = .ok (.int .u8 22) w := by kernel_rfl
theorem kindE (w : World) : ((ReflectliteType.abiMethod fun t => (fun a : Nat => Value.int IntKind.u8 (a : Int)) <$> Rtype.kind t) #[.pointer (some ⟨2, 70, none⟩)]).run Tryz.prog w = .ok (.int .u8 2) w := by kernel_rfl
theorem kindW (w : World) : ((ReflectliteType.abiMethod fun t => (fun a : Nat => Value.int IntKind.u8 (a : Int)) <$> Rtype.kind t) #[.pointer (some ⟨2, 167, none⟩)]).run Tryz.prog w = .ok (.int .u8 22) w := by kernel_rfl
theorem isNilPE (a p : Addr) (W : World) (ha : W.cell? a = some (.pointer (some p))) :
    (ReflectliteValue.method (ReflectliteValue.valueError "reflectlite.Value.IsNil" 0) ReflectliteValue.isNil #[.agg #[.pointer (some ⟨2, 123, none⟩), .pointer (some a), .int .u64 150]]).run Tryz.prog W = .ok (.bool false) W := by
  have e : (ReflectliteValue.method (ReflectliteValue.valueError "reflectlite.Value.IsNil" 0) ReflectliteValue.isNil #[.agg #[.pointer (some ⟨2, 123, none⟩), .pointer (some a), .int .u64 150]]).run Tryz.prog W = (ReflectliteValue.isNil 123 a 150 22).run Tryz.prog W := by kernel_rfl
  rw [e]
  simp [ReflectliteValue.isNil, loadVar, isAgg, underlying, Tryz.underlying123, ha, Result.andThen]
theorem elemPE (w : World) : (ReflectliteType.method ReflectliteType.elem #[.agg #[.pointer (some ⟨2, 123, none⟩)]]).run Tryz.prog w = .ok (.iface 189 (.agg #[.pointer (some ⟨2, 70, none⟩)])) w := by kernel_rfl
theorem implementsE (w : World) : (ReflectliteType.relation "Implements" ReflectliteType.implements_ #[.agg #[.pointer (some ⟨2, 70, none⟩)], .iface 189 (.agg #[.pointer (some ⟨2, 30, none⟩)])]).run Tryz.prog w = .ok (.bool true) w := by kernel_rfl
theorem implementsW (w : World) : (ReflectliteType.relation "Implements" ReflectliteType.implements_ #[.agg #[.pointer (some ⟨2, 167, none⟩)], .iface 189 (.agg #[.pointer (some ⟨2, 30, none⟩)])]).run Tryz.prog w = .ok (.bool true) w := by kernel_rfl
theorem typeOfE (v : Value) (w : World) : (ReflectliteType.typeOf #[.iface 70 v]).run Tryz.prog w = .ok (.iface 189 (.agg #[.pointer (some ⟨2, 70, none⟩)])) w := by kernel_rfl
theorem typeOfW (v : Value) (w : World) : (ReflectliteType.typeOf #[.iface 167 v]).run Tryz.prog w = .ok (.iface 189 (.agg #[.pointer (some ⟨2, 167, none⟩)])) w := by kernel_rfl
theorem assignableEE (w : World) : (ReflectliteType.relation "AssignableTo" ReflectliteType.assignableTo #[.agg #[.pointer (some ⟨2, 70, none⟩)], .iface 189 (.agg #[.pointer (some ⟨2, 70, none⟩)])]).run Tryz.prog w = .ok (.bool true) w := by kernel_rfl
theorem assignableWW (w : World) : (ReflectliteType.relation "AssignableTo" ReflectliteType.assignableTo #[.agg #[.pointer (some ⟨2, 167, none⟩)], .iface 189 (.agg #[.pointer (some ⟨2, 167, none⟩)])]).run Tryz.prog w = .ok (.bool true) w := by kernel_rfl
theorem assignableWE (w : World) : (ReflectliteType.relation "AssignableTo" ReflectliteType.assignableTo #[.agg #[.pointer (some ⟨2, 167, none⟩)], .iface 189 (.agg #[.pointer (some ⟨2, 70, none⟩)])]).run Tryz.prog w = .ok (.bool false) w := by kernel_rfl
theorem assignableEW (w : World) : (ReflectliteType.relation "AssignableTo" ReflectliteType.assignableTo #[.agg #[.pointer (some ⟨2, 70, none⟩)], .iface 189 (.agg #[.pointer (some ⟨2, 167, none⟩)])]).run Tryz.prog w = .ok (.bool false) w := by kernel_rfl
theorem elemOfPE (w : World) : (Rtype.elem? 123).run Tryz.prog w = .ok (some 70) w := by kernel_rfl
theorem mkE (p : Addr) (w : World) : (ReflectliteValue.mk 70 p ReflectliteValue.flagAddr).run Tryz.prog w = .ok (.agg #[.pointer (some ⟨2, 70, none⟩), .pointer (some p), .int .u64 386]) w := by kernel_rfl
theorem mkW (p : Addr) (w : World) : (ReflectliteValue.mk 167 p ReflectliteValue.flagAddr).run Tryz.prog w = .ok (.agg #[.pointer (some ⟨2, 167, none⟩), .pointer (some p), .int .u64 406]) w := by kernel_rfl
theorem elemVPE (a p : Addr) (W : World) (ha : W.cell? a = some (.pointer (some p))) :
    (ReflectliteValue.method (ReflectliteValue.valueError "reflectlite.Value.Elem" 0) ReflectliteValue.elem #[.agg #[.pointer (some ⟨2, 123, none⟩), .pointer (some a), .int .u64 150]]).run Tryz.prog W
      = .ok (.agg #[.pointer (some ⟨2, 70, none⟩), .pointer (some p), .int .u64 386]) W := by
  have e : (ReflectliteValue.method (ReflectliteValue.valueError "reflectlite.Value.Elem" 0) ReflectliteValue.elem #[.agg #[.pointer (some ⟨2, 123, none⟩), .pointer (some a), .int .u64 150]]).run Tryz.prog W = (ReflectliteValue.elem 123 a 150 22).run Tryz.prog W := by kernel_rfl
  rw [e]
  simp [ReflectliteValue.elem, loadVar, isAgg, underlying, Tryz.underlying123, ha, Result.andThen, elemOfPE, mkE]
theorem setW (ta b e : Addr) (old : Value) (W : World) (hb : W.cell? b = some (.pointer (some e))) (ht : W.cell? ta = some old) (hf : W.frozen? ta = false) :
    (ReflectliteValue.set #[.agg #[.pointer (some ⟨2, 167, none⟩), .pointer (some ta), .int .u64 406], .agg #[.pointer (some ⟨2, 167, none⟩), .pointer (some b), .int .u64 150]]).run Tryz.prog W
      = .ok (.tuple #[]) (W.setCell ta (.pointer (some e))) := by
  have e : (ReflectliteValue.set #[.agg #[.pointer (some ⟨2, 167, none⟩), .pointer (some ta), .int .u64 406], .agg #[.pointer (some ⟨2, 167, none⟩), .pointer (some b), .int .u64 150]]).run Tryz.prog W
      = (do let v ← loadVar 167 b; storeVar 167 ta v; pure (Value.tuple #[]) : Sem Value).run Tryz.prog W := by kernel_rfl
  rw [e]
  simp only [Sem.run_bind, Sem.run_pure, Result.andThen]
  simp [loadVar, isAgg, underlying, Tryz.underlying167, hb, Result.andThen, storeVar, Value.cells, storeCells, Addr.add]
  rw [run_store Tryz.prog W ta _ _ (by rfl)]
  simp [ht, hf]
theorem setE (ta b : Addr) (n : Int) (old : Value) (W : World) (hb : W.cell? b = some (.int .i64 n)) (ht : W.cell? ta = some old) (hf : W.frozen? ta = false) :
    (ReflectliteValue.set #[.agg #[.pointer (some ⟨2, 70, none⟩), .pointer (some ta), .int .u64 386], .agg #[.pointer (some ⟨2, 70, none⟩), .pointer (some b), .int .u64 130]]).run Tryz.prog W
      = .ok (.tuple #[]) (W.setCell ta (.int .i64 n)) := by
  have e : (ReflectliteValue.set #[.agg #[.pointer (some ⟨2, 70, none⟩), .pointer (some ta), .int .u64 386], .agg #[.pointer (some ⟨2, 70, none⟩), .pointer (some b), .int .u64 130]]).run Tryz.prog W
      = (do let v ← loadVar 70 b; storeVar 70 ta v; pure (Value.tuple #[]) : Sem Value).run Tryz.prog W := by kernel_rfl
  rw [e]
  simp only [Sem.run_bind, Sem.run_pure, Result.andThen]
  simp [loadVar, isAgg, underlying, Tryz.underlying70, hb, Result.andThen, storeVar, Value.cells, storeCells, Addr.add]
  rw [run_store Tryz.prog W ta _ _ (by rfl)]
  simp [ht, hf]
end Go.Proofs.YtohlepbfjgehgaaGreatDoor

/-
  What is proved here: errors.as, the loop of errors.As, over this program, at chains of wrapped errors around an Errno.
-/
namespace Go.Proofs.YtohlepbfjgehgaaGreatDoor
open Go.RowKit Go.Extern.Stop Go.Stop Go.Extern

/-- v is an error that package fault made: the number n, wrapped by the steps l (the outermost first), all of it in blocks below B. -/
def Chain (B : Nat) (w : World) (n : Int) : Value → List (ByteArray × Int) → Prop
  | v, [] => v = .iface 70 (.int .i64 n)
  | v, (s, k) :: l => ∃ b x, v = .iface 167 (.pointer (some ⟨b, 0, none⟩)) ∧ b < B ∧ w.cell? ⟨b, 0, none⟩ = some (.string s) ∧ w.cell? ⟨b, 1, none⟩ = some (.int .i64 k) ∧ w.cell? ⟨b, 2, none⟩ = some x ∧ Chain B w n x l

theorem Chain.base {B : Nat} {w : World} {n : Int} : Chain B w n (.iface 70 (.int .i64 n)) [] := rfl
theorem Chain.step {B : Nat} {w : World} {n : Int} {b : Nat} {s : ByteArray} {k : Int} {v : Value} {l : List (ByteArray × Int)} (h1 : b < B) (h2 : w.cell? ⟨b, 0, none⟩ = some (.string s)) (h3 : w.cell? ⟨b, 1, none⟩ = some (.int .i64 k)) (h4 : w.cell? ⟨b, 2, none⟩ = some v)
    (h5 : Chain B w n v l) : Chain B w n (.iface 167 (.pointer (some ⟨b, 0, none⟩))) ((s, k) :: l) := ⟨b, v, rfl, h1, h2, h3, h4, h5⟩
/-- taken apart -/
theorem Chain.parts {B : Nat} {w : World} {n : Int} {v : Value} {l : List (ByteArray × Int)} (h : Chain B w n v l) :
    (l = [] ∧ v = .iface 70 (.int .i64 n)) ∨ ∃ b s k x l2, l = (s, k) :: l2 ∧ v = .iface 167 (.pointer (some ⟨b, 0, none⟩)) ∧ b < B ∧ w.cell? ⟨b, 0, none⟩ = some (.string s) ∧ w.cell? ⟨b, 1, none⟩ = some (.int .i64 k) ∧ w.cell? ⟨b, 2, none⟩ = some x ∧ Chain B w n x l2 := by
  match l, h with
  | [], h => exact Or.inl ⟨rfl, h⟩
  | (s, k) :: l2, ⟨b, x, h⟩ => exact Or.inr ⟨b, s, k, x, l2, rfl, h⟩

theorem Chain.kept {B : Nat} {w w' : World} {n : Int} {v : Value} {l : List (ByteArray × Int)} (h : Chain B w n v l) (hb : Below B w w') : Chain B w' n v l := by
  induction l generalizing v with
  | nil => exact h
  | cons y r ih =>
    obtain ⟨b, x, h0, h1, h2, h3, h4, h5⟩ := h
    exact ⟨b, x, h0, h1, by rw [hb.cell h1]; exact h2, by rw [hb.cell h1]; exact h3, by rw [hb.cell h1]; exact h4, ih h5⟩
theorem Chain.up {B B' : Nat} {w : World} {n : Int} {v : Value} {l : List (ByteArray × Int)} (h : Chain B w n v l) (hb : B ≤ B') : Chain B' w n v l := by
  induction l generalizing v with
  | nil => exact h
  | cons y r ih =>
    obtain ⟨b, x, h0, h1, h2, h3, h4, h5⟩ := h
    exact ⟨b, x, h0, by omega, h2, h3, h4, ih h5⟩

theorem hideIt {p : Prop} (h : p) : Hid p := h

theorem unwrap_any (b : Nat) (v : Value) (w : World) (hv : w.cell? ⟨b, 2, none⟩ = some v) :
    Calls Tryz.prog 181 #[.pointer (some ⟨b, 0, none⟩)] w fun e w' => e = .returned v ∧ w' = w := by
  go_enter Tryz.func181, Tryz.ntmps181
  go_wp2
  go_ret
  exact ⟨rfl, rfl⟩

theorem lt_of_cell {w : World} {a : Addr} {v : Value} (h : w.cell? a = some v) : a.block < w.heap.size := by
  rcases Nat.lt_or_ge a.block w.heap.size with h1 | h1
  · exact h1
  · simp [World.cell?, Array.getElem?_eq_none h1] at h

theorem noAsW (v : Value) (xT : TypeId) (w : World) : (Instr.typeAssert (.iface 167 v) xT 194 true).run Tryz.prog w = .ok (.tuple #[.nilIface, .bool false]) w := run_typeAssert_lacksB Tryz.underlying194 (by kernel_rfl) (by kernel_rfl) v xT w
theorem noAsE (v : Value) (xT : TypeId) (w : World) : (Instr.typeAssert (.iface 70 v) xT 194 true).run Tryz.prog w = .ok (.tuple #[.nilIface, .bool false]) w := run_typeAssert_lacksB Tryz.underlying194 (by kernel_rfl) (by kernel_rfl) v xT w
theorem noUnwrapE (v : Value) (xT : TypeId) (w : World) : (Instr.typeAssert (.iface 70 v) xT 197 true).run Tryz.prog w = .ok (.tuple #[.nilIface, .bool false]) w := run_typeAssert_lacksB Tryz.underlying197 (by kernel_rfl) (by kernel_rfl) v xT w
theorem noUnwrapsE (v : Value) (xT : TypeId) (w : World) : (Instr.typeAssert (.iface 70 v) xT 198 true).run Tryz.prog w = .ok (.tuple #[.nilIface, .bool false]) w := run_typeAssert_lacksB Tryz.underlying198 (by kernel_rfl) (by kernel_rfl) v xT w
theorem hasUnwrapW (v : Value) (xT : TypeId) (w : World) : (Instr.typeAssert (.iface 167 v) xT 197 true).run Tryz.prog w = .ok (.tuple #[.iface 167 v, .bool true]) w := run_typeAssert_hasB Tryz.underlying197 (by kernel_rfl) v xT w

/-- a chain's value is no nil -/
theorem Chain.iface {B : Nat} {w : World} {n : Int} {v : Value} {l : List (ByteArray × Int)} (h : Chain B w n v l) : ∃ t x, v = .iface t x := by
  rcases h.parts with ⟨_, rfl⟩ | ⟨b, s, k, x, l2, _, rfl, _⟩
  · exact ⟨_, _, rfl⟩
  · exact ⟨_, _, rfl⟩

set_option maxHeartbeats 4000000 in
/-- errors.as with a *Errno for its target: the number is found, however deep it lies; the target's variable gets it. -/
theorem as_errno (B : Nat) (l : List (ByteArray × Int)) (v : Value) (n : Int) (a t : Addr) (old : Value) (w : World) (hc : Chain B w n v l) (hB : B ≤ t.block) (ha : w.cell? a = some (.pointer (some t))) (ht0 : w.cell? t = some old) (hf0 : w.frozen? t = false) :
    Calls Tryz.prog 104 #[v, .iface 123 (.pointer (some t)), .agg #[.pointer (some ⟨2, 123, none⟩), .pointer (some a), .int .u64 150], .iface 189 (.agg #[.pointer (some ⟨2, 70, none⟩)])] w
      fun ev w' => ev = .returned (.bool true) ∧ w' = ((w.alloc (.cells #[.pointer (some ⟨2, 123, none⟩), .pointer (some a), .int .u64 150] 156)).alloc (.cells #[.int .i64 n] 70)).setCell t (.int .i64 n) := by
  have h33 := @run_callFunc_extern Tryz.prog 101 _ (fun args => ReflectliteValue.unpack (args.getD 0 (.tuple #[]))) Tryz.func101 (by kernel_rfl) (by kernel_rfl) (by kernel_rfl) (by kernel_rfl)
  have h37 := @run_callFunc_extern Tryz.prog 121 _ ReflectliteType.typeOf Tryz.func121 (by kernel_rfl) (by kernel_rfl) (by kernel_rfl) (by kernel_rfl)
  have h80 := @run_callFunc_extern Tryz.prog 183 _ (ReflectliteType.relation "AssignableTo" ReflectliteType.assignableTo) Tryz.func183 (by kernel_rfl) (by kernel_rfl) (by kernel_rfl) (by kernel_rfl)
  have h42 := @run_callFunc_extern Tryz.prog 122 _ (ReflectliteValue.method (ReflectliteValue.valueError "reflectlite.Value.Elem" 0) ReflectliteValue.elem) Tryz.func122 (by kernel_rfl) (by kernel_rfl) (by kernel_rfl) (by kernel_rfl)
  have h43 := @run_callFunc_extern Tryz.prog 123 _ ReflectliteValue.set Tryz.func123 (by kernel_rfl) (by kernel_rfl) (by kernel_rfl) (by kernel_rfl)
  have tE := typeOfE
  have tW := typeOfW
  have mA := methodAssignableTo
  have mU := methodUnwrap
  have aE := assignableEE
  have aW := assignableWE
  have vE := valueOfE
  have nA := noAsW
  have hU := hasUnwrapW
  have hat := lt_of_cell ha
  have htt := lt_of_cell ht0
  have el := elemVPE a t (w.alloc (.cells #[.pointer (some ⟨2, 123, none⟩), .pointer (some a), .int .u64 150] 156)) (by rw [World.cell?_alloc_lt _ _ a hat]; exact ha)
  have st := setE t ⟨w.heap.size + 1, 0, none⟩ n old ((w.alloc (.cells #[.pointer (some ⟨2, 123, none⟩), .pointer (some a), .int .u64 150] 156)).alloc (.cells #[.int .i64 n] 70))
    (by rw [World.cell?_alloc_at _ _ _ _ (by simp)]; rfl)
    (by rw [World.cell?_alloc_lt _ _ t (by simp; omega), World.cell?_alloc_lt _ _ t htt]; exact ht0)
    (by rw [World.frozen?_alloc_old _ _ t (by simp; omega), World.frozen?_alloc_old _ _ t (by omega)]; exact hf0)
  have hkeep : Chain B (w.alloc (.cells #[.pointer (some ⟨2, 123, none⟩), .pointer (some a), .int .u64 150] 156)) n v l := hc.kept ((Below.refl _ _).alloc (by omega) _)
  clear ha ht0 hf0 hc
  go_enter Tryz.func104, Tryz.ntmps104
  go_wp2
  go_loopg [0] l.length (fun k x wr => ∃ l', l'.length = k ∧ wr = w.alloc (.cells #[.pointer (some ⟨2, 123, none⟩), .pointer (some a), .int .u64 150] 156) ∧ Chain B wr n x l')
  case atStart => exact ⟨l, rfl, rfl, hkeep⟩
  case round =>
    obtain ⟨l', hl, rfl, hch⟩ := hrel
    clear hkeep
    rcases hch.parts with ⟨rfl, rfl⟩ | ⟨b, s, k, x, l2, rfl, rfl, h1, h2, h3, h4, h5⟩
    · clear hch
      go_wp2
      go_ret
      exact ⟨rfl, rfl⟩
    · clear hch
      obtain ⟨ty, y, rfl⟩ := h5.iface
      have HC : Hid (Chain B (w.alloc (.cells #[.pointer (some ⟨2, 123, none⟩), .pointer (some a), .int .u64 150] 156)) n (.iface ty y) l2) := h5
      clear h5 h2 h3
      go_wp2_with (first | (go_at_call 181; refine (unwrap_any b _ _ h4).mono ?_; rintro e w' ⟨rfl, rfl⟩))
      go_roundg l2.length
      case rel => exact ⟨l2, rfl, rfl, HC.out⟩
      case measure => simp at hl; omega
end Go.Proofs.YtohlepbfjgehgaaGreatDoor

/-
  What is proved here: errors.as at a **wrapped target, errors.As at both targets, errors.Is at an Errno, over this program, at errors that package fault made.
-/
namespace Go.Proofs.YtohlepbfjgehgaaGreatDoor
open Go.RowKit Go.Extern.Stop Go.Stop Go.Extern

/-- What errors.As lays ahead of errors.as. -/
abbrev asWorld (pt : TypeId) (t : Addr) (w : World) : World :=
  (w.alloc (.cells #[.pointer (some t)] pt)).alloc (.cells #[.pointer (some ⟨2, pt, none⟩), .pointer (some ⟨w.heap.size, 0, none⟩), .int .u64 150] 156)

theorem cell_asWorld {pt : TypeId} {t : Addr} {w : World} {q : Addr} (hq : q.block < w.heap.size) : (asWorld pt t w).cell? q = w.cell? q := by
  rw [World.cell?_alloc_lt _ _ q (by simp; omega), World.cell?_alloc_lt _ _ q hq]
theorem frozen_asWorld {pt : TypeId} {t : Addr} {w : World} {q : Addr} (hq : q.block < w.heap.size) : (asWorld pt t w).frozen? q = w.frozen? q := by
  rw [World.frozen?_alloc_old _ _ q (by simp; omega), World.frozen?_alloc_old _ _ q (by omega)]
theorem ptr_asWorld (pt : TypeId) (t : Addr) (w : World) : (asWorld pt t w).cell? ⟨w.heap.size, 0, none⟩ = some (.pointer (some t)) := by
  rw [World.cell?_alloc_lt _ _ _ (by simp)]; simp

set_option maxHeartbeats 4000000 in
theorem As_errno (B : Nat) (l : List (ByteArray × Int)) (v : Value) (n : Int) (t : Addr) (old : Value) (w : World) (hc : Chain B w n v l) (hB : B ≤ t.block) (ht0 : w.cell? t = some old) (hf0 : w.frozen? t = false)
    (hg : w.cell? ⟨0, 0, none⟩ = some (.iface 189 (.agg #[.pointer (some ⟨2, 30, none⟩)]))) :
    Calls Tryz.prog 67 #[v, .iface 123 (.pointer (some t))] w
      fun ev w' => ev = .returned (.bool true) ∧ w' = (((asWorld 123 t w).alloc (.cells #[.pointer (some ⟨2, 123, none⟩), .pointer (some ⟨w.heap.size, 0, none⟩), .int .u64 150] 156)).alloc (.cells #[.int .i64 n] 70)).setCell t (.int .i64 n) := by
  have h33 := @run_callFunc_extern Tryz.prog 101 _ (fun args => ReflectliteValue.unpack (args.getD 0 (.tuple #[]))) Tryz.func101 (by kernel_rfl) (by kernel_rfl) (by kernel_rfl) (by kernel_rfl)
  have h34 := @run_callFunc_extern Tryz.prog 102 _ (ReflectliteValue.methodAny (ReflectliteValue.valueError "reflectlite.Value.Type" 0) (fun t _ _ _ => ReflectliteType.toType t)) Tryz.func102 (by kernel_rfl) (by kernel_rfl) (by kernel_rfl) (by kernel_rfl)
  have h35 := @run_callFunc_extern Tryz.prog 103 _ (ReflectliteValue.method (ReflectliteValue.valueError "reflectlite.Value.IsNil" 0) ReflectliteValue.isNil) Tryz.func103 (by kernel_rfl) (by kernel_rfl) (by kernel_rfl) (by kernel_rfl)
  have h69 := @run_callFunc_extern Tryz.prog 172 _ (ReflectliteType.abiMethod fun t => do pure (.int .u8 (← Rtype.kind t))) Tryz.func172 (by kernel_rfl) (by kernel_rfl) (by kernel_rfl) (by kernel_rfl)
  have h82 := @run_callFunc_extern Tryz.prog 185 _ (ReflectliteType.method ReflectliteType.elem) Tryz.func185 (by kernel_rfl) (by kernel_rfl) (by kernel_rfl) (by kernel_rfl)
  have h83 := @run_callFunc_extern Tryz.prog 186 _ (ReflectliteType.relation "Implements" ReflectliteType.implements_) Tryz.func186 (by kernel_rfl) (by kernel_rfl) (by kernel_rfl) (by kernel_rfl)
  have v1 := valueOfPE
  have y1 := typePE
  have mK := methodKind
  have mE := methodElem
  have mI := methodImplements
  have k1 := kindPE
  have k2 := kindE
  have e1 := elemPE
  have i1 := implementsE
  have htt := lt_of_cell ht0
  have hgl := lt_of_cell hg
  have n8 := isNilPE ⟨w.heap.size, 0, none⟩ t (asWorld 123 t w) (ptr_asWorld _ _ _)
  have hg2 : (asWorld 123 t w).cell? ⟨0, 0, none⟩ = some (.iface 189 (.agg #[.pointer (some ⟨2, 30, none⟩)])) := by rw [cell_asWorld hgl]; exact hg
  obtain ⟨ty, y, rfl⟩ := hc.iface
  have HA := hideIt (as_errno B l _ n ⟨w.heap.size, 0, none⟩ t old (asWorld 123 t w) (hc.kept (((Below.refl _ _).alloc (by omega) _).alloc (by simp; omega) _)) hB (ptr_asWorld _ _ _) (by rw [cell_asWorld htt]; exact ht0) (by rw [frozen_asWorld htt]; exact hf0))
  clear hc ht0 hf0 hg
  go_enter Tryz.func67, Tryz.ntmps67
  go_wp2_with (go_at_call 104; refine HA.out.mono ?_; rintro e w' ⟨rfl, rfl⟩)
  go_ret
  exact ⟨rfl, rfl⟩
end Go.Proofs.YtohlepbfjgehgaaGreatDoor

/-
  What is proved here: errors.As at a **wrapped target, and errors.Is at an Errno, over this program, at errors that package fault made.
-/
namespace Go.Proofs.YtohlepbfjgehgaaGreatDoor
open Go.RowKit Go.Extern.Stop Go.Stop Go.Extern

end Go.Proofs.YtohlepbfjgehgaaGreatDoor

/-
  What is proved here: fault's holds, over this program: it answers what the function that it is handed answers, where that one returns.
-/
namespace Go.Proofs.YtohlepbfjgehgaaGreatDoor
open Go.RowKit Go.Extern.Stop Go.Stop Go.Extern

theorem catch_idle (p : Addr) (w : World) :
    CallsD Tryz.prog 100 #[.pointer (some p)] .returning w fun e u' w' => e = .returned (.tuple #[]) ∧ u' = .returning ∧ w' = w := by
  refine callsD_of_wpS Tryz.func100 rfl fun c₀ cs hu => ?_
  apply wpS_seq
  apply wpS_region
  simp [wpOpsS, go_sem, recoverD, hu, Tryz.ntmps100, Exit.thenS]
  refine wpS_cond (t := false) (by simp [Act.eval, Array.replicate]) ?_
  simp only [Bool.false_eq_true, if_false]
  refine wpS_of_wp (wp_skip ?_)
  cases c₀
  simp_all [bodyPostS, results, Tryz.results100]

set_option maxHeartbeats 4000000 in
/-- holds, handed a closure g over cap that returns b. -/
theorem holds_any (g : Nat) (cap : Array Value) (b : Bool) (R : World → Prop) (w : World)
    (hg : ∀ W : World, (callFunc g cap).run Tryz.prog W = .ok (.enter g cap) W)
    (hcall : Calls Tryz.prog g cap (w.alloc (.cells #[.bool false] 4)) fun e w' => e = .returned (.bool b) ∧ R w')
    (hR : ∀ w', R w' → w'.cell? ⟨w.heap.size, 0, none⟩ = some (.bool false) ∧ w'.frozen? ⟨w.heap.size, 0, none⟩ = false) :
    Calls Tryz.prog 65 #[.func (.func g) #[] cap] w fun e w' => e = .returned (.bool b) ∧ ∃ w'', R w'' ∧ w' = w''.setCell ⟨w.heap.size, 0, none⟩ (.bool b) := by
  have hmf : ∀ (fn : Fn) (first cap : Array Value) (w : World), (Instr.makeFunc fn first cap).run Tryz.prog w = .ok (.func fn first cap) w := fun _ _ _ _ => rfl
  have HC := hideIt hcall
  have HR := hideIt hR
  clear hcall hR
  go_enter_defers Tryz.func65, Tryz.ntmps65
  go_wp2_with fail
  refine HC.out.mono ?_
  rintro e w' ⟨rfl, hr⟩
  obtain ⟨hc, hf⟩ := HR.out w' hr
  go_wp2
  refine leaves_cons (f := 100) (args := #[.pointer (some ⟨w.heap.size, 0, none⟩)]) (by simp) (by simp [go_sem]) ?_
  refine (catch_idle ⟨w.heap.size, 0, none⟩ _).mono ?_
  rintro e u' w'' ⟨rfl, rfl, rfl⟩
  have hcell : (w'.setCell ⟨w.heap.size, 0, none⟩ (.bool b)).cell? ⟨w.heap.size, 0, none⟩ = some (.bool b) := World.cell?_setCell_same _ _ _ hc
  simp [Leaves, settle, results, Tryz.results65, go_sem, hcell]
  exact ⟨w', hr, rfl⟩
end Go.Proofs.YtohlepbfjgehgaaGreatDoor

/-
  What is proved here: fault's Code and Is, over this program, at errors that package fault made. Condition: errors.errorType holds the handle of the type error.
-/
namespace Go.Proofs.YtohlepbfjgehgaaGreatDoor
open Go.RowKit Go.Extern.Stop Go.Stop Go.Extern

/-- errors.errorType lies as package errors lays it. -/
def ET (w : World) : Prop := w.cell? ⟨0, 0, none⟩ = some (.iface 189 (.agg #[.pointer (some ⟨2, 30, none⟩)]))
theorem ET.kept {B : Nat} {w w' : World} (h : ET w) (hb : Below B w w') (hB : 0 < B) : ET w' := by
  unfold ET; rw [hb.cell hB]; exact h
theorem ET.lt {w : World} (h : ET w) : 0 < w.heap.size := lt_of_cell (a := ⟨0, 0, none⟩) h

theorem below_set {B : Nat} {w W : World} (h : Below B w W) (t : Addr) (v : Value) : Below B (w.setCell t v) (W.setCell t v) := by
  refine ⟨h.os, h.tape, h.output, by simpa [World.setCell] using h.size, fun k hk => ?_⟩
  simp only [World.setCell, Array.getElem?_modify]
  by_cases e : t.block = k
  · rw [if_pos e, if_pos e, h.block k hk]
  · rw [if_neg e, if_neg e, h.block k hk]

theorem size_set (w : World) (t : Addr) (v : Value) : (w.setCell t v).heap.size = w.heap.size := by simp [World.setCell]

set_option maxHeartbeats 4000000 in
theorem Code1_chain (B : Nat) (l : List (ByteArray × Int)) (v : Value) (n : Int) (p t : Addr) (old : Value) (w : World) (hc : Chain B w n v l) (hB : B ≤ t.block) (hp : w.cell? p = some v) (ht0 : w.cell? t = some old) (hf0 : w.frozen? t = false) (hg : ET w) :
    Calls Tryz.prog 66 #[.pointer (some p), .pointer (some t)] w fun e w' => e = .returned (.bool true) ∧ Below w.heap.size (w.setCell t (.int .i64 n)) w' := by
  have HA := hideIt (As_errno B l v n t old w hc hB ht0 hf0 hg)
  obtain ⟨ty, y, rfl⟩ := hc.iface
  clear hc hB ht0 hf0 hg
  go_enter Tryz.func66, Tryz.ntmps66
  go_wp2_with (go_at_call 67; refine HA.out.mono ?_; rintro e w' ⟨rfl, rfl⟩)
  go_ret
  refine ⟨rfl, below_set ?_ _ _⟩
  exact ((((Below.refl _ _).alloc (Nat.le_refl _) _).alloc (by simp) _).alloc (by simp; omega) _).alloc (by simp; omega) _

theorem hmf : ∀ (fn : Fn) (first cap : Array Value) (w : World), (Instr.makeFunc fn first cap).run Tryz.prog w = .ok (.func fn first cap) w := fun _ _ _ _ => rfl
theorem enterCode1 (cap : Array Value) (W : World) : (callFunc 66 cap).run Tryz.prog W = .ok (.enter 66 cap) W := by simp [go_sem]
/-- two boxes and a third, laid one behind the other: what each holds -/
theorem cell3_0 (w : World) (x y z : Value) (tx ty tz : TypeId) : (((w.alloc (.cells #[x] tx)).alloc (.cells #[y] ty)).alloc (.cells #[z] tz)).cell? ⟨w.heap.size, 0, none⟩ = some x := by
  rw [World.cell?_alloc_lt _ _ _ (by simp; omega), World.cell?_alloc_lt _ _ _ (by simp)]; simp
theorem cell3_1 (w : World) (x y z : Value) (tx ty tz : TypeId) : (((w.alloc (.cells #[x] tx)).alloc (.cells #[y] ty)).alloc (.cells #[z] tz)).cell? ⟨w.heap.size + 1, 0, none⟩ = some y := by
  rw [World.cell?_alloc_lt _ _ _ (by simp), World.cell?_alloc_at _ _ _ _ (by simp)]; rfl
theorem cell3_2 (w : World) (x y z : Value) (tx ty tz : TypeId) : (((w.alloc (.cells #[x] tx)).alloc (.cells #[y] ty)).alloc (.cells #[z] tz)).cell? ⟨w.heap.size + 1 + 1, 0, none⟩ = some z := by
  rw [World.cell?_alloc_at _ _ _ _ (by simp)]; rfl
theorem froz3_1 (w : World) (x y z : Value) (tx ty tz : TypeId) : (((w.alloc (.cells #[x] tx)).alloc (.cells #[y] ty)).alloc (.cells #[z] tz)).frozen? ⟨w.heap.size + 1, 0, none⟩ = false := by
  rw [World.frozen?_alloc_old _ _ _ (by simp)]; simp
theorem froz3_2 (w : World) (x y z : Value) (tx ty tz : TypeId) : (((w.alloc (.cells #[x] tx)).alloc (.cells #[y] ty)).alloc (.cells #[z] tz)).frozen? ⟨w.heap.size + 1 + 1, 0, none⟩ = false := World.frozen?_alloc_at _ _ _ _ (by simp)
theorem below3 (w : World) (x y z : Value) (tx ty tz : TypeId) : Below w.heap.size w (((w.alloc (.cells #[x] tx)).alloc (.cells #[y] ty)).alloc (.cells #[z] tz)) :=
  (((Below.refl _ _).alloc (Nat.le_refl _) _).alloc (by simp) _).alloc (by simp; omega) _
theorem below2 (w : World) (x y : Value) (tx ty : TypeId) : Below w.heap.size w ((w.alloc (.cells #[x] tx)).alloc (.cells #[y] ty)) :=
  ((Below.refl _ _).alloc (Nat.le_refl _) _).alloc (by simp) _

/-- behind a closure that writes the second box: what holds leaves -/
theorem closed3 {w W : World} {x y z u : Value} {tx ty tz : TypeId} (hb : Below (((w.alloc (.cells #[x] tx)).alloc (.cells #[y] ty)).alloc (.cells #[z] tz)).heap.size ((((w.alloc (.cells #[x] tx)).alloc (.cells #[y] ty)).alloc (.cells #[z] tz)).setCell ⟨w.heap.size + 1, 0, none⟩ u) W) :
    W.cell? ⟨w.heap.size + 1 + 1, 0, none⟩ = some z ∧ W.frozen? ⟨w.heap.size + 1 + 1, 0, none⟩ = false ∧ W.cell? ⟨w.heap.size + 1, 0, none⟩ = some u ∧ W.frozen? ⟨w.heap.size + 1, 0, none⟩ = false ∧ Below w.heap.size w W := by
  have hs : (((w.alloc (.cells #[x] tx)).alloc (.cells #[y] ty)).alloc (.cells #[z] tz)).heap.size = w.heap.size + 1 + 1 + 1 := by simp
  refine ⟨?_, ?_, ?_, ?_, ?_⟩
  · rw [hb.cell (by rw [hs]; show w.heap.size + 1 + 1 < _; omega), World.cell?_setCell_other _ _ _ _ (by simp), cell3_2]
  · rw [hb.frozen (by rw [hs]; show w.heap.size + 1 + 1 < _; omega), World.frozen?_setCell, froz3_2]
  · rw [hb.cell (by rw [hs]; show w.heap.size + 1 < _; omega)]; exact World.cell?_setCell_same _ _ _ (cell3_1 ..)
  · rw [hb.frozen (by rw [hs]; show w.heap.size + 1 < _; omega), World.frozen?_setCell, froz3_1]
  · exact ((below3 ..).setCell (by show w.heap.size ≤ w.heap.size + 1; omega) _).trans (hb.mono (by rw [hs]; omega))

set_option maxHeartbeats 4000000 in
/-- Code of an error that package fault made is its number. -/
theorem Code_chain (B : Nat) (l : List (ByteArray × Int)) (v : Value) (n : Int) (w : World) (hc : Chain B w n v l) (hB : B ≤ w.heap.size) (hg : ET w) :
    Calls Tryz.prog 26 #[v] w fun e w' => e = .returned (.int .i64 n) ∧ Below w.heap.size w w' := by
  have h1 := Code1_chain B l v n ⟨w.heap.size, 0, none⟩ ⟨w.heap.size + 1, 0, none⟩ (.int .i64 0) (((w.alloc (.cells #[v] 30)).alloc (.cells #[.int .i64 0] 70)).alloc (.cells #[.bool false] 4))
    (hc.kept ((below3 ..).mono hB)) (by show B ≤ w.heap.size + 1; omega) (cell3_0 ..) (cell3_1 ..) (froz3_1 ..) (hg.kept (below3 ..) hg.lt)
  have h2 : Calls Tryz.prog 65 #[.func (.func 66) #[] #[.pointer (some ⟨w.heap.size, 0, none⟩), .pointer (some ⟨w.heap.size + 1, 0, none⟩)]] ((w.alloc (.cells #[v] 30)).alloc (.cells #[.int .i64 0] 70))
      fun e w' => e = .returned (.bool true) ∧ w'.cell? ⟨w.heap.size + 1, 0, none⟩ = some (.int .i64 n) ∧ Below w.heap.size w w' := by
    have hsz : ((w.alloc (.cells #[v] 30)).alloc (.cells #[.int .i64 0] 70)).heap.size = w.heap.size + 1 + 1 := by simp
    refine (holds_any 66 _ true _ _ (enterCode1 _) h1 (fun w' hb => ?_)).mono ?_
    · rw [hsz]; exact ⟨(closed3 hb).1, (closed3 hb).2.1⟩
    · rintro e w' ⟨he, w2, hb, rfl⟩
      rw [hsz]
      exact ⟨he, by rw [World.cell?_setCell_other _ _ _ _ (by simp)]; exact (closed3 hb).2.2.1, (closed3 hb).2.2.2.2.setCell (by show w.heap.size ≤ w.heap.size + 1 + 1; omega) _⟩
  have HH := hideIt h2
  have hm := hmf
  obtain ⟨ty, y, rfl⟩ := hc.iface
  clear h1 h2 hc hg
  go_enter Tryz.func26, Tryz.ntmps26
  go_wp2_with (go_at_call 65; refine HH.out.mono ?_; rintro e w' ⟨rfl, hcell, hb⟩)
  go_ret
  exact ⟨rfl, hb⟩

theorem Code_nil (w : World) : Calls Tryz.prog 26 #[.nilIface] w fun e w' => e = .returned (.int .i64 0) ∧ Below w.heap.size w w' := by
  go_enter Tryz.func26, Tryz.ntmps26
  go_wp2
  go_ret
  exact ⟨rfl, (Below.refl _ _).alloc (Nat.le_refl _) _⟩
end Go.Proofs.YtohlepbfjgehgaaGreatDoor

/-
  What is proved here: fault's Is and outermost, over this program, at errors that package fault made. Condition: errors.errorType holds the handle of the type error.
-/
namespace Go.Proofs.YtohlepbfjgehgaaGreatDoor
open Go.RowKit Go.Extern.Stop Go.Stop Go.Extern

/-! ### outermost -/
theorem isCompW : (Tryz.prog.info? 167).map (·.comparable) = some true := by kernel_rfl
theorem isSizeW : (Tryz.prog.info? 171).map (·.size) = some 3 := by kernel_rfl
theorem eql_wrapped (a : Addr) (w : World) : (binOp .eql 30 (.iface 167 (.pointer (some a))) (.iface 167 (.pointer (some a)))).run Tryz.prog w = .ok (.bool true) w := by
  obtain ⟨i, hi, hcmp⟩ := Option.map_eq_some_iff.1 isCompW
  obtain ⟨j, hj, hjs⟩ := Option.map_eq_some_iff.1 isSizeW
  exact run_eql_iface_ptr_same (P := Tryz.prog) w a Tryz.underlying30 Tryz.underlying167 hi hcmp hj

end Go.Proofs.YtohlepbfjgehgaaGreatDoor

/-
  What is proved here: fault's unfold and Trail, over this program, at errors that package fault made: the steps in a new row, the outermost first, and the number in it. Condition: errors.errorType holds the handle of the type error; at most 1000000 steps.
-/
namespace Go.Proofs.YtohlepbfjgehgaaGreatDoor
open Go.RowKit Go.Extern.Stop Go.Stop Go.Extern

theorem own_kept {w w' : World} {B e size n : Nat} {v : Value} {xs : List Value} (h : w.ownsRow B e size v n xs) (hb : Below w.heap.size w w') : w'.ownsRow B e size v n xs := by
  obtain ⟨h1, h2⟩ := h
  refine ⟨h1, ?_⟩
  rcases h2 with h2 | ⟨g, cap, cur, hv, hg, hh, r⟩
  · exact Or.inl h2
  · refine Or.inr ⟨g, cap, cur, hv, hg, ?_, r⟩
    rw [hb.block g ?_]; exact hh
    rcases Nat.lt_or_ge g w.heap.size with h3 | h3
    · exact h3
    · rw [Array.getElem?_eq_none h3] at hh; cases hh

/-- the cells of steps -/
def stepCells : List (ByteArray × Int) → List Value
  | [] => []
  | (s, k) :: l => .string s :: .int .i64 k :: stepCells l
theorem stepCells_append (a b : List (ByteArray × Int)) : stepCells (a ++ b) = stepCells a ++ stepCells b := by
  induction a with
  | nil => rfl
  | cons x r ih => obtain ⟨s, k⟩ := x; simp [stepCells, ih]

theorem infoStep : (Tryz.prog.info? 169).map (fun i => (i.zero, i.size, i.bytes)) = some (some (.agg #[.string ⟨#[]⟩, .int .i64 0]), 2, 24) := by kernel_rfl

end Go.Proofs.YtohlepbfjgehgaaGreatDoor

/-
  What is proved here: an Errno's Error, and fault's told of it, over this program. Condition: the library's table of powers of ten lies as it is laid.
-/
namespace Go.Proofs.YtohlepbfjgehgaaGreatDoor
open Go.RowKit Go.Extern.Stop Go.Stop Go.Extern

/-- strconv's table is not in this program -/
def PT (_ : World) : Prop := True
theorem PT.kept {w w' : World} (_ : PT w) {B : Nat} (_ : Below B w w') (_ : True) : PT w' := trivial
theorem PT.lt {w : World} (_ : PT w) : True := trivial

def fits (n : Int) : Prop := -9223372036854775808 ≤ n ∧ n ≤ 9223372036854775807

/-- what an Errno tells: cohort: error, and the number -/
def errText (n : Int) : List UInt8 := [99, 111, 104, 111, 114, 116, 58, 32, 101, 114, 114, 111, 114, 32] ++ Lib.itoa n

theorem below_grown (w : World) (k : Nat) (os : Array Obj) : Below w.heap.size w (Sort.grow (w.drewN k) os) :=
  ⟨rfl, rfl, rfl, by simp [Sort.grow, World.drewN], fun i hi => by simp [Sort.grow, World.drewN, Array.getElem?_append_left hi]⟩

theorem bytes_append (a b : List UInt8) : (⟨a.toArray⟩ ++ ⟨b.toArray⟩ : ByteArray) = ⟨(a ++ b).toArray⟩ := by
  apply ByteArray.ext; simp

theorem methodError (n : Int) (w : World) : (Go.method (260 + 100) 70 (.int .i64 n) "Error").run Tryz.prog w = .ok (176, .int .i64 n) w := by kernel_rfl

end Go.Proofs.YtohlepbfjgehgaaGreatDoor

/-
  What is proved here: fault's Text, over this program, at errors that package fault made. Conditions: errors.errorType and the library's table of powers of ten lie as they are laid; the text has at most 2^40 bytes, the steps are at most 1000000.
-/
namespace Go.Proofs.YtohlepbfjgehgaaGreatDoor
open Go.RowKit Go.Extern.Stop Go.Stop Go.Extern

/-- what a step tells: where, a blank, the number, a colon, a blank -/
def stepText (x : ByteArray × Int) : List UInt8 := x.1.data.toList ++ ([32] ++ Lib.itoa x.2 ++ [58, 32])
def textL : List (ByteArray × Int) → List UInt8
  | [] => []
  | x :: r => stepText x ++ textL r
theorem textL_append (a b : List (ByteArray × Int)) : textL (a ++ b) = textL a ++ textL b := by
  induction a with
  | nil => rfl
  | cons x r ih => simp [textL, ih]

/-- sl is a slice of the steps l, all of it in blocks below B -/
def Steps (w : World) (B : Nat) (sl : Value) (l : List (ByteArray × Int)) : Prop :=
  ∃ a cap, sl = .slice a l.length cap ∧ ∀ k x, l[k]? = some x → ∃ b off, a = some ⟨b, off, none⟩ ∧ b < B ∧ w.cell? ⟨b, off + k * 2, none⟩ = some (.string x.1) ∧ w.cell? ⟨b, off + k * 2 + 1, none⟩ = some (.int .i64 x.2)
theorem Steps.kept {w w' : World} {B : Nat} {sl : Value} {l : List (ByteArray × Int)} (h : Steps w B sl l) (hb : Below B w w') : Steps w' B sl l := by
  obtain ⟨a, cap, h1, h2⟩ := h
  refine ⟨a, cap, h1, fun k x hx => ?_⟩
  obtain ⟨b, off, e1, e2, e3, e4⟩ := h2 k x hx
  exact ⟨b, off, e1, e2, by rw [hb.cell e2]; exact e3, by rw [hb.cell e2]; exact e4⟩
theorem Steps.up {w : World} {B B' : Nat} {sl : Value} {l : List (ByteArray × Int)} (h : Steps w B sl l) (hb : B ≤ B') : Steps w B' sl l := by
  obtain ⟨a, cap, h1, h2⟩ := h
  refine ⟨a, cap, h1, fun k x hx => ?_⟩
  obtain ⟨b, off, e1, e2, e3⟩ := h2 k x hx
  exact ⟨b, off, e1, by omega, e3⟩
theorem stepCells_get (l : List (ByteArray × Int)) : ∀ k x, l[k]? = some x → (stepCells l)[k * 2]? = some (.string x.1) ∧ (stepCells l)[k * 2 + 1]? = some (.int .i64 x.2) := by
  induction l with
  | nil => intro k x h; simp at h
  | cons y r ih =>
    obtain ⟨s, n⟩ := y
    intro k x h
    cases k with
    | zero => simp at h; subst h; simp [stepCells]
    | succ k =>
      have := ih k x (by simpa using h)
      simpa [stepCells, Nat.succ_mul] using this
theorem add_eq (g k : Nat) : (⟨g, 0, none⟩ : Addr).add k = ⟨g, k, none⟩ := by
  unfold Addr.add; split <;> simp_all
theorem Steps.of_own {w : World} {B : Nat} {sl : Value} {l : List (ByteArray × Int)} (h : w.ownsRow B 169 2 sl l.length (stepCells l)) : Steps w w.heap.size sl l := by
  have hc := h
  obtain ⟨h1, h2⟩ := h
  rcases h2 with ⟨rfl, h3⟩ | ⟨g, cap, cur, rfl, hg, hh, r⟩
  · refine ⟨none, 0, by rw [h3], fun k x hx => ?_⟩
    have : l = [] := List.length_eq_zero_iff.1 h3
    subst this; simp at hx
  · refine ⟨_, cap, rfl, fun k x hx => ⟨g, 0, rfl, ?_, ?_, ?_⟩⟩
    · exact (Array.getElem?_eq_some_iff.1 hh).1
    · have := hc.cells (g := g) rfl _ _ (stepCells_get l k x hx).1
      simpa [add_eq] using this
    · have := hc.cells (g := g) rfl _ _ (stepCells_get l k x hx).2
      simpa [add_eq] using this

theorem isB_kept {T e : TypeId} {B b : Nat} {bs : List Value} {w w' : World} (h : Lib.IsBuilderF T e B b bs w) (hb : Below w.heap.size w w') : Lib.IsBuilderF T e B b bs w' := by
  have one : ∀ p, Lib.BuilderAtF T e B b p bs w → Lib.BuilderAtF T e B b p bs w' := by
    intro p hp
    have hlt := hp.lt
    obtain ⟨h1, v, h2, h3, h4⟩ := hp
    refine ⟨h1, v, by rw [hb.block _ hlt]; exact h2, ?_, h4⟩
    obtain ⟨g1, g2⟩ := h3
    refine ⟨g1, ?_⟩
    rcases g2 with g2 | ⟨g, cap, cur, fz, hv, hg, hh, r⟩
    · exact Or.inl g2
    · refine Or.inr ⟨g, cap, cur, fz, hv, hg, ?_, r⟩
      rw [hb.block g (Array.getElem?_eq_some_iff.1 hh).1]; exact hh
  exact h.imp (one _) (one _)

theorem kept_cell {e : TypeId} {b : Nat} {w w2 : World} {c : Array Value} {t : TypeId} (h : Lib.OthersKept e (some b) (w.alloc (.cells c t)) w2) (hb : b < w.heap.size) (ht : t ≠ e) (i : Nat) : w2.cell? ⟨w.heap.size, i, none⟩ = c[i]? := by
  have h1 : (w.alloc (.cells c t)).heap[w.heap.size]? = some (.cells c t (0, 0)) := heap_alloc_new w _
  have h2 := h w.heap.size _ h1 (by intro e; cases e; omega) (by intro c' fz e; injection e with e1 e2; exact ht e2)
  simp [World.cell?, h2]

theorem textL_take (l : List (ByteArray × Int)) (k : Nat) (x : ByteArray × Int) (hx : l[k]? = some x) : textL (l.take (k + 1)) = textL (l.take k) ++ stepText x := by
  have hlt : k < l.length := (List.getElem?_eq_some_iff.1 hx).1
  have he : l[k] = x := (List.getElem?_eq_some_iff.1 hx).2
  rw [List.take_succ_eq_append_getElem hlt, textL_append, he]; simp [textL]
theorem textL_take_le (l : List (ByteArray × Int)) (k : Nat) : (textL (l.take k)).length ≤ (textL l).length := by
  have : textL l = textL (l.take k) ++ textL (l.drop k) := by rw [← textL_append, List.take_append_drop]
  rw [this]; simp

theorem mid_size (m : List UInt8) : (⟨#[32]⟩ ++ ⟨m.toArray⟩ ++ ⟨#[58, 32]⟩ : ByteArray).size = 1 + m.length + 2 := by
  simp [ByteArray.size_append]; rfl
theorem mid_cells (a : List UInt8) (x : ByteArray × Int) : Lib.byteCells (a ++ stepText x) = Lib.byteCells (a ++ x.1.data.toList) ++ Lib.strCells (⟨#[32]⟩ ++ ⟨(Lib.itoa x.2).toArray⟩ ++ ⟨#[58, 32]⟩) := by
  have e : (⟨#[32]⟩ ++ ⟨(Lib.itoa x.2).toArray⟩ ++ ⟨#[58, 32]⟩ : ByteArray).data.toList = [32] ++ Lib.itoa x.2 ++ [58, 32] := by simp
  rw [Lib.strCells_eq, e, ← Lib.byteCells_append]; simp [stepText]

end Go.Proofs.YtohlepbfjgehgaaGreatDoor

/-
  What is proved here: fault's Of and Wrap, over this program; and the statements' own head and great.
-/
namespace Go.Proofs.YtohlepbfjgehgaaGreatDoor
open Go.RowKit Go.Extern.Stop Go.Stop Go.Extern

theorem Of_ok (w : World) : Calls Tryz.prog 38 #[.int .i64 0] w fun e w' => e = .returned .nilIface ∧ w' = w := by
  go_enter Tryz.func38, Tryz.ntmps38
  go_wp2
  go_ret
  exact ⟨rfl, rfl⟩
theorem Of_err (n : Int) (hn : (n == 0) = false) (w : World) : Calls Tryz.prog 38 #[.int .i64 n] w fun e w' => e = .returned (.iface 70 (.int .i64 n)) ∧ w' = w := by
  go_enter Tryz.func38, Tryz.ntmps38
  go_wp2
  go_ret
  exact ⟨rfl, rfl⟩
theorem Wrap_nil (s : ByteArray) (k : Int) (w : World) : Calls Tryz.prog 73 #[.nilIface, .string s, .int .i64 k] w fun e w' => e = .returned .nilIface ∧ w' = w := by
  go_enter Tryz.func73, Tryz.ntmps73
  go_wp2
  go_ret
  exact ⟨rfl, rfl⟩
theorem Wrap_some (t : TypeId) (x : Value) (s : ByteArray) (k : Int) (w : World) : Calls Tryz.prog 73 #[.iface t x, .string s, .int .i64 k] w fun e w' => e = .returned (.iface 167 (.pointer (some ⟨w.heap.size, 0, none⟩))) ∧ w' = w.alloc (.cells #[.string s, .int .i64 k, .iface t x] 171) := by
  go_enter Tryz.func73, Tryz.ntmps73
  go_wp2
  go_ret
  exact ⟨rfl, rfl⟩
/-- what is wrapped has one step more, the outermost -/
theorem Wrap_chain (B : Nat) (l : List (ByteArray × Int)) (v : Value) (n : Int) (s : ByteArray) (k : Int) (w : World) (hc : Chain B w n v l) (hB : B ≤ w.heap.size) :
    Calls Tryz.prog 73 #[v, .string s, .int .i64 k] w fun e w' => ∃ v', e = .returned v' ∧ Chain w'.heap.size w' n v' ((s, k) :: l) ∧ Below w.heap.size w w' := by
  obtain ⟨t, x, rfl⟩ := hc.iface
  refine (Wrap_some t x s k w).mono ?_
  rintro e w' ⟨he, rfl⟩
  have hb : Below w.heap.size w (w.alloc (.cells #[.string s, .int .i64 k, .iface t x] 171)) := (Below.refl _ _).alloc (Nat.le_refl _) _
  refine ⟨_, he, .step (by simp) ?_ ?_ ?_ ((hc.kept (hb.mono hB)).up (by simp; omega)), hb⟩ <;> simp

theorem head_text : textL [(⟨#[116, 101, 120, 116]⟩, 7)] ++ errText 21 = [116, 101, 120, 116, 32, 55, 58, 32, 99, 111, 104, 111, 114, 116, 58, 32, 101, 114, 114, 111, 114, 32, 50, 49] := by decide +kernel

/-- the world w, behind w0, holds the error v: the number n, wrapped by l; the library's variables lie as they are laid -/
structure At (w0 : World) (n : Int) (v : Value) (l : List (ByteArray × Int)) (w : World) : Prop where
  b : Below w0.heap.size w0 w
  et : ET w
  pt : PT w
  ch : Chain w.heap.size w n v l
theorem At.next {w0 : World} {n : Int} {v : Value} {l : List (ByteArray × Int)} {w w' : World} (h : At w0 n v l w) (hb : Below w.heap.size w w') : At w0 n v l w' :=
  ⟨h.b.trans (hb.mono h.b.size), h.et.kept hb h.et.lt, h.pt.kept hb h.pt.lt, (h.ch.kept hb).up hb.size⟩
/-- of any world: the number alone -/
theorem At.num {w : World} (n : Int) (hg : ET w) (ht : PT w) : At w n (.iface 70 (.int .i64 n)) [] w := ⟨Below.refl _ _, hg, ht, .base⟩

theorem below_drew (w : World) : Below w.heap.size w w.drew := (Below.refl _ _).drew

section
variable {w0 : World} {n : Int} {v : Value} {l : List (ByteArray × Int)} {w : World}
theorem At.wrap (h : At w0 n v l w) (s : ByteArray) (k : Int) : Calls Tryz.prog 73 #[v, .string s, .int .i64 k] w fun e w' => ∃ t x, e = .returned (.iface t x) ∧ Hid (At w0 n (.iface t x) ((s, k) :: l) w') ∧ Hid (Below w.heap.size w w') := by
  refine (Wrap_chain _ l v n s k w h.ch (Nat.le_refl _)).mono ?_
  rintro e w' ⟨v', he, hc, hb⟩
  obtain ⟨t, x, rfl⟩ := hc.iface
  have h2 := h.next hb
  exact ⟨t, x, he, ⟨h2.b, h2.et, h2.pt, hc⟩, hb⟩
theorem At.code (h : At w0 n v l w) : Calls Tryz.prog 26 #[v] w fun e w' => e = .returned (.int .i64 n) ∧ Hid (At w0 n v l w') ∧ Hid (Below w.heap.size w w') := by
  refine (Code_chain _ l v n w h.ch (Nat.le_refl _) h.et).mono ?_
  rintro e w' ⟨he, hb⟩
  exact ⟨he, h.next hb, hb⟩
end

end Go.Proofs.YtohlepbfjgehgaaGreatDoor
