/-
  What is proved here: errors.as, the loop of errors.As, over this program, at chains of wrapped errors around an Errno.
-/
import Derived.Test.YtaageigehobdmaaDoorAs
namespace Go.Proofs.YtaageigehobdmaaDoor
open Go.RowKit Go.Extern.Stop Go.Stop Go.Extern

/-- v is an error that package fault made: the number n, wrapped by the steps l (the outermost first), all of it in blocks below B. -/
inductive Chain (B : Nat) (w : World) (n : Int) : Value → List (ByteArray × Int) → Prop
  | base : Chain B w n (.iface 22 (.int .i64 n)) []
  | step {b : Nat} {s : ByteArray} {k : Int} {v : Value} {l : List (ByteArray × Int)} : b < B → w.cell? ⟨b, 0, none⟩ = some (.string s) → w.cell? ⟨b, 1, none⟩ = some (.int .i64 k) → w.cell? ⟨b, 2, none⟩ = some v →
      Chain B w n v l → Chain B w n (.iface 43 (.pointer (some ⟨b, 0, none⟩))) ((s, k) :: l)

theorem Chain.kept {B : Nat} {w w' : World} {n : Int} {v : Value} {l : List (ByteArray × Int)} (h : Chain B w n v l) (hb : Below B w w') : Chain B w' n v l := by
  induction h with
  | base => exact .base
  | step h1 h2 h3 h4 _ ih => exact .step h1 (by rw [hb.cell h1]; exact h2) (by rw [hb.cell h1]; exact h3) (by rw [hb.cell h1]; exact h4) ih
theorem Chain.up {B B' : Nat} {w : World} {n : Int} {v : Value} {l : List (ByteArray × Int)} (h : Chain B w n v l) (hb : B ≤ B') : Chain B' w n v l := by
  induction h with
  | base => exact .base
  | step h1 h2 h3 h4 _ ih => exact .step (by omega) h2 h3 h4 ih

theorem hideIt {p : Prop} (h : p) : Hid p := h

theorem unwrap_any (b : Nat) (v : Value) (w : World) (hv : w.cell? ⟨b, 2, none⟩ = some v) :
    Calls Tryd.prog 74 #[.pointer (some ⟨b, 0, none⟩)] w fun e w' => e = .returned v ∧ w' = w := by
  go_enter Tryd.func74, Tryd.ntmps74
  go_wp2
  go_ret
  exact ⟨rfl, rfl⟩

theorem lt_of_cell {w : World} {a : Addr} {v : Value} (h : w.cell? a = some v) : a.block < w.heap.size := by
  rcases Nat.lt_or_ge a.block w.heap.size with h1 | h1
  · exact h1
  · simp [World.cell?, Array.getElem?_eq_none h1] at h

theorem noAsW (v : Value) (xT : TypeId) (w : World) : (Instr.typeAssert (.iface 43 v) xT 85 true).run Tryd.prog w = .ok (.tuple #[.nilIface, .bool false]) w := run_typeAssert_lacksB Tryd.underlying85 (by kernel_rfl) (by kernel_rfl) v xT w
theorem noAsE (v : Value) (xT : TypeId) (w : World) : (Instr.typeAssert (.iface 22 v) xT 85 true).run Tryd.prog w = .ok (.tuple #[.nilIface, .bool false]) w := run_typeAssert_lacksB Tryd.underlying85 (by kernel_rfl) (by kernel_rfl) v xT w
theorem noIsW (v : Value) (xT : TypeId) (w : World) : (Instr.typeAssert (.iface 43 v) xT 93 true).run Tryd.prog w = .ok (.tuple #[.nilIface, .bool false]) w := run_typeAssert_lacksB Tryd.underlying93 (by kernel_rfl) (by kernel_rfl) v xT w
theorem noIsE (v : Value) (xT : TypeId) (w : World) : (Instr.typeAssert (.iface 22 v) xT 93 true).run Tryd.prog w = .ok (.tuple #[.nilIface, .bool false]) w := run_typeAssert_lacksB Tryd.underlying93 (by kernel_rfl) (by kernel_rfl) v xT w
theorem noUnwrapE (v : Value) (xT : TypeId) (w : World) : (Instr.typeAssert (.iface 22 v) xT 88 true).run Tryd.prog w = .ok (.tuple #[.nilIface, .bool false]) w := run_typeAssert_lacksB Tryd.underlying88 (by kernel_rfl) (by kernel_rfl) v xT w
theorem noUnwrapsE (v : Value) (xT : TypeId) (w : World) : (Instr.typeAssert (.iface 22 v) xT 90 true).run Tryd.prog w = .ok (.tuple #[.nilIface, .bool false]) w := run_typeAssert_lacksB Tryd.underlying90 (by kernel_rfl) (by kernel_rfl) v xT w
theorem hasUnwrapW (v : Value) (xT : TypeId) (w : World) : (Instr.typeAssert (.iface 43 v) xT 88 true).run Tryd.prog w = .ok (.tuple #[.iface 43 v, .bool true]) w := run_typeAssert_hasB Tryd.underlying88 (by kernel_rfl) v xT w

/-- a chain's value is no nil -/
theorem Chain.iface {B : Nat} {w : World} {n : Int} {v : Value} {l : List (ByteArray × Int)} (h : Chain B w n v l) : ∃ t x, v = .iface t x := by
  cases h with
  | base => exact ⟨_, _, rfl⟩
  | step => exact ⟨_, _, rfl⟩

set_option maxHeartbeats 4000000 in
/-- errors.as with a *Errno for its target: the number is found, however deep it lies; the target's variable gets it. -/
theorem as_errno (B : Nat) (l : List (ByteArray × Int)) (v : Value) (n : Int) (a t : Addr) (old : Value) (w : World) (hc : Chain B w n v l) (hB : B ≤ t.block) (ha : w.cell? a = some (.pointer (some t))) (ht0 : w.cell? t = some old) (hf0 : w.frozen? t = false) :
    Calls Tryd.prog 36 #[v, .iface 58 (.pointer (some t)), .agg #[.pointer (some ⟨4, 58, none⟩), .pointer (some a), .int .u64 150], .iface 81 (.agg #[.pointer (some ⟨4, 22, none⟩)])] w
      fun ev w' => ev = .returned (.bool true) ∧ w' = ((w.alloc (.cells #[.pointer (some ⟨4, 58, none⟩), .pointer (some a), .int .u64 150] 66)).alloc (.cells #[.int .i64 n] 22)).setCell t (.int .i64 n) := by
  have h33 := @run_callFunc_extern Tryd.prog 33 _ (fun args => ReflectliteValue.unpack (args.getD 0 (.tuple #[]))) Tryd.func33 (by kernel_rfl) (by kernel_rfl) (by kernel_rfl) (by kernel_rfl)
  have h37 := @run_callFunc_extern Tryd.prog 37 _ ReflectliteType.typeOf Tryd.func37 (by kernel_rfl) (by kernel_rfl) (by kernel_rfl) (by kernel_rfl)
  have h80 := @run_callFunc_extern Tryd.prog 80 _ (ReflectliteType.relation "AssignableTo" ReflectliteType.assignableTo) Tryd.func80 (by kernel_rfl) (by kernel_rfl) (by kernel_rfl) (by kernel_rfl)
  have h42 := @run_callFunc_extern Tryd.prog 42 _ (ReflectliteValue.method (ReflectliteValue.valueError "reflectlite.Value.Elem" 0) ReflectliteValue.elem) Tryd.func42 (by kernel_rfl) (by kernel_rfl) (by kernel_rfl) (by kernel_rfl)
  have h43 := @run_callFunc_extern Tryd.prog 43 _ ReflectliteValue.set Tryd.func43 (by kernel_rfl) (by kernel_rfl) (by kernel_rfl) (by kernel_rfl)
  have tE := typeOfE
  have tW := typeOfW
  have mA := methodAssignableTo
  have mU := methodUnwrap
  have aE := assignableEE
  have aW := assignableWE
  have vE := valueOfE
  have nA := noAsW
  have hU := hasUnwrapW
  have hat := lt_of_cell ha
  have htt := lt_of_cell ht0
  have el := elemVPE a t (w.alloc (.cells #[.pointer (some ⟨4, 58, none⟩), .pointer (some a), .int .u64 150] 66)) (by rw [World.cell?_alloc_lt _ _ a hat]; exact ha)
  have st := setE t ⟨w.heap.size + 1, 0, none⟩ n old ((w.alloc (.cells #[.pointer (some ⟨4, 58, none⟩), .pointer (some a), .int .u64 150] 66)).alloc (.cells #[.int .i64 n] 22))
    (by rw [World.cell?_alloc_at _ _ _ _ (by simp)]; rfl)
    (by rw [World.cell?_alloc_lt _ _ t (by simp; omega), World.cell?_alloc_lt _ _ t htt]; exact ht0)
    (by rw [World.frozen?_alloc_old _ _ t (by simp; omega), World.frozen?_alloc_old _ _ t (by omega)]; exact hf0)
  have hkeep : Chain B (w.alloc (.cells #[.pointer (some ⟨4, 58, none⟩), .pointer (some a), .int .u64 150] 66)) n v l := hc.kept ((Below.refl _ _).alloc (by omega) _)
  clear ha ht0 hf0 hc
  go_enter Tryd.func36, Tryd.ntmps36
  go_wp2
  go_loopg [0] l.length (fun k x wr => ∃ l', l'.length = k ∧ wr = w.alloc (.cells #[.pointer (some ⟨4, 58, none⟩), .pointer (some a), .int .u64 150] 66) ∧ Chain B wr n x l')
  case atStart => exact ⟨l, rfl, rfl, hkeep⟩
  case round =>
    obtain ⟨l', hl, rfl, hch⟩ := hrel
    clear hkeep
    cases hch with
    | base =>
      go_wp2
      go_ret
      exact ⟨rfl, rfl⟩
    | @step b s k x l2 h1 h2 h3 h4 h5 =>
      obtain ⟨ty, y, rfl⟩ := h5.iface
      have HC : Hid (Chain B (w.alloc (.cells #[.pointer (some ⟨4, 58, none⟩), .pointer (some a), .int .u64 150] 66)) n (.iface ty y) l2) := h5
      clear h5 h2 h3
      go_wp2_with (first | (go_at_call 74; refine (unwrap_any b _ _ h4).mono ?_; rintro e w' ⟨rfl, rfl⟩))
      go_roundg l2.length
      case rel => exact ⟨l2, rfl, rfl, HC.out⟩
      case measure => simp at hl; omega
end Go.Proofs.YtaageigehobdmaaDoor
