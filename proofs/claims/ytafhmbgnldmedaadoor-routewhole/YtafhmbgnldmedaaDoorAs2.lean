/-
  What is proved here: errors.as, the loop of errors.As, over this program, at chains of wrapped errors around an Errno.
-/
import Derived.Test.YtafhmbgnldmedaaDoorAs
namespace Go.Proofs.YtafhmbgnldmedaaDoor
open Go.RowKit Go.Extern.Stop Go.Stop Go.Extern

/-- v is an error that package fault made: the number n, wrapped by the steps l (the outermost first), all of it in blocks below B. -/
def Chain (B : Nat) (w : World) (n : Int) : Value → List (ByteArray × Int) → Prop
  | v, [] => v = .iface 32 (.int .i64 n)
  | v, (s, k) :: l => ∃ b x, v = .iface 92 (.pointer (some ⟨b, 0, none⟩)) ∧ b < B ∧ w.cell? ⟨b, 0, none⟩ = some (.string s) ∧ w.cell? ⟨b, 1, none⟩ = some (.int .i64 k) ∧ w.cell? ⟨b, 2, none⟩ = some x ∧ Chain B w n x l

theorem Chain.base {B : Nat} {w : World} {n : Int} : Chain B w n (.iface 32 (.int .i64 n)) [] := rfl
theorem Chain.step {B : Nat} {w : World} {n : Int} {b : Nat} {s : ByteArray} {k : Int} {v : Value} {l : List (ByteArray × Int)} (h1 : b < B) (h2 : w.cell? ⟨b, 0, none⟩ = some (.string s)) (h3 : w.cell? ⟨b, 1, none⟩ = some (.int .i64 k)) (h4 : w.cell? ⟨b, 2, none⟩ = some v)
    (h5 : Chain B w n v l) : Chain B w n (.iface 92 (.pointer (some ⟨b, 0, none⟩))) ((s, k) :: l) := ⟨b, v, rfl, h1, h2, h3, h4, h5⟩
/-- taken apart -/
theorem Chain.parts {B : Nat} {w : World} {n : Int} {v : Value} {l : List (ByteArray × Int)} (h : Chain B w n v l) :
    (l = [] ∧ v = .iface 32 (.int .i64 n)) ∨ ∃ b s k x l2, l = (s, k) :: l2 ∧ v = .iface 92 (.pointer (some ⟨b, 0, none⟩)) ∧ b < B ∧ w.cell? ⟨b, 0, none⟩ = some (.string s) ∧ w.cell? ⟨b, 1, none⟩ = some (.int .i64 k) ∧ w.cell? ⟨b, 2, none⟩ = some x ∧ Chain B w n x l2 := by
  match l, h with
  | [], h => exact Or.inl ⟨rfl, h⟩
  | (s, k) :: l2, ⟨b, x, h⟩ => exact Or.inr ⟨b, s, k, x, l2, rfl, h⟩

theorem Chain.kept {B : Nat} {w w' : World} {n : Int} {v : Value} {l : List (ByteArray × Int)} (h : Chain B w n v l) (hb : Below B w w') : Chain B w' n v l := by
  induction l generalizing v with
  | nil => exact h
  | cons y r ih =>
    obtain ⟨b, x, h0, h1, h2, h3, h4, h5⟩ := h
    exact ⟨b, x, h0, h1, by rw [hb.cell h1]; exact h2, by rw [hb.cell h1]; exact h3, by rw [hb.cell h1]; exact h4, ih h5⟩
theorem Chain.up {B B' : Nat} {w : World} {n : Int} {v : Value} {l : List (ByteArray × Int)} (h : Chain B w n v l) (hb : B ≤ B') : Chain B' w n v l := by
  induction l generalizing v with
  | nil => exact h
  | cons y r ih =>
    obtain ⟨b, x, h0, h1, h2, h3, h4, h5⟩ := h
    exact ⟨b, x, h0, by omega, h2, h3, h4, ih h5⟩

theorem hideIt {p : Prop} (h : p) : Hid p := h

theorem unwrap_any (b : Nat) (v : Value) (w : World) (hv : w.cell? ⟨b, 2, none⟩ = some v) :
    Calls Tryd.prog 105 #[.pointer (some ⟨b, 0, none⟩)] w fun e w' => e = .returned v ∧ w' = w := by
  go_enter Tryd.func105, Tryd.ntmps105
  go_wp2
  go_ret
  exact ⟨rfl, rfl⟩

theorem lt_of_cell {w : World} {a : Addr} {v : Value} (h : w.cell? a = some v) : a.block < w.heap.size := by
  rcases Nat.lt_or_ge a.block w.heap.size with h1 | h1
  · exact h1
  · simp [World.cell?, Array.getElem?_eq_none h1] at h

theorem noAsW (v : Value) (xT : TypeId) (w : World) : (Instr.typeAssert (.iface 92 v) xT 121 true).run Tryd.prog w = .ok (.tuple #[.nilIface, .bool false]) w := run_typeAssert_lacksB Tryd.underlying121 (by kernel_rfl) (by kernel_rfl) v xT w
theorem noAsE (v : Value) (xT : TypeId) (w : World) : (Instr.typeAssert (.iface 32 v) xT 121 true).run Tryd.prog w = .ok (.tuple #[.nilIface, .bool false]) w := run_typeAssert_lacksB Tryd.underlying121 (by kernel_rfl) (by kernel_rfl) v xT w
theorem noUnwrapE (v : Value) (xT : TypeId) (w : World) : (Instr.typeAssert (.iface 32 v) xT 124 true).run Tryd.prog w = .ok (.tuple #[.nilIface, .bool false]) w := run_typeAssert_lacksB Tryd.underlying124 (by kernel_rfl) (by kernel_rfl) v xT w
theorem noUnwrapsE (v : Value) (xT : TypeId) (w : World) : (Instr.typeAssert (.iface 32 v) xT 126 true).run Tryd.prog w = .ok (.tuple #[.nilIface, .bool false]) w := run_typeAssert_lacksB Tryd.underlying126 (by kernel_rfl) (by kernel_rfl) v xT w
theorem hasUnwrapW (v : Value) (xT : TypeId) (w : World) : (Instr.typeAssert (.iface 92 v) xT 124 true).run Tryd.prog w = .ok (.tuple #[.iface 92 v, .bool true]) w := run_typeAssert_hasB Tryd.underlying124 (by kernel_rfl) v xT w

/-- a chain's value is no nil -/
theorem Chain.iface {B : Nat} {w : World} {n : Int} {v : Value} {l : List (ByteArray × Int)} (h : Chain B w n v l) : ∃ t x, v = .iface t x := by
  rcases h.parts with ⟨_, rfl⟩ | ⟨b, s, k, x, l2, _, rfl, _⟩
  · exact ⟨_, _, rfl⟩
  · exact ⟨_, _, rfl⟩

set_option maxHeartbeats 4000000 in
/-- errors.as with a *Errno for its target: the number is found, however deep it lies; the target's variable gets it. -/
theorem as_errno (B : Nat) (l : List (ByteArray × Int)) (v : Value) (n : Int) (a t : Addr) (old : Value) (w : World) (hc : Chain B w n v l) (hB : B ≤ t.block) (ha : w.cell? a = some (.pointer (some t))) (ht0 : w.cell? t = some old) (hf0 : w.frozen? t = false) :
    Calls Tryd.prog 61 #[v, .iface 87 (.pointer (some t)), .agg #[.pointer (some ⟨4, 87, none⟩), .pointer (some a), .int .u64 150], .iface 116 (.agg #[.pointer (some ⟨4, 32, none⟩)])] w
      fun ev w' => ev = .returned (.bool true) ∧ w' = ((w.alloc (.cells #[.pointer (some ⟨4, 87, none⟩), .pointer (some a), .int .u64 150] 101)).alloc (.cells #[.int .i64 n] 32)).setCell t (.int .i64 n) := by
  have h33 := @run_callFunc_extern Tryd.prog 58 _ (fun args => ReflectliteValue.unpack (args.getD 0 (.tuple #[]))) Tryd.func58 (by kernel_rfl) (by kernel_rfl) (by kernel_rfl) (by kernel_rfl)
  have h37 := @run_callFunc_extern Tryd.prog 69 _ ReflectliteType.typeOf Tryd.func69 (by kernel_rfl) (by kernel_rfl) (by kernel_rfl) (by kernel_rfl)
  have h80 := @run_callFunc_extern Tryd.prog 110 _ (ReflectliteType.relation "AssignableTo" ReflectliteType.assignableTo) Tryd.func110 (by kernel_rfl) (by kernel_rfl) (by kernel_rfl) (by kernel_rfl)
  have h42 := @run_callFunc_extern Tryd.prog 70 _ (ReflectliteValue.method (ReflectliteValue.valueError "reflectlite.Value.Elem" 0) ReflectliteValue.elem) Tryd.func70 (by kernel_rfl) (by kernel_rfl) (by kernel_rfl) (by kernel_rfl)
  have h43 := @run_callFunc_extern Tryd.prog 71 _ ReflectliteValue.set Tryd.func71 (by kernel_rfl) (by kernel_rfl) (by kernel_rfl) (by kernel_rfl)
  have tE := typeOfE
  have tW := typeOfW
  have mA := methodAssignableTo
  have mU := methodUnwrap
  have aE := assignableEE
  have aW := assignableWE
  have vE := valueOfE
  have nA := noAsW
  have hU := hasUnwrapW
  have hat := lt_of_cell ha
  have htt := lt_of_cell ht0
  have el := elemVPE a t (w.alloc (.cells #[.pointer (some ⟨4, 87, none⟩), .pointer (some a), .int .u64 150] 101)) (by rw [World.cell?_alloc_lt _ _ a hat]; exact ha)
  have st := setE t ⟨w.heap.size + 1, 0, none⟩ n old ((w.alloc (.cells #[.pointer (some ⟨4, 87, none⟩), .pointer (some a), .int .u64 150] 101)).alloc (.cells #[.int .i64 n] 32))
    (by rw [World.cell?_alloc_at _ _ _ _ (by simp)]; rfl)
    (by rw [World.cell?_alloc_lt _ _ t (by simp; omega), World.cell?_alloc_lt _ _ t htt]; exact ht0)
    (by rw [World.frozen?_alloc_old _ _ t (by simp; omega), World.frozen?_alloc_old _ _ t (by omega)]; exact hf0)
  have hkeep : Chain B (w.alloc (.cells #[.pointer (some ⟨4, 87, none⟩), .pointer (some a), .int .u64 150] 101)) n v l := hc.kept ((Below.refl _ _).alloc (by omega) _)
  clear ha ht0 hf0 hc
  go_enter Tryd.func61, Tryd.ntmps61
  go_wp2
  go_loopg [0] l.length (fun k x wr => ∃ l', l'.length = k ∧ wr = w.alloc (.cells #[.pointer (some ⟨4, 87, none⟩), .pointer (some a), .int .u64 150] 101) ∧ Chain B wr n x l')
  case atStart => exact ⟨l, rfl, rfl, hkeep⟩
  case round =>
    obtain ⟨l', hl, rfl, hch⟩ := hrel
    clear hkeep
    rcases hch.parts with ⟨rfl, rfl⟩ | ⟨b, s, k, x, l2, rfl, rfl, h1, h2, h3, h4, h5⟩
    · clear hch
      go_wp2
      go_ret
      exact ⟨rfl, rfl⟩
    · clear hch
      obtain ⟨ty, y, rfl⟩ := h5.iface
      have HC : Hid (Chain B (w.alloc (.cells #[.pointer (some ⟨4, 87, none⟩), .pointer (some a), .int .u64 150] 101)) n (.iface ty y) l2) := h5
      clear h5 h2 h3
      go_wp2_with (first | (go_at_call 105; refine (unwrap_any b _ _ h4).mono ?_; rintro e w' ⟨rfl, rfl⟩))
      go_roundg l2.length
      case rel => exact ⟨l2, rfl, rfl, HC.out⟩
      case measure => simp at hl; omega
end Go.Proofs.YtafhmbgnldmedaaDoor
