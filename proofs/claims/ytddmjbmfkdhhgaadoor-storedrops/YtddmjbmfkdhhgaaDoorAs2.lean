/-
  What is proved here: errors.as, the loop of errors.As, over this program, at chains of wrapped errors around an Errno.
-/
import Derived.Test.YtddmjbmfkdhhgaaDoorAs
namespace Go.Proofs.YtddmjbmfkdhhgaaDoor
open Go.RowKit Go.Extern.Stop Go.Stop Go.Extern

/-- v is an error that package fault made: the number n, wrapped by the steps l (the outermost first), all of it in blocks below B. -/
def Chain (B : Nat) (w : World) (n : Int) : Value → List (ByteArray × Int) → Prop
  | v, [] => v = .iface 59 (.int .i64 n)
  | v, (s, k) :: l => ∃ b x, v = .iface 82 (.pointer (some ⟨b, 0, none⟩)) ∧ b < B ∧ w.cell? ⟨b, 0, none⟩ = some (.string s) ∧ w.cell? ⟨b, 1, none⟩ = some (.int .i64 k) ∧ w.cell? ⟨b, 2, none⟩ = some x ∧ Chain B w n x l

theorem Chain.base {B : Nat} {w : World} {n : Int} : Chain B w n (.iface 59 (.int .i64 n)) [] := rfl
theorem Chain.step {B : Nat} {w : World} {n : Int} {b : Nat} {s : ByteArray} {k : Int} {v : Value} {l : List (ByteArray × Int)} (h1 : b < B) (h2 : w.cell? ⟨b, 0, none⟩ = some (.string s)) (h3 : w.cell? ⟨b, 1, none⟩ = some (.int .i64 k)) (h4 : w.cell? ⟨b, 2, none⟩ = some v)
    (h5 : Chain B w n v l) : Chain B w n (.iface 82 (.pointer (some ⟨b, 0, none⟩))) ((s, k) :: l) := ⟨b, v, rfl, h1, h2, h3, h4, h5⟩
/-- taken apart -/
theorem Chain.parts {B : Nat} {w : World} {n : Int} {v : Value} {l : List (ByteArray × Int)} (h : Chain B w n v l) :
    (l = [] ∧ v = .iface 59 (.int .i64 n)) ∨ ∃ b s k x l2, l = (s, k) :: l2 ∧ v = .iface 82 (.pointer (some ⟨b, 0, none⟩)) ∧ b < B ∧ w.cell? ⟨b, 0, none⟩ = some (.string s) ∧ w.cell? ⟨b, 1, none⟩ = some (.int .i64 k) ∧ w.cell? ⟨b, 2, none⟩ = some x ∧ Chain B w n x l2 := by
  match l, h with
  | [], h => exact Or.inl ⟨rfl, h⟩
  | (s, k) :: l2, ⟨b, x, h⟩ => exact Or.inr ⟨b, s, k, x, l2, rfl, h⟩

theorem Chain.kept {B : Nat} {w w' : World} {n : Int} {v : Value} {l : List (ByteArray × Int)} (h : Chain B w n v l) (hb : Below B w w') : Chain B w' n v l := by
  induction l generalizing v with
  | nil => exact h
  | cons y r ih =>
    obtain ⟨b, x, h0, h1, h2, h3, h4, h5⟩ := h
    exact ⟨b, x, h0, h1, by rw [hb.cell h1]; exact h2, by rw [hb.cell h1]; exact h3, by rw [hb.cell h1]; exact h4, ih h5⟩
theorem Chain.up {B B' : Nat} {w : World} {n : Int} {v : Value} {l : List (ByteArray × Int)} (h : Chain B w n v l) (hb : B ≤ B') : Chain B' w n v l := by
  induction l generalizing v with
  | nil => exact h
  | cons y r ih =>
    obtain ⟨b, x, h0, h1, h2, h3, h4, h5⟩ := h
    exact ⟨b, x, h0, by omega, h2, h3, h4, ih h5⟩

theorem hideIt {p : Prop} (h : p) : Hid p := h

theorem unwrap_any (b : Nat) (v : Value) (w : World) (hv : w.cell? ⟨b, 2, none⟩ = some v) :
    Calls Tryd.prog 95 #[.pointer (some ⟨b, 0, none⟩)] w fun e w' => e = .returned v ∧ w' = w := by
  go_enter Tryd.func95, Tryd.ntmps95
  go_wp2
  go_ret
  exact ⟨rfl, rfl⟩

theorem lt_of_cell {w : World} {a : Addr} {v : Value} (h : w.cell? a = some v) : a.block < w.heap.size := by
  rcases Nat.lt_or_ge a.block w.heap.size with h1 | h1
  · exact h1
  · simp [World.cell?, Array.getElem?_eq_none h1] at h

theorem noAsW (v : Value) (xT : TypeId) (w : World) : (Instr.typeAssert (.iface 82 v) xT 119 true).run Tryd.prog w = .ok (.tuple #[.nilIface, .bool false]) w := run_typeAssert_lacksB Tryd.underlying119 (by kernel_rfl) (by kernel_rfl) v xT w
theorem noAsE (v : Value) (xT : TypeId) (w : World) : (Instr.typeAssert (.iface 59 v) xT 119 true).run Tryd.prog w = .ok (.tuple #[.nilIface, .bool false]) w := run_typeAssert_lacksB Tryd.underlying119 (by kernel_rfl) (by kernel_rfl) v xT w
theorem noUnwrapE (v : Value) (xT : TypeId) (w : World) : (Instr.typeAssert (.iface 59 v) xT 122 true).run Tryd.prog w = .ok (.tuple #[.nilIface, .bool false]) w := run_typeAssert_lacksB Tryd.underlying122 (by kernel_rfl) (by kernel_rfl) v xT w
theorem noUnwrapsE (v : Value) (xT : TypeId) (w : World) : (Instr.typeAssert (.iface 59 v) xT 124 true).run Tryd.prog w = .ok (.tuple #[.nilIface, .bool false]) w := run_typeAssert_lacksB Tryd.underlying124 (by kernel_rfl) (by kernel_rfl) v xT w
theorem hasUnwrapW (v : Value) (xT : TypeId) (w : World) : (Instr.typeAssert (.iface 82 v) xT 122 true).run Tryd.prog w = .ok (.tuple #[.iface 82 v, .bool true]) w := run_typeAssert_hasB Tryd.underlying122 (by kernel_rfl) v xT w

/-- a chain's value is no nil -/
theorem Chain.iface {B : Nat} {w : World} {n : Int} {v : Value} {l : List (ByteArray × Int)} (h : Chain B w n v l) : ∃ t x, v = .iface t x := by
  rcases h.parts with ⟨_, rfl⟩ | ⟨b, s, k, x, l2, _, rfl, _⟩
  · exact ⟨_, _, rfl⟩
  · exact ⟨_, _, rfl⟩

end Go.Proofs.YtddmjbmfkdhhgaaDoor
