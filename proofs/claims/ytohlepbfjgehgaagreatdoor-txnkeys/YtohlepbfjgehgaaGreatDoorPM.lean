/-
  What is proved here: moves and keys in memory; over this program.
-/
import Derived.Test.YtohlepbfjgehgaaGreatDoorJ4
namespace Go.Proofs.YtohlepbfjgehgaaGreatDoor
open Go.RowKit Go.Extern.Stop Go.Stop Go.Extern

/-- a move: a range, a shard -/
abbrev Mv := List UInt8 × List UInt8 × Int
def mvCells (y : Mv) : List Value := [.string ⟨y.1.toArray⟩, .string ⟨y.2.1.toArray⟩, .int .i64 y.2.2]
def mvV (y : Mv) : Value := .agg #[.string ⟨y.1.toArray⟩, .string ⟨y.2.1.toArray⟩, .int .i64 y.2.2]
def MvFits (y : Mv) : Prop := y.1.length ≤ maxLen ∧ y.2.1.length ≤ maxLen ∧ fits y.2.2
/-- a slice of moves -/
def MvsIn (w : World) (A : Nat → Prop) (v : Value) (l : List Mv) : Prop :=
  ∃ a cap, v = .slice a l.length cap ∧ ∀ (k : Nat) o, l[k]? = some o → ∃ b off, a = some ⟨b, off, none⟩ ∧ A b ∧ w.cell? ⟨b, off + k * 3, none⟩ = some (.string ⟨o.1.toArray⟩) ∧ w.cell? ⟨b, off + k * 3 + 1, none⟩ = some (.string ⟨o.2.1.toArray⟩) ∧ w.cell? ⟨b, off + k * 3 + 2, none⟩ = some (.int .i64 o.2.2)
theorem MvsIn.form {w : World} {A : Nat → Prop} {v : Value} {l : List Mv} (h : MvsIn w A v l) : ∃ a cap, v = .slice a l.length cap := by
  obtain ⟨a, cap, h1, _⟩ := h
  exact ⟨a, cap, h1⟩
theorem MvsIn.kept {w w' : World} {A : Nat → Prop} {v : Value} {l : List Mv} (h : MvsIn w A v l) (hk : Kept A w w') : MvsIn w' A v l := by
  obtain ⟨a, cap, h1, h2⟩ := h
  refine ⟨a, cap, h1, fun k o ho => ?_⟩
  obtain ⟨b, off, e1, e2, c0, c1, c2⟩ := h2 k o ho
  exact ⟨b, off, e1, e2, hk.cell (a := ⟨b, off + k * 3, none⟩) e2 c0, hk.cell (a := ⟨b, off + k * 3 + 1, none⟩) e2 c1, hk.cell (a := ⟨b, off + k * 3 + 2, none⟩) e2 c2⟩
theorem MvsIn.at {w : World} {A : Nat → Prop} {a : Option Addr} {n cap : Nat} {l : List Mv} (h : MvsIn w A (.slice a n cap) l) {k : Nat} {o : Mv} (ho : l[k]? = some o) :
    ∃ b off, a = some ⟨b, off, none⟩ ∧ A b ∧ w.cell? ⟨b, off + k * 3, none⟩ = some (.string ⟨o.1.toArray⟩) ∧ w.cell? ⟨b, off + k * 3 + 1, none⟩ = some (.string ⟨o.2.1.toArray⟩) ∧ w.cell? ⟨b, off + k * 3 + 2, none⟩ = some (.int .i64 o.2.2) := by
  obtain ⟨a', cap', e1, h2⟩ := h
  simp only [Value.slice.injEq] at e1
  obtain ⟨rfl, _, rfl⟩ := e1
  exact h2 k o ho
/-- a slice of keys -/
def strCells (l : List (List UInt8)) : List Value := l.map fun s => .string ⟨s.toArray⟩
def KeysIn (w : World) (A : Nat → Prop) (v : Value) (l : List (List UInt8)) : Prop := RowIn w A v l.length (strCells l)
theorem KeysIn.form {w : World} {A : Nat → Prop} {v : Value} {l : List (List UInt8)} (h : KeysIn w A v l) : ∃ a cap, v = .slice a l.length cap := by
  obtain ⟨a, cap, h1, _⟩ := h
  exact ⟨a, cap, h1⟩
theorem KeysIn.at {w : World} {A : Nat → Prop} {a : Option Addr} {n cap : Nat} {l : List (List UInt8)} (h : KeysIn w A (.slice a n cap) l) {k : Nat} {s : List UInt8} (hs : l[k]? = some s) : ∃ b off, a = some ⟨b, off, none⟩ ∧ A b ∧ w.cell? ⟨b, off + k, none⟩ = some (.string ⟨s.toArray⟩) := by
  obtain ⟨a', cap', e1, _, h2⟩ := h
  simp only [Value.slice.injEq] at e1
  obtain ⟨rfl, _, rfl⟩ := e1
  exact h2 k _ (by simp [strCells, hs])
end Go.Proofs.YtohlepbfjgehgaaGreatDoor
