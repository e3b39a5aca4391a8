/-
  What is proved here: a slice of things of three ints, in memory.
-/
import Derived.Test.YtpgahjnjkihmhaaGreatDoorMem
namespace Go.Proofs.YtpgahjnjkihmhaaGreatDoor
open Go.RowKit Go.Extern.Stop Go.Stop Go.Extern

/-- three ints -/
abbrev Op4 := Int × Int × Int
/-- a slice of such -/
def Ops4In (w : World) (A : Nat → Prop) (v : Value) (l : List Op4) : Prop :=
  ∃ a cap, v = .slice a l.length cap ∧ ∀ k x, l[k]? = some x → ∃ b off, a = some ⟨b, off, none⟩ ∧ A b ∧ w.cell? ⟨b, off + k * 3, none⟩ = some (.int .i64 x.1) ∧ w.cell? ⟨b, off + k * 3 + 1, none⟩ = some (.int .i64 x.2.1) ∧ w.cell? ⟨b, off + k * 3 + 2, none⟩ = some (.int .i64 x.2.2)
theorem Ops4In.kept {w w' : World} {A : Nat → Prop} {v : Value} {l : List Op4} (h : Ops4In w A v l) (hk : Kept A w w') : Ops4In w' A v l := by
  obtain ⟨a, cap, h1, h2⟩ := h
  refine ⟨a, cap, h1, fun k x hx => ?_⟩
  obtain ⟨b, off, e1, e2, c0, c1, c2⟩ := h2 k x hx
  exact ⟨b, off, e1, e2, hk.cell (a := ⟨b, _, none⟩) e2 c0, hk.cell (a := ⟨b, _, none⟩) e2 c1, hk.cell (a := ⟨b, _, none⟩) e2 c2⟩
theorem Ops4In.mono {w : World} {A A' : Nat → Prop} {v : Value} {l : List Op4} (h : Ops4In w A v l) (hA : ∀ k, A k → k < w.heap.size → A' k) : Ops4In w A' v l := by
  obtain ⟨a, cap, h1, h2⟩ := h
  refine ⟨a, cap, h1, fun k x hx => ?_⟩
  obtain ⟨b, off, e1, e2, c0, c1, c2⟩ := h2 k x hx
  exact ⟨b, off, e1, hA b e2 (lt_of_cell (a := ⟨b, _, none⟩) c0), c0, c1, c2⟩
theorem Ops4In.form {w : World} {A : Nat → Prop} {v : Value} {l : List Op4} (h : Ops4In w A v l) : ∃ a cap, v = .slice a l.length cap := by
  obtain ⟨a, cap, h1, _⟩ := h
  exact ⟨a, cap, h1⟩
theorem Ops4In.at {w : World} {A : Nat → Prop} {a : Option Addr} {n cap : Nat} {l : List Op4} (h : Ops4In w A (.slice a n cap) l) {k : Nat} {x : Op4} (hs : l[k]? = some x) : ∃ b off, a = some ⟨b, off, none⟩ ∧ A b ∧ w.cell? ⟨b, off + k * 3, none⟩ = some (.int .i64 x.1) ∧ w.cell? ⟨b, off + k * 3 + 1, none⟩ = some (.int .i64 x.2.1) ∧ w.cell? ⟨b, off + k * 3 + 2, none⟩ = some (.int .i64 x.2.2) := by
  obtain ⟨a', cap', e1, h2⟩ := h
  simp only [Value.slice.injEq] at e1
  obtain ⟨rfl, _, rfl⟩ := e1
  exact h2 k x hs
/-- what can be read -/
def Op4Ok (x : Op4) : Prop := fits x.1 ∧ fits x.2.1 ∧ fits x.2.2
end Go.Proofs.YtpgahjnjkihmhaaGreatDoor
