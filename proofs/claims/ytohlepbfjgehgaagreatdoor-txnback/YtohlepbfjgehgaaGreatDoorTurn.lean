/-
  What is proved here: worlds that differ only in blocks of one's own; rows of one's own, over this program.
-/
import Derived.Test.YtohlepbfjgehgaaGreatDoorMem
import Derived.Maps.OwnSet
import Derived.Maps.AppendAt
namespace Go.Proofs.YtohlepbfjgehgaaGreatDoor
open Go.RowKit Go.Extern.Stop Go.Stop Go.Extern

/-- what is not in O is as it was -/
structure Turn (O : Nat → Prop) (w w' : World) : Prop where
  os : w'.os = w.os
  tape : w'.tape = w.tape
  output : w'.output = w.output
  size : w.heap.size ≤ w'.heap.size
  block : ∀ k, k < w.heap.size → ¬ O k → w'.heap[k]? = w.heap[k]?
theorem Turn.refl (O : Nat → Prop) (w : World) : Turn O w w := ⟨rfl, rfl, rfl, Nat.le_refl _, fun _ _ _ => rfl⟩
theorem Turn.below {O : Nat → Prop} {B : Nat} {w w' : World} (h : Turn O w w') (hO : ∀ k, O k → B ≤ k) (hB : B ≤ w.heap.size) : Below B w w' :=
  ⟨h.os, h.tape, h.output, h.size, fun k hk => h.block k (by omega) (fun o => by have := hO k o; omega)⟩
theorem Turn.of_below {O : Nat → Prop} {w w' : World} (h : Below w.heap.size w w') : Turn O w w' := ⟨h.os, h.tape, h.output, h.size, fun k hk _ => h.block k hk⟩
theorem Turn.of_grown {O : Nat → Prop} {w w' : World} {r : Option Nat} (h : w.grownBy w' r) (hr : ∀ g, r = some g → g < w.heap.size → O g) : Turn O w w' :=
  ⟨h.os, h.tape, h.output, h.size, fun k hk ho => h.block k hk (fun e => ho (hr k e.symm hk))⟩
theorem Turn.trans {O O1 : Nat → Prop} {w w1 w2 : World} (h : Turn O w w1) (h1 : Turn O1 w1 w2) (hO : ∀ k, O1 k → O k ∨ w.heap.size ≤ k) : Turn O w w2 :=
  ⟨h1.os.trans h.os, h1.tape.trans h.tape, h1.output.trans h.output, Nat.le_trans h.size h1.size, fun k hk ho =>
    (h1.block k (Nat.lt_of_lt_of_le hk h.size) (fun o => by rcases hO k o with o | o; exact ho o; omega)).trans (h.block k hk ho)⟩
theorem Turn.kept {O A : Nat → Prop} {w w' : World} (h : Turn O w w') (hA : ∀ k, A k → k < w.heap.size → ¬ O k) : Kept A w w' := fun k hk hl => h.block k hl (hA k hk hl)

theorem ownsRow_of_block {w w' : World} {B e size n : Nat} {v : Value} {xs : List Value} (h : w.ownsRow B e size v n xs) (hk : ∀ g, v.ownBlock = some g → w'.heap[g]? = w.heap[g]?) : w'.ownsRow B e size v n xs := by
  obtain ⟨h1, h2⟩ := h
  refine ⟨h1, ?_⟩
  rcases h2 with h2 | ⟨g, cap, cur, rfl, hb, hg, r⟩
  · exact Or.inl h2
  · exact Or.inr ⟨g, cap, cur, rfl, hb, (hk g rfl).trans hg, r⟩
theorem ownsRow_lt {w : World} {B e size n : Nat} {v : Value} {xs : List Value} (h : w.ownsRow B e size v n xs) {g : Nat} (hg : v.ownBlock = some g) : g < w.heap.size := by
  obtain ⟨h1, h2⟩ := h
  rcases h2 with ⟨rfl, _⟩ | ⟨g', cap, cur, rfl, hb, hgg, r⟩
  · cases hg
  · cases hg; exact (Array.getElem?_eq_some_iff.1 hgg).1
theorem Env.turned {w0 w w' : World} {O : Nat → Prop} (h : Env w0 w) (ht : Turn O w w') (hO : ∀ k, O k → w0.heap.size ≤ k) : Env w0 w' := ⟨h.1.trans (ht.below hO h.1.size), h.2⟩

theorem Env.turn {w0 w w' : World} {O : Nat → Prop} (h : Env w0 w) (ht : Turn O w w') (hO : ∀ k, O k → w0.heap.size ≤ k) : Env w0 w' := ⟨h.1.trans (ht.below hO h.1.size), h.2⟩

theorem own_drew {w : World} {B e size n : Nat} {v : Value} {xs : List Value} (h : w.ownsRow B e size v n xs) (m : Nat) : (w.drewN m).ownsRow B e size v n xs := ownsRow_of_block h (fun _ _ => rfl)

theorem infoI : (Tryz.prog.info? 3).map (fun i => (i.zero, i.size, i.bytes)) = some (some (.int .i64 0), 1, 8) := by kernel_rfl

theorem own_cell {w : World} {B e : Nat} {v : Value} {n : Nat} {ds : List Int} (h : w.ownsRow B e 1 v n (numCells ds)) {j : Nat} {z : Int} (hz : ds[j]? = some z) : ∃ g cap, v = .slice (some ⟨g, 0, none⟩) n cap ∧ w.cell? ⟨g, j, none⟩ = some (.int .i64 z) ∧ n ≤ cap := by
  have hc := h
  have hj := (List.getElem?_eq_some_iff.1 hz).1
  rcases h.2 with ⟨rfl, e⟩ | ⟨g, cap, cur, rfl, _, _, hle, _⟩
  · have := h.1; simp [numCells] at this; omega
  · have := hc.cells (g := g) rfl j (.int .i64 z) (by simp [numCells, hz])
    rw [addr_add, Nat.zero_add] at this
    exact ⟨g, cap, rfl, this, hle⟩

end Go.Proofs.YtohlepbfjgehgaaGreatDoor
