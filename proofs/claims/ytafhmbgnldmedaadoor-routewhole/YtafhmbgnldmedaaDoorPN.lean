/-
  What is proved here: a route beside a row that grows; what owners were told; over this program.
-/
import Derived.Test.YtafhmbgnldmedaaDoorPL
namespace Go.Proofs.YtafhmbgnldmedaaDoor
open Go.RowKit Go.Extern.Stop Go.Stop Go.Extern

/-- a world with a Route whose pieces lie below B -/
structure RsB (w0 w : World) (p B : Nat) (l : List Pc) : Prop where
  env : Env w0 w
  rt : Rt w p (fun k => k ≠ p ∧ k < B) l
  low : w0.heap.size ≤ p
  fit : FitP l
  pB : p < B
  bl : B ≤ w.heap.size
theorem Rs.toB {w0 w : World} {p : Nat} {l : List Pc} (h : Rs w0 w p l) : RsB w0 w p w.heap.size l := ⟨h.env, h.rt.mono (fun _ hk hl => ⟨hk, hl⟩) (fun h => h.1 rfl), h.low, h.fit, h.rt.lt, Nat.le_refl _⟩
theorem RsB.rs {w0 w : World} {p B : Nat} {l : List Pc} (h : RsB w0 w p B l) : Rs w0 w p l := ⟨h.env, h.rt.mono (fun _ hk _ => hk.1) (fun h => h rfl), h.low, h.fit⟩
theorem RsB.next {w0 w w' : World} {p B : Nat} {l : List Pc} (h : RsB w0 w p B l) (hb : Below w.heap.size w w') : RsB w0 w' p B l := ⟨h.env.next hb, h.rt.next hb, h.low, h.fit, h.pB, Nat.le_trans h.bl hb.size⟩
theorem RsB.row {w0 w w' : World} {p B : Nat} {l : List Pc} {r : Option Nat} (h : RsB w0 w p B l) (hg : w.grownBy w' r) (hr : ∀ g, r = some g → B ≤ g) : RsB w0 w' p B l := by
  have hpl := h.pB
  have hlow := h.low
  refine ⟨⟨h.env.1.grown hg h.env.1.size (fun k hk => by have := hr k hk; omega), h.env.2⟩, ?_, h.low, h.fit, h.pB, Nat.le_trans h.bl hg.size⟩
  obtain ⟨v, h1, h2, h3, h4⟩ := h.rt
  have hb := hg.block p (lt_of_cell (a := ⟨p, 0, none⟩) h1) (fun e => by have := hr p e.symm; omega)
  exact ⟨v, (World.cell?_of_block (a := ⟨p, 0, none⟩) hb).trans h1, (World.frozen?_of_block (a := ⟨p, 0, none⟩) hb).trans h2, ⟨RowIn.kept h3.1 (fun k hk hl => hg.block k hl (fun e => by have := hr k e.symm; have := hk.2; omega)), h3.2⟩, h4⟩
theorem R3.row {w w' : World} {q B : Nat} {a b c : Value} {r : Option Nat} (h : R3 w q a b c) (hg : w.grownBy w' r) (hr : ∀ g, r = some g → B ≤ g) (hq : q < B) : R3 w' q a b c := by
  have hb := hg.block q h.lt (fun e => by have := hr q e.symm; omega)
  exact ⟨(World.cell?_of_block (a := ⟨q, 0, none⟩) hb).trans h.1, (World.cell?_of_block (a := ⟨q, 1, none⟩) hb).trans h.2.1, (World.cell?_of_block (a := ⟨q, 2, none⟩) hb).trans h.2.2⟩
/-- the first pieces' owners, as they were told -/
def Told9 (lk : List Pc) (keys : List (List UInt8)) (k : Nat) (was : List Pc) : Prop := was.length = k ∧ ∀ (j : Nat) s y, keys[j]? = some s → was[j]? = some y → OwnIs lk s y
theorem told9_nil (lk : List Pc) (keys : List (List UInt8)) : Told9 lk keys 0 [] := ⟨rfl, fun j s y _ hy => by simp at hy⟩
theorem told9_snoc {lk : List Pc} {keys : List (List UInt8)} {was : List Pc} {k : Nat} {key : List UInt8} {x : Pc} (h : Told9 lk keys k was) (hk : keys[k]? = some key) (hx : OwnIs lk key x) : Told9 lk keys (k + 1) (was ++ [x]) := by
  refine ⟨by simp [h.1], fun j s y hs hy => ?_⟩
  by_cases hj : j < was.length
  · rw [List.getElem?_append_left hj] at hy
    exact h.2 j s y hs hy
  · rw [List.getElem?_append_right (by omega)] at hy
    have h0 : j - was.length = 0 := by
      have := (List.getElem?_eq_some_iff.1 hy).1; simp at this; omega
    rw [h0] at hy
    simp at hy
    subst hy
    obtain rfl : j = k := by have := h.1; omega
    rw [hk] at hs; cases hs
    exact hx
theorem told9_at {lk : List Pc} {keys : List (List UInt8)} {was : List Pc} {k : Nat} {key : List UInt8} (h : Told9 lk keys keys.length was) (hk : keys[k]? = some key) : ∃ y, was[k]? = some y ∧ OwnIs lk key y := by
  have hl := (List.getElem?_eq_some_iff.1 hk).1
  have hw : k < was.length := by rw [h.1]; exact hl
  exact ⟨was[k], List.getElem?_eq_getElem hw, h.2 k key _ hk (List.getElem?_eq_getElem hw)⟩
theorem KeysIn.low {w0 w : World} {v : Value} {l : List (List UInt8)} (h : KeysIn w0 (· < w0.heap.size) v l) (hb : Below w0.heap.size w0 w) : KeysIn w (· < w0.heap.size) v l := RowIn.kept h (Kept.of_below hb (fun _ h _ => h))
end Go.Proofs.YtafhmbgnldmedaaDoor
