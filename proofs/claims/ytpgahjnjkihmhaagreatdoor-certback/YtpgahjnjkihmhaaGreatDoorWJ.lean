/-
  What is proved here: the Reader's row of texts, over this program.
-/
import Derived.Test.YtpgahjnjkihmhaaGreatDoorWI
namespace Go.Proofs.YtpgahjnjkihmhaaGreatDoor
open Go.RowKit Go.Extern.Stop Go.Stop Go.Extern

theorem RowIn.over {w w' : World} {A A' : Nat → Prop} {v : Value} {n : Nat} {cs : List Value} (h : RowIn w A v n cs) (hk : Kept A w w') (hA : ∀ k, A k → k < w.heap.size → A' k) : RowIn w' A' v n cs := by
  obtain ⟨a, cap, h1, h2, h3⟩ := h
  refine ⟨a, cap, h1, h2, fun k x hx => ?_⟩
  obtain ⟨b, off, e1, e2, e3⟩ := h3 k x hx
  exact ⟨b, off, e1, hA b e2 (lt_of_cell (a := ⟨b, off + k, none⟩) e3), hk.cell (a := ⟨b, off + k, none⟩) e2 e3⟩

/-- a row of texts, all of it in blocks from B on; the texts' blocks are none of the row's -/
def TRow (w : World) (B : Nat) (v : Value) (acc : List (List UInt8)) : Prop :=
  ∃ vs : List Value, vs.length = acc.length ∧ w.ownsRow B 25 1 v acc.length vs ∧ (∀ u ∈ vs, u.oneCell' = true) ∧ ∀ (i : Nat) (s : List UInt8) (u : Value), acc[i]? = some s → vs[i]? = some u → BytesIn w (fun b => B ≤ b ∧ v.ownBlock ≠ some b) u s
theorem TRow.nil (w : World) (B : Nat) : TRow w B (.slice none 0 0) [] := ⟨[], rfl, World.ownsRow_nil _ _ _ _, (fun _ h => by cases h), fun i s u h => by simp at h⟩
theorem TRow.grown {w w' : World} {B p : Nat} {v : Value} {acc : List (List UInt8)} (h : TRow w B v acc) (hg : w.grownBy w' (some p)) (hp : p < B) : TRow w' B v acc := by
  obtain ⟨vs, h1, h2, h3, h4⟩ := h
  exact ⟨vs, h1, own_grown h2 hg hp, h3, fun i s u a b => (h4 i s u a b).kept (Kept.of_grown hg (fun h => by have := h.1; omega))⟩
theorem TRow.texts {w : World} {B : Nat} {v : Value} {acc : List (List UInt8)} {A : Nat → Prop} (h : TRow w B v acc) (hA : ∀ k, B ≤ k → A k) : TextsIn w A v acc := by
  obtain ⟨vs, h1, h2, h3, h4⟩ := h
  exact ⟨vs, h1, RowIn.of_own h2 hA, fun i s u a b => (h4 i s u a b).mono (fun k hk _ => hA k hk.1)⟩
theorem TRow.push {wr w2 w3 : World} {B : Nat} {v v' u : Value} {acc : List (List UInt8)} {vs : List Value} {x : List UInt8} {t : TypeId}
    (h1 : vs.length = acc.length) (h3 : ∀ u ∈ vs, u.oneCell' = true) (h4 : ∀ (i : Nat) (s : List UInt8) (u : Value), acc[i]? = some s → vs[i]? = some u → BytesIn w2 (fun b => B ≤ b ∧ v.ownBlock ≠ some b) u s) (hB : B ≤ wr.heap.size)
    (hx : BytesIn w2 (wr.heap.size ≤ ·) u x) (hlt : ∀ k, v.ownBlock = some k → k < wr.heap.size)
    (ho : w3.ownsRow B 25 1 v' (acc ++ [x]).length (vs ++ [u])) (hg : (w2.alloc (.cells #[u] t)).grownBy w3 v.ownBlock) (hat : v'.ownBlock = v.ownBlock ∨ v'.ownBlock = some (w2.heap.size + 1)) : TRow w3 B v' (acc ++ [x]) := by
  have hone : u.oneCell' = true := by obtain ⟨a, cap, rfl, _⟩ := hx.form; rfl
  have hk : Kept (fun b => B ≤ b ∧ v.ownBlock ≠ some b) w2 w3 := fun k ⟨_, hk2⟩ hl => by
    rw [hg.block k (by simp; omega) (fun e => hk2 e.symm)]
    exact Below.heap_alloc w2 _ k hl
  have hnew : ∀ b, (B ≤ b ∧ v.ownBlock ≠ some b) → b < w2.heap.size → (B ≤ b ∧ v'.ownBlock ≠ some b) := fun b hb hl => by
    refine ⟨hb.1, ?_⟩
    rcases hat with e | e
    · rw [e]; exact hb.2
    · rw [e]; simp; omega
  refine ⟨vs ++ [u], by simp [h1], ho, ?_, ?_⟩
  · intro y hy
    rcases List.mem_append.1 hy with h | h
    · exact h3 y h
    · simp at h; subst h; exact hone
  · intro i s y hs2 hy
    by_cases hi : i < acc.length
    · rw [List.getElem?_append_left hi] at hs2
      rw [List.getElem?_append_left (by omega)] at hy
      exact RowIn.over (h4 i s y hs2 hy) hk hnew
    · rw [List.getElem?_append_right (by omega)] at hs2 hy
      have e0 : i - acc.length = 0 := by
        rcases Nat.eq_zero_or_pos (i - acc.length) with h | h
        · exact h
        · rw [List.getElem?_eq_none (by simp; omega)] at hs2; cases hs2
      rw [e0] at hs2
      rw [h1, e0] at hy
      simp at hs2 hy
      subst hs2 hy
      have hx2 : BytesIn w2 (fun b => B ≤ b ∧ v.ownBlock ≠ some b) u x := hx.mono (fun b hb _ => ⟨by omega, fun e => by have := hlt b e; omega⟩)
      exact RowIn.over hx2 hk hnew

end Go.Proofs.YtpgahjnjkihmhaaGreatDoor
