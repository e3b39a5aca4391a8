/-
  What is proved here: a store beside a box that is written; plain facts for the statements on stores; over this program.
-/
import Derived.Test.YtohlepbfjgehgaaGreatDoorTO
namespace Go.Proofs.YtohlepbfjgehgaaGreatDoor
open Go.RowKit Go.Extern.Stop Go.Stop Go.Extern

theorem Sto.other {w w' : World} {p b : Nat} {O : Nat → Prop} {l : List Ent} (h : Sto w p O l) (hg : w.grownBy w' (some b)) (hb : ¬ O b) : Sto w' p O l := by
  obtain ⟨v, h1, h2, h3, h4, h5, h6⟩ := h
  have hne : ∀ k, O k → some b ≠ some k := fun k hk e => hb (by cases e; exact hk)
  have hblk : w'.heap[p]? = w.heap[p]? := hg.block p (h4 p h3) (fun e => by first | exact hne p h3 e | exact hne p h3 e.symm)
  exact ⟨v, (World.cell?_of_block (a := ⟨p, 0, none⟩) hblk).trans h1, (World.frozen?_of_block (a := ⟨p, 0, none⟩) hblk).trans h2, h3, fun k hk => Nat.lt_of_lt_of_le (h4 k hk) hg.size, ownsRow_of_block h5 (fun g hgg => hg.block g (h4 g (h6 g hgg).1) (fun e => by first | exact hne g (h6 g hgg).1 e | exact hne g (h6 g hgg).1 e.symm)), h6⟩
theorem Ss.other {w0 w w' : World} {p b : Nat} {O : Nat → Prop} {l : List Ent} (h : Ss w0 w p O l) (hg : w.grownBy w' (some b)) (hb : ¬ O b) (hw : w0.heap.size ≤ b) : Ss w0 w' p O l := ⟨h.env.grown hg hw, h.sto.other hg hb, h.low⟩
theorem T4.other {w w' : World} {b k : Nat} {x y z u : Value} (h : T4 w b x y z u) (hg : w.grownBy w' (some k)) (hne : b ≠ k) : T4 w' b x y z u := h.grown hg hne
theorem room_fits {l : List Ent} {ws : List Wr} {T : List (List UInt8)} (hl : l.length ≤ 90) (hw : ws.length ≤ 20) : decide ((newN l (wrChosen ws T) : Int) ≤ 128 - (l.length : Int)) = true := by
  have h1 : newN l (wrChosen ws T) ≤ (wrChosen ws T).length := List.length_filter_le _ _
  have h2 : (wrChosen ws T).length ≤ ws.length := List.length_filter_le _ _
  rw [decide_eq_true]
  omega
theorem fits_none {l : List Ent} {ws : List Wr} {T : List (List UInt8)} (hl : l.length ≤ 90) (hw : ws.length ≤ 20) : fitsB l [] ws T = true := by
  unfold fitsB
  rw [room_fits hl hw]
  rfl
theorem fits_one {l : List Ent} {ws : List Wr} {key : List UInt8} {v u : Int} (hl : l.length ≤ 90) (hw : ws.length ≤ 20) : fitsB l [(key, v)] ws (txK [(key, u)] ws) = ((got l key).1.2.2 == v) := by
  unfold fitsB
  rw [room_fits hl hw, Bool.and_true]
  have hin : isIn (txK [(key, u)] ws) key = true := decide_eq_true ((txK_mem _ _ _).2 (Or.inl ⟨_, List.mem_singleton.2 rfl, rfl⟩))
  unfold rdChosen readsB
  simp [hin]
theorem fits_nokeys {l : List Ent} {rs : List Rd} {ws : List Wr} (hl : l.length ≤ 90) (hw : ws.length ≤ 20) : fitsB l rs ws [] = true := by
  unfold fitsB
  rw [room_fits hl hw]
  have : rdChosen rs [] = [] := by
    unfold rdChosen
    exact List.filter_eq_nil_iff.2 (fun x _ => by simp [isIn])
  rw [this]
  rfl
/-- what a right transaction writes of all its keys -/
theorem chosen_allW {rs : List Rd} {ws : List Wr} : wrChosen ws (txK rs ws) = ws :=
  List.filter_eq_self.2 fun x hx => decide_eq_true ((txK_mem _ _ _).2 (Or.inr ⟨x, hx, rfl⟩))
theorem chosen_allR {rs : List Rd} {ws : List Wr} : rdChosen rs (txK rs ws) = rs :=
  List.filter_eq_self.2 fun x hx => decide_eq_true ((txK_mem _ _ _).2 (Or.inl ⟨x, hx, rfl⟩))
theorem wrsOk.long {l : List Wr} (h : wrsOk l) : ∀ x ∈ l, longB x.1 x.2 = false := fun x hx => by
  have := h.short x hx
  unfold wrShort at this
  exact longB_false.2 this
end Go.Proofs.YtohlepbfjgehgaaGreatDoor
