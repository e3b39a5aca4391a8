/-
  What is proved here: the walk of cohortlaw07.StorePuts, over this program.
-/
import Derived.Test.YtohlepbfjgehgaaGreatDoorEJ
import Derived.Test.YtohlepbfjgehgaaGreatDoorEG
namespace Go.Proofs.YtohlepbfjgehgaaGreatDoor
open Go.RowKit Go.Extern.Stop Go.Stop Go.Extern

def R3 (w : World) (q : Nat) (a b c : Value) : Prop := w.cell? ⟨q, 0, none⟩ = some a ∧ w.cell? ⟨q, 1, none⟩ = some b ∧ w.cell? ⟨q, 2, none⟩ = some c
theorem R3.next {w w' : World} {q : Nat} {a b c : Value} (h : R3 w q a b c) (hb : Below w.heap.size w w') : R3 w' q a b c :=
  ⟨(hb.cell (lt_of_cell h.1)).trans h.1, (hb.cell (lt_of_cell h.2.1)).trans h.2.1, (hb.cell (lt_of_cell h.2.2)).trans h.2.2⟩
theorem R3.lt {w : World} {q : Nat} {a b c : Value} (h : R3 w q a b c) : q < w.heap.size := lt_of_cell (a := ⟨q, 0, none⟩) h.1
theorem R3.move {w w' : World} {q : Nat} {a b c : Value} {O O' : Nat → Prop} (h : R3 w q a b c) (hm : Move w O w' O') (hn : ¬ O q) : R3 w' q a b c := by
  have z := hm.turn.kept (A := fun k => k = q) (fun k hk _ => by subst hk; exact hn)
  exact ⟨z.cell (a := ⟨q, 0, none⟩) rfl h.1, z.cell (a := ⟨q, 1, none⟩) rfl h.2.1, z.cell (a := ⟨q, 2, none⟩) rfl h.2.2⟩
theorem Ss.not {w0 w : World} {p q : Nat} {O : Nat → Prop} {l : List Ent} (h : Ss w0 w p O l) (hq : w.heap.size ≤ q) : ¬ O q := fun o => by
  obtain ⟨_, _, _, _, h, _⟩ := h.sto
  have := h _ o
  omega
theorem all_in (l : List Ent) : l.filter (inR [] []) = l := by
  refine List.filter_eq_self.2 fun e _ => ?_
  have h : Op.bytesLess e.1 [] = false := by cases e.1 <;> rfl
  simp [inR, h, upB]
theorem put_nil {w' : World} {B : Nat} {er : Value} {l l' : List Ent} {key val : List UInt8} (h : PutIs l key val w' B er l') : (∃ ty y, er = .iface ty y ∧ l' = l) ∨ er = .nilIface := by
  rcases h with ⟨n, ho, e, _⟩ | ⟨h, _⟩
  · obtain ⟨ty, y, rfl⟩ := ho.iface
    exact Or.inl ⟨ty, y, rfl, e⟩
  · exact Or.inr h
theorem put_got {w' : World} {B : Nat} {l l' : List Ent} {key val : List UInt8} {old : Ent} {is : Bool} (hf : Fit l) (hg : GetIs l key old is) (h : PutIs l key val w' B .nilIface l') :
    Fit l' ∧ GetIs l' key (key, val, old.2.2 + 1) true ∧ IntKind.i64.wrap (old.2.2 + 1) = old.2.2 + 1 ∧ l'.length = (if is then l.length else l.length + 1) := by
  have hr := hf.rising
  rcases h with ⟨n, ho, _⟩ | ⟨_, h2, _, a, hp, ⟨o, h, hk, hlt, rfl⟩ | ⟨hn, rfl⟩⟩
  · obtain ⟨ty, y, e⟩ := ho.iface
    cases e
  · obtain ⟨e1, e2⟩ := GetIs.one hr (Or.inl ⟨rfl, hk, a, h⟩) hg
    subst e1 e2
    have hal : a < l.length := (List.getElem?_eq_some_iff.1 h).1
    have hv := (hf.mem (List.mem_of_getElem? h)).2.2
    subst hk
    refine ⟨h2, Or.inl ⟨rfl, rfl, a, by simp [hal]⟩, ?_, by simp⟩
    simp [IntKind.wrap, IntKind.bits, IntKind.signed]; omega
  · have hne := place_get hr hp hn
    obtain ⟨e1, e2⟩ := GetIs.one hr (Or.inr ⟨rfl, rfl, hne⟩) hg
    subst e1 e2
    refine ⟨h2, Or.inl ⟨rfl, rfl, a, by rw [ins_get hp.1]; simp [zeroE]⟩, by simp [zeroE, IntKind.wrap, IntKind.bits, IntKind.signed], ?_⟩
    have := hp.1
    simp only [List.length_append, List.length_take, List.length_drop, List.length_cons, List.length_nil, Bool.false_eq_true, if_false]
    omega
theorem put_kept {w' : World} {B : Nat} {l l' : List Ent} {key val oth : List UInt8} {was : Ent} {is : Bool} (ho : oth ≠ key) (hg : GetIs l oth was is) (h : PutIs l key val w' B .nilIface l') : GetIs l' oth was is := by
  rcases h with ⟨n, ho, _⟩ | ⟨_, _, _, a, hp, ⟨o, h, hk, _, rfl⟩ | ⟨hn, rfl⟩⟩
  · obtain ⟨ty, y, e⟩ := ho.iface
    cases e
  · rcases hg with ⟨rfl, g1, i, g2⟩ | ⟨rfl, g1, g2⟩
    · refine Or.inl ⟨rfl, g1, i, ?_⟩
      have hia : a ≠ i := fun e => by subst e; rw [h] at g2; cases g2; exact ho (g1.symm.trans hk)
      rw [List.getElem?_set_ne hia]; exact g2
    · refine Or.inr ⟨rfl, g1, fun i e he => ?_⟩
      by_cases hia : a = i
      · subst hia
        have hal : a < l.length := (List.getElem?_eq_some_iff.1 h).1
        simp [hal] at he
        subst he
        exact fun e => ho (e.symm.trans hk)
      · rw [List.getElem?_set_ne hia] at he; exact g2 i e he
  · rcases hg with ⟨rfl, g1, i, g2⟩ | ⟨rfl, g1, g2⟩
    · by_cases hia : i < a
      · exact Or.inl ⟨rfl, g1, i, by rw [ins_get hp.1, if_pos hia]; exact g2⟩
      · exact Or.inl ⟨rfl, g1, i + 1, by rw [ins_get hp.1, if_neg (by omega), if_neg (by omega)]; exact g2⟩
    · refine Or.inr ⟨rfl, g1, fun i e he => ?_⟩
      rw [ins_get hp.1] at he
      split at he
      · exact g2 i e he
      · split at he
        · cases he; exact fun e => ho e.symm
        · exact g2 _ e he

end Go.Proofs.YtohlepbfjgehgaaGreatDoor
