/-
  What is proved here: plain facts of certificates with one signer more; a Cert's room whose signers are written, over this program.
-/
import Derived.Test.YtpgahjnjkihmhaaDoorCE
namespace Go.Proofs.YtpgahjnjkihmhaaDoor
open Go.RowKit Go.Extern.Stop Go.Stop Go.Extern

/-- with one signer more behind -/
theorem chk_snoc {L : List (Int × Int)} {g d : Int} {S : List Int} {need m z : Int} {n : Nat} (h : chk L g d S need = none) (hl : S.length = n + 1) (hz : S[n]? = some z) : chk L g d (S ++ [m]) need = none ↔ 0 ≤ memb g m ∧ z < m ∧ (memb g m, d) ∈ L := by
  rw [chk_none] at h ⊢
  have hlast : whyS L g d (S ++ [m]) (n + 1) (((S ++ [m])[n + 1]?).getD 0) = 0 ↔ 0 ≤ memb g m ∧ z < m ∧ (memb g m, d) ∈ L := by
    have e1 : (S ++ [m])[n + 1]? = some m := by rw [← hl]; simp
    have e2 : (S ++ [m])[n + 1 - 1]? = some z := by rw [Nat.add_sub_cancel, List.getElem?_append_left (by omega)]; exact hz
    rw [e1, whyS_zero, e2]
    simp only [Option.getD_some]
    constructor
    · rintro ⟨h1, h2⟩; exact ⟨by omega, by omega, h2⟩
    · rintro ⟨h1, h2, h3⟩; exact ⟨by omega, h3⟩
  constructor
  · intro hc
    exact hlast.1 (hc.1 (n + 1) (by simp; omega))
  · intro hm
    refine ⟨fun j hj => ?_, h.2.1, by simp; omega⟩
    by_cases e : j = n + 1
    · subst e; exact hlast.2 hm
    · have hj2 : j < S.length := by simp at hj; omega
      have h1 := whyS_zero.1 (h.1 j hj2)
      rw [List.getElem?_append_left hj2, whyS_zero, List.getElem?_append_left (show j - 1 < S.length by omega)]
      exact h1
/-- with its first signer once more ahead -/
theorem chk_dup {L : List (Int × Int)} {g d : Int} {S : List Int} {need x : Int} (h : chk L g d S need = none) (h0 : S[0]? = some x) : chk L g d (x :: S) need = some (52, ⟨#[115, 105, 103, 110, 101, 114]⟩, 1) := by
  rw [chk_none] at h
  have hlt : 0 < S.length := (List.getElem?_eq_some_iff.1 h0).1
  have h1 := whyS_zero.1 (h.1 0 hlt)
  rw [h0] at h1
  simp only [Option.getD_some] at h1
  have e0 : whyS L g d (x :: S) 0 x = 0 := whyS_zero.2 ⟨by intro hh; rcases hh with hh | hh; exact h1.1 (Or.inl hh); omega, h1.2⟩
  have e1 : whyS L g d (x :: S) 1 x = 52 := whyS_who (Or.inr ⟨by omega, by simp⟩)
  have hw1 : wrongTo L g d (x :: S) 1 = none := by
    rw [wrongTo_none]; intro j hj
    have : j = 0 := by omega
    subst this
    simpa using e0
  have hw2 : wrongTo L g d (x :: S) 2 = some (52, 1) := by
    unfold wrongTo; rw [hw1]
    have : ((x :: S)[1]?).getD 0 = x := by simp only [List.getElem?_cons_succ]; rw [h0]; rfl
    simp only [this, e1]
    rfl
  have hw3 := wrongTo_stays hw2 (S.length - 1)
  rw [show 2 + (S.length - 1) = (x :: S).length by simp; omega] at hw3
  unfold chk
  rw [hw3]
  rfl
/-- of a Cert's room the signers, written -/
theorem room_put (w : World) (q : Nat) (x y z Z : Value) (c0 : w.cell? ⟨q, 0, none⟩ = some x) (c1 : w.cell? ⟨q, 1, none⟩ = some y) (c2 : w.cell? ⟨q, 2, none⟩ = some z) :
    ∃ W, W = w.setCell ⟨q, 2, none⟩ Z ∧ W.cell? ⟨q, 0, none⟩ = some x ∧ W.cell? ⟨q, 1, none⟩ = some y ∧ W.cell? ⟨q, 2, none⟩ = some Z ∧ (∀ A : Nat → Prop, ¬ A q → Kept A w W) ∧ (∀ B w0, Below B w0 w → B ≤ q → Below B w0 W) ∧ W.heap.size = w.heap.size := by
  have n02 : (⟨q, 0, none⟩ : Addr) ≠ ⟨q, 2, none⟩ := by simp
  have n12 : (⟨q, 1, none⟩ : Addr) ≠ ⟨q, 2, none⟩ := by simp
  refine ⟨_, rfl, (World.cell?_setCell_other _ _ _ _ n02.symm).trans c0, (World.cell?_setCell_other _ _ _ _ n12.symm).trans c1, World.cell?_setCell_same _ ⟨q, 2, none⟩ Z c2, fun A hA k hk _ => ?_, fun B w0 hb hq => hb.setCell (p := ⟨q, 2, none⟩) hq Z, size_set _ _ _⟩
  have hne : k ≠ q := fun e => hA (e ▸ hk)
  exact Below.heap_setCell _ ⟨q, 2, none⟩ _ _ hne
end Go.Proofs.YtpgahjnjkihmhaaDoor
