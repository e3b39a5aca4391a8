/-
  What is proved here: plain facts of what Check answers; the error that it answers, over this program.
-/
import Derived.Test.YtpgahjnjkihmhaaGreatDoorCD
namespace Go.Proofs.YtpgahjnjkihmhaaGreatDoor
open Go.RowKit Go.Extern.Stop Go.Stop Go.Extern

theorem chk_few {L : List (Int × Int)} {g d : Int} {S : List Int} {need : Int} (h : need < 1) : chk L g d S need ≠ none := by
  unfold chk
  cases wrongTo L g d S S.length with
  | some x => exact fun e => nomatch e
  | none => simp only; rw [if_pos (Or.inl h)]; exact fun e => nomatch e
theorem memb_below {g x : Int} (h : g < 0) : memb g x = -1 := by unfold memb; rw [if_neg (by omega)]
theorem chk_nogroup {L : List (Int × Int)} {g d : Int} {S : List Int} (h : g < 0) : chk L g d S 1 ≠ none := by
  intro hc
  unfold chk at hc
  cases hw : wrongTo L g d S S.length with
  | some x => rw [hw] at hc; cases hc
  | none =>
    rw [hw] at hc
    simp only at hc
    by_cases hl : S.length = 0
    · rw [if_pos (Or.inr (by omega))] at hc; cases hc
    · have h0 := (wrongTo_none S.length).1 hw 0 (by omega)
      rw [whyS_who (Or.inl (by rw [memb_below h]; decide))] at h0
      cases h0
theorem chk_iface {A : Nat → Prop} {w : World} {v : Value} {o : Option (Int × ByteArray × Int)} (h : ErrAs A w v o) (ho : o ≠ none) : ∃ t x, v = .iface t x := by
  rcases h.form with ⟨e, _⟩ | ⟨_, e⟩
  · exact absurd e ho
  · exact e
theorem chk_nil {A : Nat → Prop} {w : World} {v : Value} {o : Option (Int × ByteArray × Int)} (h : ErrAs A w v o) (ho : o = none) : v = .nilIface := by
  rcases h.form with ⟨_, e⟩ | ⟨e, _⟩
  · exact e
  · exact absurd ho e
theorem chk_none {L : List (Int × Int)} {g d : Int} {S : List Int} {need : Int} : chk L g d S need = none ↔ (∀ j, j < S.length → whyS L g d S j ((S[j]?).getD 0) = 0) ∧ 1 ≤ need ∧ need ≤ (S.length : Int) := by
  rw [← wrongTo_none]
  unfold chk
  cases hw : wrongTo L g d S S.length with
  | some x => simp
  | none =>
    simp only [true_and]
    by_cases h : need < 1 ∨ (S.length : Int) < need
    · rw [if_pos h]; constructor
      · intro e; cases e
      · intro e; omega
    · rw [if_neg h]; constructor
      · intro _; omega
      · intro _; rfl
theorem whyS_zero {L : List (Int × Int)} {g d : Int} {S : List Int} {k : Nat} {x : Int} : whyS L g d S k x = 0 ↔ ¬ (memb g x < 0 ∨ (0 < k ∧ x ≤ (S[k - 1]?).getD 0)) ∧ (memb g x, d) ∈ L := by
  by_cases h : memb g x < 0 ∨ (0 < k ∧ x ≤ (S[k - 1]?).getD 0)
  · rw [whyS_who h]; constructor
    · intro e; cases e
    · intro e; exact absurd h e.1
  · by_cases hm : (memb g x, d) ∈ L
    · rw [whyS_ok h hm]; exact ⟨fun _ => ⟨h, hm⟩, fun _ => rfl⟩
    · rw [whyS_seal h hm]; constructor
      · intro e; cases e
      · intro e; exact absurd e.2 hm
theorem chk_sub {L L' : List (Int × Int)} {g d : Int} {S : List Int} {need : Int} (h : chk L g d S need = none) (hs : ∀ x ∈ L, x ∈ L') : chk L' g d S need = none := by
  rw [chk_none] at h ⊢
  refine ⟨fun j hj => ?_, h.2⟩
  have := whyS_zero.1 (h.1 j hj)
  exact whyS_zero.2 ⟨this.1, hs _ this.2⟩
end Go.Proofs.YtpgahjnjkihmhaaGreatDoor
