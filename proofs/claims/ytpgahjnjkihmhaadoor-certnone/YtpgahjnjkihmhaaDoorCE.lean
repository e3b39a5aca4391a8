/-
  What is proved here: plain facts of what Check answers; the error that it answers, over this program.
-/
import Derived.Test.YtpgahjnjkihmhaaDoorCD
namespace Go.Proofs.YtpgahjnjkihmhaaDoor
open Go.RowKit Go.Extern.Stop Go.Stop Go.Extern

theorem chk_few {L : List (Int × Int)} {g d : Int} {S : List Int} {need : Int} (h : need < 1) : chk L g d S need ≠ none := by
  unfold chk
  cases wrongTo L g d S S.length with
  | some x => exact fun e => nomatch e
  | none => simp only; rw [if_pos (Or.inl h)]; exact fun e => nomatch e
theorem memb_below {g x : Int} (h : g < 0) : memb g x = -1 := by unfold memb; rw [if_neg (by omega)]
theorem chk_nogroup {L : List (Int × Int)} {g d : Int} {S : List Int} (h : g < 0) : chk L g d S 1 ≠ none := by
  intro hc
  unfold chk at hc
  cases hw : wrongTo L g d S S.length with
  | some x => rw [hw] at hc; cases hc
  | none =>
    rw [hw] at hc
    simp only at hc
    by_cases hl : S.length = 0
    · rw [if_pos (Or.inr (by omega))] at hc; cases hc
    · have h0 := (wrongTo_none S.length).1 hw 0 (by omega)
      rw [whyS_who (Or.inl (by rw [memb_below h]; decide))] at h0
      cases h0
theorem chk_iface {A : Nat → Prop} {w : World} {v : Value} {o : Option (Int × ByteArray × Int)} (h : ErrAs A w v o) (ho : o ≠ none) : ∃ t x, v = .iface t x := by
  rcases h.form with ⟨e, _⟩ | ⟨_, e⟩
  · exact absurd e ho
  · exact e
theorem chk_nil {A : Nat → Prop} {w : World} {v : Value} {o : Option (Int × ByteArray × Int)} (h : ErrAs A w v o) (ho : o = none) : v = .nilIface := by
  rcases h.form with ⟨_, e⟩ | ⟨e, _⟩
  · exact e
  · exact absurd ho e
end Go.Proofs.YtpgahjnjkihmhaaDoor
