/-
  What is proved here: seals' Sign in one; what is signed then, over this program.
-/
import Derived.Test.YtpgahjnjkihmhaaGreatDoorSD
namespace Go.Proofs.YtpgahjnjkihmhaaGreatDoor
open Go.RowKit Go.Extern.Stop Go.Stop Go.Extern

/-- what Sign answers: nothing, where who may sign d; else an error of number 1 -/
def SignPost (B : Nat) (w' : World) (who d : Int) (er : Value) : Prop :=
  (okS who d ∧ er = .nilIface) ∨ (¬ okS who d ∧ One w' (fun k => k = B) er 1 ⟨#[115, 101, 97, 108, 115]⟩ who)
theorem sSign_any (w : World) (p : Nat) (O : Nat → Prop) (L : List (Int × Int)) (who d : Int) (h : SealSt w p O L) (hf : fits who) (hd : fits d) (hl : L.length < 131072) :
    Calls Tryz.prog 29 #[.pointer (some ⟨p, 0, none⟩), .int .i64 who, .int .i64 d] w fun e w' => ∃ er, e = .returned er ∧ SignPost w.heap.size w' who d er ∧ SealSt w' p O (signs L who d) ∧ Turn O w w' := by
  by_cases hk : okS who d
  · refine (sSign_ok w p O L who d h hd hk hl).mono ?_
    rintro e w' ⟨rfl, h1, h2⟩
    exact ⟨_, rfl, Or.inl ⟨hk, rfl⟩, h1, h2⟩
  · refine (sSign_bad w p who d hf hk).mono ?_
    rintro e w' ⟨er, rfl, h1, h2⟩
    have e1 : signs L who d = L := if_neg (fun e => hk e.1)
    exact ⟨_, rfl, Or.inr ⟨hk, h1⟩, by rw [e1]; exact h.kept (Kept.of_all h2), Turn.of_below h2⟩
theorem signs_bool {L : List (Int × Int)} {who d : Int} (hk : okS who d) (other d2 : Int) : decide ((other, d2) ∈ signs L who d) = (decide ((other, d2) ∈ L) || ((who == other) && (d == d2))) := by
  have h := signs_mem L who d (other, d2)
  rw [Bool.eq_iff_iff, decide_eq_true_eq, h, Bool.or_eq_true, decide_eq_true_eq, Bool.and_eq_true, beq_iff_eq, beq_iff_eq]
  constructor
  · rintro (h1 | ⟨_, h1⟩)
    · exact Or.inl h1
    · injection h1 with e1 e2
      exact Or.inr ⟨e1.symm, e2.symm⟩
  · rintro (h1 | ⟨rfl, rfl⟩)
    · exact Or.inl h1
    · exact Or.inr ⟨hk, rfl⟩
theorem signs_not {L : List (Int × Int)} {who d : Int} (hk : ¬ okS who d) : signs L who d = L := if_neg (fun e => hk e.1)
theorem SealSt.drew {w : World} {p : Nat} {O : Nat → Prop} {L : List (Int × Int)} (h : SealSt w p O L) : SealSt w.drew p O L := h.kept (Kept.of_all (below_drew w))
theorem Env.drew {w0 w : World} (h : Env w0 w) : Env w0 w.drew := h.next (below_drew w)
theorem Turn.drew {O : Nat → Prop} {w w' : World} (h : Turn O w.drew w') : Turn O w w' := (Turn.of_below (below_drew w)).trans h (fun _ h => Or.inl h)
end Go.Proofs.YtpgahjnjkihmhaaGreatDoor
