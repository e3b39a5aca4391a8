/-
  What is proved here: plain facts of a certificate's bytes, there and back, over this program.
-/
import Derived.Test.YtpgahjnjkihmhaaGreatDoorCM
namespace Go.Proofs.YtpgahjnjkihmhaaGreatDoor
open Go.RowKit Go.Extern.Stop Go.Stop Go.Extern

theorem outE_zero (n : Int) : outE n = 0 ↔ 0 ≤ n ∧ n < 2147483648 := by
  unfold outE
  by_cases h1 : n < 0
  · rw [if_pos h1]; constructor
    · intro e; cases e
    · intro e; omega
  · rw [if_neg h1]
    by_cases h2 : 2147483647 < n
    · rw [if_pos h2]; constructor
      · intro e; cases e
      · intro e; omega
    · rw [if_neg h2]; constructor
      · intro _; omega
      · intro _; rfl
theorem stepR_inv {α : Type} {d : α} {s : ByteArray} {rd : List UInt8 → Except Int (α × Nat)} {bs : List UInt8} {st : RS} {k' : Nat} (h : (stepR d s rd bs st).2 = .ok k') : ∃ k x c, st = .ok k ∧ rd (bs.drop k) = .ok (x, c) ∧ stepR d s rd bs st = (x, .ok (k + c)) ∧ k' = k + c := by
  cases st with
  | error b => cases h
  | ok k =>
    unfold stepR at h ⊢
    cases hr : rd (bs.drop k) with
    | error n => simp only [hr] at h; cases h
    | ok y =>
      obtain ⟨x, c⟩ := y
      simp only [hr] at h
      injection h with h
      exact ⟨k, x, c, rfl, hr, by simp only [hr], h.symm⟩
theorem stepR_ok {α : Type} {d : α} {s : ByteArray} {rd : List UInt8 → Except Int (α × Nat)} {bs : List UInt8} {k c : Nat} {x : α} (h : rd (bs.drop k) = .ok (x, c)) : stepR d s rd bs (.ok k) = (x, .ok (k + c)) := by
  unfold stepR; simp only [h]
theorem endOf_none {bs : List UInt8} {st : RS} (h : endOf bs st = none) : ∃ k, st = .ok k ∧ ¬ k < bs.length := by
  cases st with
  | error b => cases h
  | ok k =>
    unfold endOf at h
    by_cases hk : k < bs.length
    · simp only [if_pos hk] at h; cases h
    · exact ⟨k, rfl, hk⟩
theorem rdInt_back {most : Int} {r : List UInt8} {n : Int} {c : Nat} (h : rdInt most r = .ok (n, c)) : rdNum r = .ok (n, c) ∧ 0 ≤ n ∧ n ≤ most := by
  unfold rdInt at h
  split at h
  · cases h
  · rename_i n' c' hr
    split at h
    · cases h
    · split at h
      · cases h
      · injection h with h
        injection h with h1 h2
        subst h1 h2
        exact ⟨hr, by omega, by omega⟩
theorem rdInt_numB {most n : Int} (hf : fits n) (r : List UInt8) (h : 0 ≤ n ∧ n ≤ most) : rdInt most (numB n ++ r) = .ok (n, 8) := by
  unfold rdInt
  rw [rdNum_numB n hf r]
  simp only
  rw [if_neg (by omega), if_neg (by omega)]
theorem gOk_inv {bs : List UInt8} (h : gOk bs) : ∃ g d l c, rdInt 2147483647 bs = .ok (g, 8) ∧ rdInt 2147483647 (bs.drop 8) = .ok (d, 8) ∧ rdRow rdNum (bs.drop 16) = .ok (l, c) ∧ gR1 bs = (g, .ok 8) ∧ gR2 bs = (d, .ok 16) ∧ gR3 bs = (l, .ok (16 + c)) ∧ ¬ 16 + c < bs.length ∧ ∀ x ∈ l, outE x = 0 := by
  obtain ⟨h1, h2⟩ := h
  obtain ⟨k3, e3, hk3⟩ := endOf_none h1
  obtain ⟨k2, l, c, e2, r3, s3, rfl⟩ := stepR_inv (show (stepR ([] : List Int) sNums (rdRow rdNum) bs (gR2 bs).2).2 = .ok k3 from e3)
  obtain ⟨k1, d, c2, e1, r2, s2, rfl⟩ := stepR_inv (show (stepR (0 : Int) sInt (rdInt 2147483647) bs (gR1 bs).2).2 = .ok k2 from e2)
  obtain ⟨k0, g, c1, e0, r1, s1, rfl⟩ := stepR_inv (show (stepR (0 : Int) sInt (rdInt 2147483647) bs (.ok 0)).2 = .ok k1 from e1)
  injection e0 with e0
  subst e0
  have q1 : c1 = 8 := (rdNum_back (rdInt_back r1).1).2.2.2
  have q2 : c2 = 8 := (rdNum_back (rdInt_back r2).1).2.2.2
  subst q1 q2
  have g3 : gR3 bs = (l, .ok (16 + c)) := s3
  exact ⟨g, d, l, c, r1, r2, r3, s1, s2, g3, hk3, by rw [g3] at h2; exact h2⟩
/-- what is read has its bytes as they stood -/
theorem gOk_back {bs : List UInt8} (h : gOk bs) : certB (gR1 bs).1 (gR2 bs).1 (gR3 bs).1 = bs := by
  obtain ⟨g, d, l, c, r1, r2, r3, s1, s2, s3, hk, _⟩ := gOk_inv h
  rw [s1, s2, s3]
  simp only
  have b1 := rdNum_back (rdInt_back r1).1
  have b2 := rdNum_back (rdInt_back r2).1
  have b3 := rdRow_back (f := numB) (P := fun _ => True) (fun r x c hx => ⟨(rdNum_back hx).1, (rdNum_back hx).2.1, trivial⟩) r3
  have l1 : (bs.drop 16).length ≤ c := by rw [List.length_drop]; omega
  have e3 : bs.drop 16 = rowB numB l := by rw [← b3.1, List.take_of_length_le l1]
  unfold certB
  rw [← e3, ← b1.1, ← b2.1, List.append_assoc]
  rw [show bs.drop 16 = (bs.drop 8).drop 8 by rw [List.drop_drop], List.take_append_drop, List.take_append_drop]

/-- may its numbers be? -/
def certOk (g d : Int) (S : List Int) : Prop := (0 ≤ g ∧ g < 2147483648) ∧ (0 ≤ d ∧ d < 2147483648) ∧ ∀ x ∈ S, 0 ≤ x ∧ x < 2147483648
theorem certB_reads {g d : Int} {S : List Int} (hg : fits g) (hd : fits d) (hS : ∀ x ∈ S, fits x) (hl : S.length ≤ 1024) (hok : certOk g d S) :
    gR1 (certB g d S) = (g, .ok 8) ∧ gR2 (certB g d S) = (d, .ok 16) ∧ gR3 (certB g d S) = (S, .ok (certB g d S).length) := by
  have e0 : certB g d S = numB g ++ (numB d ++ rowB numB S) := by unfold certB; rw [List.append_assoc]
  have e8 : (certB g d S).drop 8 = numB d ++ rowB numB S := by
    rw [e0, List.drop_append_of_le_length (by rw [numB_length]; exact Nat.le_refl _), List.drop_of_length_le (by rw [numB_length]; exact Nat.le_refl _), List.nil_append]
  have e16 : (certB g d S).drop 16 = rowB numB S := by
    rw [show (16 : Nat) = 8 + 8 from rfl, ← List.drop_drop, e8, List.drop_append_of_le_length (by rw [numB_length]; exact Nat.le_refl _), List.drop_of_length_le (by rw [numB_length]; exact Nat.le_refl _), List.nil_append]
  have s1 : gR1 (certB g d S) = (g, .ok 8) := by
    have : rdInt 2147483647 ((certB g d S).drop 0) = .ok (g, 8) := by rw [List.drop_zero, e0]; exact rdInt_numB hg _ ⟨hok.1.1, by have := hok.1.2; omega⟩
    exact stepR_ok (k := 0) this
  have s2 : gR2 (certB g d S) = (d, .ok 16) := by
    unfold gR2; rw [s1]
    have : rdInt 2147483647 ((certB g d S).drop 8) = .ok (d, 8) := by rw [e8]; exact rdInt_numB hd _ ⟨hok.2.1.1, by have := hok.2.1.2; omega⟩
    exact stepR_ok (k := 8) this
  refine ⟨s1, s2, ?_⟩
  unfold gR3; rw [s2]
  have hr : rdRow rdNum ((certB g d S).drop 16) = .ok (S, (rowB numB S).length) := by
    have := rdRow_rowB (one := rdNum) (f := numB) S hl (fun x hx r => by rw [rdNum_numB x (hS x hx) r, numB_length]) []
    rw [List.append_nil] at this
    rw [e16]; exact this
  have := stepR_ok (d := ([] : List Int)) (s := sNums) (k := 16) hr
  rw [this]
  have hlen : 16 + (rowB numB S).length = (certB g d S).length := by
    rw [e0, List.length_append, List.length_append, numB_length, numB_length]; omega
  rw [hlen]
theorem gOk_iff {g d : Int} {S : List Int} (hg : fits g) (hd : fits d) (hS : ∀ x ∈ S, fits x) (hl : S.length ≤ 1024) : gOk (certB g d S) ↔ certOk g d S := by
  constructor
  · intro h
    obtain ⟨g', d', l, c, r1, r2, r3, s1, s2, s3, hk, hall⟩ := gOk_inv h
    have e0 : certB g d S = numB g ++ (numB d ++ rowB numB S) := by unfold certB; rw [List.append_assoc]
    have e8 : (certB g d S).drop 8 = numB d ++ rowB numB S := by
      rw [e0, List.drop_append_of_le_length (by rw [numB_length]; exact Nat.le_refl _), List.drop_of_length_le (by rw [numB_length]; exact Nat.le_refl _), List.nil_append]
    have e16 : (certB g d S).drop 16 = rowB numB S := by
      rw [show (16 : Nat) = 8 + 8 from rfl, ← List.drop_drop, e8, List.drop_append_of_le_length (by rw [numB_length]; exact Nat.le_refl _), List.drop_of_length_le (by rw [numB_length]; exact Nat.le_refl _), List.nil_append]
    have q1 := rdInt_back r1
    rw [e0, rdNum_numB g hg] at q1
    have q2 := rdInt_back r2
    rw [e8, rdNum_numB d hd] at q2
    have hr := rdRow_rowB (one := rdNum) (f := numB) S hl (fun x hx r => by rw [rdNum_numB x (hS x hx) r, numB_length]) []
    rw [List.append_nil] at hr
    rw [e16, hr] at r3
    have h1 := q1.1
    injection h1 with h1
    injection h1 with h1 _
    have h2 := q2.1
    injection h2 with h2
    injection h2 with h2 _
    injection r3 with r3
    injection r3 with r3 _
    subst h1 h2 r3
    exact ⟨⟨q1.2.1, by have := q1.2.2; omega⟩, ⟨q2.2.1, by have := q2.2.2; omega⟩, fun x hx => (outE_zero x).1 (hall x hx)⟩
  · intro h
    obtain ⟨s1, s2, s3⟩ := certB_reads hg hd hS hl h
    refine ⟨?_, ?_⟩
    · rw [s3]; unfold endOf; simp
    · rw [s3]; exact fun x hx => (outE_zero x).2 (h.2.2 x hx)
end Go.Proofs.YtpgahjnjkihmhaaGreatDoor
