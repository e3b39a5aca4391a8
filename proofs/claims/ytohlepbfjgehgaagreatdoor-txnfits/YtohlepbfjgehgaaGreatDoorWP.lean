/-
  What is proved here: plain facts on bytes: what is written is read as it was; what is read was written so.
-/
import Derived.Test.YtohlepbfjgehgaaGreatDoorJ3
namespace Go.Proofs.YtohlepbfjgehgaaGreatDoor
open Go.RowKit

theorem beVal_cons_go (l : List UInt8) (a : Nat) : l.foldl (fun n x => n * 256 + x.toNat) a = a * 256 ^ l.length + beVal l := by
  unfold beVal
  induction l generalizing a with
  | nil => simp
  | cons x r ih =>
    simp only [List.foldl_cons, List.length_cons]
    rw [ih (a * 256 + x.toNat), ih (0 * 256 + x.toNat), Nat.pow_succ, Nat.add_mul]
    simp only [Nat.zero_mul, Nat.zero_add]
    rw [Nat.mul_assoc, Nat.mul_comm 256 (256 ^ r.length), Nat.add_assoc]
theorem beVal_cons (x : UInt8) (l : List UInt8) : beVal (x :: l) = x.toNat * 256 ^ l.length + beVal l := by
  have := beVal_cons_go l (0 * 256 + x.toNat)
  unfold beVal at this ⊢
  simpa using this
theorem beVal_be (m n : Nat) : beVal (be m n) = n % 256 ^ m := by
  induction m with
  | zero => simp [be, beVal, Nat.mod_one]
  | succ m ih =>
    rw [be, beVal_cons, be_length, ih]
    have h1 : (UInt8.ofNat (n / 256 ^ m)).toNat = n / 256 ^ m % 256 := by simp
    rw [h1, Nat.pow_succ, Nat.mod_mul (x := n) (a := 256 ^ m) (b := 256)]
    rw [Nat.mul_comm]; omega
theorem be_beVal (l : List UInt8) : be l.length (beVal l) = l := by
  induction l with
  | nil => rfl
  | cons x r ih =>
    have hlt := beVal_lt r
    simp only [List.length_cons, be]
    congr 1
    · rw [beVal_cons, Nat.mul_comm, Nat.mul_add_div (Nat.pow_pos (by decide)), Nat.div_eq_of_lt hlt]
      apply UInt8.toNat_inj.1
      have : x.toNat < 256 := UInt8.toNat_lt x
      simp
    · have hmod : ∀ (m a b : Nat), be m (a * 256 ^ m + b) = be m b := by
        intro m
        induction m with
        | zero => intro a b; rfl
        | succ m ihm =>
          intro a b
          have e : a * 256 ^ (m + 1) + b = (a * 256) * 256 ^ m + b := by rw [Nat.pow_succ, Nat.mul_comm (256 ^ m) 256, Nat.mul_assoc]
          simp only [be]
          congr 1
          · apply UInt8.toNat_inj.1
            rw [e, Nat.mul_comm (a * 256), Nat.mul_add_div (Nat.pow_pos (by decide))]
            simp only [UInt8.toNat_ofNat', Nat.reducePow]
            omega
          · rw [e, ihm]
      rw [beVal_cons, hmod, ih]
theorem sgn_bits (n : Int) (h : fits n) : sgn (bits n) = n := by
  unfold fits at h; unfold sgn bits; split <;> omega
theorem bits_sgn (m : Nat) (h : m < 18446744073709551616) : bits (sgn m) = m := by
  unfold bits sgn; split <;> omega
theorem sgn_fits (m : Nat) (h : m < 18446744073709551616) : fits (sgn m) := by
  unfold fits sgn; split <;> omega

theorem take_be (m x : Nat) (r : List UInt8) : (be m x ++ r).take m = be m x := by
  rw [List.take_append_of_le_length (by rw [be_length]; exact Nat.le_refl _), List.take_of_length_le (by rw [be_length]; exact Nat.le_refl _)]
theorem rdNum_numB (n : Int) (h : fits n) (r : List UInt8) : rdNum (numB n ++ r) = .ok (n, 8) := by
  unfold rdNum numB
  rw [if_neg (by rw [List.length_append, be_length]; omega), take_be, beVal_be, Nat.mod_eq_of_lt (bits_lt n), sgn_bits n h]
theorem rdLen_be (most m : Nat) (h : m ≤ most) (h4 : m < 4294967296) (r : List UInt8) : rdLen most (be 4 m ++ r) = .ok (m, 4) := by
  unfold rdLen
  rw [if_neg (by rw [List.length_append, be_length]; omega), take_be, beVal_be, Nat.mod_eq_of_lt h4, if_neg (by omega)]
theorem rdText_textB (s : List UInt8) (h : s.length ≤ 65536) (r : List UInt8) : rdText (textB s ++ r) = .ok (s, 4 + s.length) := by
  unfold rdText textB
  rw [List.append_assoc, rdLen_be 65536 s.length h (by omega)]
  simp only
  rw [if_neg (by rw [List.length_append, be_length, List.length_append]; omega), List.drop_append_of_le_length (by rw [be_length]; exact Nat.le_refl _), List.drop_of_length_le (by rw [be_length]; exact Nat.le_refl _)]
  simp
theorem rdMany_flat {α : Type} {one : List UInt8 → Except Int (α × Nat)} {f : α → List UInt8} (l : List α) (h : ∀ x ∈ l, ∀ r, one (f x ++ r) = .ok (x, (f x).length)) (r : List UInt8) : rdMany one l.length (l.flatMap f ++ r) = .ok (l, (l.flatMap f).length) := by
  induction l with
  | nil => rfl
  | cons x t ih =>
    simp only [List.length_cons, rdMany, List.flatMap_cons, List.append_assoc, h x (by simp)]
    rw [List.drop_append_of_le_length (Nat.le_refl _), List.drop_of_length_le (Nat.le_refl _), List.nil_append, ih (fun y hy => h y (by simp [hy]))]
    simp
theorem rdRow_rowB {α : Type} {one : List UInt8 → Except Int (α × Nat)} {f : α → List UInt8} (l : List α) (hl : l.length ≤ 1024) (h : ∀ x ∈ l, ∀ r, one (f x ++ r) = .ok (x, (f x).length)) (r : List UInt8) : rdRow one (rowB f l ++ r) = .ok (l, (rowB f l).length) := by
  unfold rdRow rowB
  rw [List.append_assoc, rdLen_be 1024 l.length hl (by omega)]
  simp only
  rw [List.drop_append_of_le_length (by rw [be_length]; exact Nat.le_refl _), List.drop_of_length_le (by rw [be_length]; exact Nat.le_refl _), List.nil_append, rdMany_flat l h]
  simp [be_length]

theorem be_of_take (m : Nat) (r : List UInt8) (h : m ≤ r.length) : be m (beVal (r.take m)) = r.take m := by
  have := be_beVal (r.take m)
  rwa [List.length_take, Nat.min_eq_left h] at this
theorem rdNum_back {r : List UInt8} {n : Int} {c : Nat} (h : rdNum r = .ok (n, c)) : r.take c = numB n ∧ c ≤ r.length ∧ fits n ∧ c = 8 := by
  unfold rdNum at h
  split at h
  · cases h
  · rename_i h8
    injection h with h; injection h with h1 h2
    subst h1 h2
    have hlt : beVal (r.take 8) < 18446744073709551616 := by
      have h1 := beVal_lt (r.take 8)
      have h2 : 256 ^ (r.take 8).length ≤ 256 ^ 8 := Nat.pow_le_pow_right (by decide) (List.length_take_le _ _)
      have h3 : (256 : Nat) ^ 8 = 18446744073709551616 := by decide
      omega
    refine ⟨?_, by omega, sgn_fits _ hlt, rfl⟩
    unfold numB
    rw [bits_sgn _ hlt, be_of_take 8 r (by omega)]
theorem rdLen_back {most : Nat} {r : List UInt8} {m c : Nat} (h : rdLen most r = .ok (m, c)) : r.take 4 = be 4 m := by
  have h4 := (rdLen_ok h).2
  unfold rdLen at h
  split at h
  · cases h
  · split at h
    · cases h
    · injection h with h; injection h with h1 h2
      rw [← h1, be_of_take 4 r h4]
theorem rdText_back {r : List UInt8} {s : List UInt8} {c : Nat} (h : rdText r = .ok (s, c)) : r.take c = textB s ∧ c ≤ r.length ∧ s.length ≤ 65536 := by
  unfold rdText at h
  split at h
  · cases h
  · rename_i m c' hL
    have h1 := rdLen_ok hL
    split at h
    · cases h
    · rename_i hlt
      injection h with h; injection h with h2 h3
      subst h2 h3
      have hl : ((r.drop 4).take m).length = m := by rw [List.length_take, List.length_drop]; omega
      refine ⟨?_, by omega, by omega⟩
      unfold textB
      rw [hl, ← rdLen_back hL, List.take_add]
theorem rdMany_back {α : Type} {one : List UInt8 → Except Int (α × Nat)} {f : α → List UInt8} {P : α → Prop} (h1 : ∀ r x c, one r = .ok (x, c) → r.take c = f x ∧ c ≤ r.length ∧ P x) (n : Nat) (r : List UInt8) (l : List α) (d : Nat) (h : rdMany one n r = .ok (l, d)) : r.take d = l.flatMap f ∧ d ≤ r.length ∧ l.length = n ∧ ∀ x ∈ l, P x := by
  induction n generalizing r l d with
  | zero => simp only [rdMany] at h; injection h with h; injection h with h2 h3; subst h2 h3; simp
  | succ n ih =>
    simp only [rdMany] at h
    split at h
    · cases h
    · rename_i x c hx
      split at h
      · cases h
      · rename_i xs d' hxs
        injection h with h; injection h with h2 h3
        subst h2 h3
        obtain ⟨a1, a2, a3⟩ := h1 r x c hx
        obtain ⟨b1, b2, b3, b4⟩ := ih _ _ _ hxs
        rw [List.length_drop] at b2
        refine ⟨?_, by omega, by simp [b3], ?_⟩
        · rw [List.take_add, a1, b1]; simp
        · intro y hy
          rcases List.mem_cons.1 hy with rfl | hy
          · exact a3
          · exact b4 y hy
theorem rdRow_back {α : Type} {one : List UInt8 → Except Int (α × Nat)} {f : α → List UInt8} {P : α → Prop} (h1 : ∀ r x c, one r = .ok (x, c) → r.take c = f x ∧ c ≤ r.length ∧ P x) {r : List UInt8} {l : List α} {d : Nat} (h : rdRow one r = .ok (l, d)) : r.take d = rowB f l ∧ d ≤ r.length ∧ l.length ≤ 1024 ∧ ∀ x ∈ l, P x := by
  unfold rdRow at h
  split at h
  · cases h
  · rename_i m c hL
    have h2 := rdLen_ok hL
    split at h
    · cases h
    · rename_i xs d' hxs
      injection h with h; injection h with h3 h4
      subst h3 h4
      obtain ⟨b1, b2, b3, b4⟩ := rdMany_back h1 _ _ _ _ hxs
      rw [List.length_drop] at b2
      refine ⟨?_, by omega, by omega, b4⟩
      unfold rowB
      rw [List.take_add, b1, rdLen_back hL, b3]
end Go.Proofs.YtohlepbfjgehgaaGreatDoor
