/-
  What is proved here: a transaction's bytes, there and back, in plain lists; over this program.
-/
import Derived.Test.YtohlepbfjgehgaaGreatDoorTL
import Derived.Test.YtohlepbfjgehgaaGreatDoorWP
namespace Go.Proofs.YtohlepbfjgehgaaGreatDoor
open Go.RowKit Go.Extern.Stop Go.Stop Go.Extern

theorem tstepR_inv {α : Type} {d : α} {s : ByteArray} {rd : List UInt8 → Except Int (α × Nat)} {bs : List UInt8} {st : RS} {k' : Nat} (h : (stepR d s rd bs st).2 = .ok k') : ∃ k x c, st = .ok k ∧ rd (bs.drop k) = .ok (x, c) ∧ stepR d s rd bs st = (x, .ok (k + c)) ∧ k' = k + c := by
  cases st with
  | error b => cases h
  | ok k =>
    unfold stepR at h ⊢
    cases hr : rd (bs.drop k) with
    | error n => simp only [hr] at h; cases h
    | ok y =>
      obtain ⟨x, c⟩ := y
      simp only [hr] at h
      injection h with h
      exact ⟨k, x, c, rfl, hr, by simp only [hr], h.symm⟩
theorem tstepR_ok {α : Type} {d : α} {s : ByteArray} {rd : List UInt8 → Except Int (α × Nat)} {bs : List UInt8} {k c : Nat} {x : α} (h : rd (bs.drop k) = .ok (x, c)) : stepR d s rd bs (.ok k) = (x, .ok (k + c)) := by
  unfold stepR; simp only [h]
theorem tendOf_none {bs : List UInt8} {st : RS} (h : endOf bs st = none) : ∃ k, st = .ok k ∧ ¬ k < bs.length := by
  cases st with
  | error b => cases h
  | ok k =>
    unfold endOf at h
    by_cases hk : k < bs.length
    · simp only [if_pos hk] at h; cases h
    · exact ⟨k, rfl, hk⟩
theorem trdInt_back {most : Int} {r : List UInt8} {n : Int} {c : Nat} (h : rdInt most r = .ok (n, c)) : rdNum r = .ok (n, c) ∧ 0 ≤ n ∧ n ≤ most := by
  unfold rdInt at h
  split at h
  · cases h
  · rename_i n' c' hr
    split at h
    · cases h
    · split at h
      · cases h
      · injection h with h
        injection h with h1 h2
        subst h1 h2
        exact ⟨hr, by omega, by omega⟩
theorem trdInt_numB {most n : Int} (hf : fits n) (r : List UInt8) (h : 0 ≤ n ∧ n ≤ most) : rdInt most (numB n ++ r) = .ok (n, 8) := by
  unfold rdInt
  rw [rdNum_numB n hf r]
  simp only
  rw [if_neg (by omega), if_neg (by omega)]
theorem tdrop_next {bs f r : List UInt8} {k : Nat} (h : bs.drop k = f ++ r) : bs.drop (k + f.length) = r := by
  rw [← List.drop_drop, h, List.drop_left]
theorem ttake_next {bs f : List UInt8} {k c : Nat} (h : (bs.drop k).take c = f) : bs.drop k = f ++ bs.drop (k + c) := by
  rw [← List.drop_drop, ← h, List.take_append_drop]
theorem num_at {bs r : List UInt8} {k : Nat} {n : Int} (hf : fits n) (h : bs.drop k = numB n ++ r) : stepR (0 : Int) sNum rdNum bs (.ok k) = (n, .ok (k + (numB n).length)) := by
  rw [numB_length]
  exact tstepR_ok (by rw [h]; exact rdNum_numB n hf r)
theorem text_at {bs r s : List UInt8} {k : Nat} (hs : s.length ≤ 65536) (h : bs.drop k = textB s ++ r) : stepR [] sText rdText bs (.ok k) = (s, .ok (k + (textB s).length)) := by
  rw [textB_length]
  exact tstepR_ok (by rw [h]; exact rdText_textB s hs r)
theorem num_back {bs : List UInt8} {st : RS} {n : Int} {k' : Nat} (h : stepR (0 : Int) sNum rdNum bs st = (n, .ok k')) : ∃ k, st = .ok k ∧ bs.drop k = numB n ++ bs.drop k' := by
  obtain ⟨k, x, c, e1, e2, e3, rfl⟩ := tstepR_inv (k' := k') (by rw [h])
  rw [e3] at h
  injection h with h _
  subst h
  exact ⟨k, e1, ttake_next (rdNum_back e2).1⟩
theorem text_back {bs : List UInt8} {st : RS} {s : List UInt8} {k' : Nat} (h : stepR [] sText rdText bs st = (s, .ok k')) : ∃ k, st = .ok k ∧ bs.drop k = textB s ++ bs.drop k' := by
  obtain ⟨k, x, c, e1, e2, e3, rfl⟩ := tstepR_inv (k' := k') (by rw [h])
  rw [e3] at h
  injection h with h _
  subst h
  exact ⟨k, e1, ttake_next (rdText_back e2).1⟩

def rdFits (x : Rd) : Prop := x.1.length ≤ 65536 ∧ fits x.2
theorem oneR_at {bs r : List UInt8} {k : Nat} {x : Rd} (hx : rdFits x) (h : bs.drop k = rdB x ++ r) : oneR bs (.ok k) = (x, .ok (k + (rdB x).length)) := by
  unfold rdB at h ⊢
  rw [List.append_assoc] at h
  have h1 := text_at hx.1 h
  have h2 := num_at hx.2 (tdrop_next h)
  unfold oneR twoR
  simp only [h1, h2]
  rw [List.length_append, Nat.add_assoc]
theorem oneR_back {bs : List UInt8} {st : RS} {x : Rd} {k' : Nat} (h : oneR bs st = (x, .ok k')) : ∃ k, st = .ok k ∧ bs.drop k = rdB x ++ bs.drop k' := by
  obtain ⟨x1, x2⟩ := x
  unfold oneR twoR at h
  simp only [Prod.mk.injEq] at h
  obtain ⟨⟨h1, h2⟩, h3⟩ := h
  obtain ⟨k1, e1, d1⟩ := num_back (Prod.ext h2 h3)
  obtain ⟨k, e0, d0⟩ := text_back (Prod.ext h1 e1)
  exact ⟨k, e0, by unfold rdB; rw [d0, d1, List.append_assoc]⟩
theorem manyR_at {bs r : List UInt8} {k : Nat} (l : List Rd) (hl : ∀ x ∈ l, rdFits x) (h : bs.drop k = l.flatMap rdB ++ r) : manyR bs l.length (.ok k) = (l, .ok (k + (l.flatMap rdB).length)) := by
  induction l generalizing k with
  | nil => rfl
  | cons x t ih =>
    rw [List.flatMap_cons, List.append_assoc] at h
    have h1 := oneR_at (hl x (by simp)) h
    have h2 := ih (fun y hy => hl y (List.mem_cons_of_mem _ hy)) (tdrop_next h)
    simp only [List.length_cons, manyR, h1, h2, List.flatMap_cons, List.length_append, Nat.add_assoc]
theorem manyR_back {bs : List UInt8} (n : Nat) {st : RS} {l : List Rd} {k' : Nat} (h : manyR bs n st = (l, .ok k')) : ∃ k, st = .ok k ∧ l.length = n ∧ bs.drop k = l.flatMap rdB ++ bs.drop k' := by
  induction n generalizing st l with
  | zero =>
    simp only [manyR, Prod.mk.injEq] at h
    obtain ⟨rfl, rfl⟩ := h
    exact ⟨k', rfl, rfl, by simp⟩
  | succ n ih =>
    simp only [manyR, Prod.mk.injEq] at h
    obtain ⟨h1, h2⟩ := h
    obtain ⟨k1, e1, e2, e3⟩ := ih (Prod.ext rfl h2)
    obtain ⟨k, d1, d2⟩ := oneR_back (Prod.ext rfl e1)
    subst h1
    exact ⟨k, d1, by simp [e2], by rw [d2, e3, List.flatMap_cons, List.append_assoc]⟩
theorem getR_at {bs r : List UInt8} {k : Nat} (l : List Rd) (h8 : l.length ≤ 8) (hl : ∀ x ∈ l, rdFits x) (h : bs.drop k = rowR l ++ r) : getR bs (.ok k) = (l, .ok (k + (rowR l).length)) := by
  unfold rowR at h ⊢
  rw [List.append_assoc] at h
  have h1 : stepR (0 : Int) sInt (rdInt 8) bs (.ok k) = ((l.length : Int), .ok (k + (numB (l.length : Int)).length)) := by
    rw [numB_length]
    exact tstepR_ok (by rw [h]; exact trdInt_numB (by unfold fits; omega) _ ⟨by omega, by omega⟩)
  have h2 := manyR_at l hl (tdrop_next h)
  unfold getR
  rw [h1]
  simp only [Int.toNat_natCast]
  rw [h2, List.length_append, Nat.add_assoc]
theorem getR_back {bs : List UInt8} {st : RS} {l : List Rd} {k' : Nat} (h : getR bs st = (l, .ok k')) : ∃ k, st = .ok k ∧ bs.drop k = rowR l ++ bs.drop k' := by
  unfold getR at h
  obtain ⟨k1, e1, e2, e3⟩ := manyR_back _ h
  obtain ⟨k, x, c, d1, d2, d3, rfl⟩ := tstepR_inv e1
  rw [d3] at e2
  simp only at e2
  have hx := (trdInt_back d2).2
  refine ⟨k, d1, ?_⟩
  unfold rowR
  rw [show ((l.length : Nat) : Int) = x by omega, List.append_assoc, ← e3]
  exact ttake_next (rdNum_back (trdInt_back d2).1).1
theorem rdsOk.fits {l : List Rd} (h : rdsOk l) : ∀ x ∈ l, rdFits x := fun x hx => by
  have h1 := h.2.1 x hx
  unfold okR at h1
  simp only [Bool.and_eq_true, decide_eq_true_eq] at h1
  exact ⟨by omega, by unfold Go.Proofs.YtohlepbfjgehgaaGreatDoor.fits; omega⟩

def wrFits (x : Wr) : Prop := x.1.length ≤ 65536 ∧ x.2.length ≤ 65536
theorem oneW_at {bs r : List UInt8} {k : Nat} {x : Wr} (hx : wrFits x) (h : bs.drop k = wrB x ++ r) : oneW bs (.ok k) = (x, .ok (k + (wrB x).length)) := by
  unfold wrB at h ⊢
  rw [List.append_assoc] at h
  have h1 := text_at hx.1 h
  have h2 := text_at hx.2 (tdrop_next h)
  unfold oneW twoW
  simp only [h1, h2]
  rw [List.length_append, Nat.add_assoc]
theorem oneW_back {bs : List UInt8} {st : RS} {x : Wr} {k' : Nat} (h : oneW bs st = (x, .ok k')) : ∃ k, st = .ok k ∧ bs.drop k = wrB x ++ bs.drop k' := by
  obtain ⟨x1, x2⟩ := x
  unfold oneW twoW at h
  simp only [Prod.mk.injEq] at h
  obtain ⟨⟨h1, h2⟩, h3⟩ := h
  obtain ⟨k1, e1, d1⟩ := text_back (Prod.ext h2 h3)
  obtain ⟨k, e0, d0⟩ := text_back (Prod.ext h1 e1)
  exact ⟨k, e0, by unfold wrB; rw [d0, d1, List.append_assoc]⟩
theorem manyW_at {bs r : List UInt8} {k : Nat} (l : List Wr) (hl : ∀ x ∈ l, wrFits x) (h : bs.drop k = l.flatMap wrB ++ r) : manyW bs l.length (.ok k) = (l, .ok (k + (l.flatMap wrB).length)) := by
  induction l generalizing k with
  | nil => rfl
  | cons x t ih =>
    rw [List.flatMap_cons, List.append_assoc] at h
    have h1 := oneW_at (hl x (by simp)) h
    have h2 := ih (fun y hy => hl y (List.mem_cons_of_mem _ hy)) (tdrop_next h)
    simp only [List.length_cons, manyW, h1, h2, List.flatMap_cons, List.length_append, Nat.add_assoc]
theorem manyW_back {bs : List UInt8} (n : Nat) {st : RS} {l : List Wr} {k' : Nat} (h : manyW bs n st = (l, .ok k')) : ∃ k, st = .ok k ∧ l.length = n ∧ bs.drop k = l.flatMap wrB ++ bs.drop k' := by
  induction n generalizing st l with
  | zero =>
    simp only [manyW, Prod.mk.injEq] at h
    obtain ⟨rfl, rfl⟩ := h
    exact ⟨k', rfl, rfl, by simp⟩
  | succ n ih =>
    simp only [manyW, Prod.mk.injEq] at h
    obtain ⟨h1, h2⟩ := h
    obtain ⟨k1, e1, e2, e3⟩ := ih (Prod.ext rfl h2)
    obtain ⟨k, d1, d2⟩ := oneW_back (Prod.ext rfl e1)
    subst h1
    exact ⟨k, d1, by simp [e2], by rw [d2, e3, List.flatMap_cons, List.append_assoc]⟩
theorem getW_at {bs r : List UInt8} {k : Nat} (l : List Wr) (h8 : l.length ≤ 8) (hl : ∀ x ∈ l, wrFits x) (h : bs.drop k = rowW l ++ r) : getW bs (.ok k) = (l, .ok (k + (rowW l).length)) := by
  unfold rowW at h ⊢
  rw [List.append_assoc] at h
  have h1 : stepR (0 : Int) sInt (rdInt 8) bs (.ok k) = ((l.length : Int), .ok (k + (numB (l.length : Int)).length)) := by
    rw [numB_length]
    exact tstepR_ok (by rw [h]; exact trdInt_numB (by unfold fits; omega) _ ⟨by omega, by omega⟩)
  have h2 := manyW_at l hl (tdrop_next h)
  unfold getW
  rw [h1]
  simp only [Int.toNat_natCast]
  rw [h2, List.length_append, Nat.add_assoc]
theorem getW_back {bs : List UInt8} {st : RS} {l : List Wr} {k' : Nat} (h : getW bs st = (l, .ok k')) : ∃ k, st = .ok k ∧ bs.drop k = rowW l ++ bs.drop k' := by
  unfold getW at h
  obtain ⟨k1, e1, e2, e3⟩ := manyW_back _ h
  obtain ⟨k, x, c, d1, d2, d3, rfl⟩ := tstepR_inv e1
  rw [d3] at e2
  simp only at e2
  have hx := (trdInt_back d2).2
  refine ⟨k, d1, ?_⟩
  unfold rowW
  rw [show ((l.length : Nat) : Int) = x by omega, List.append_assoc, ← e3]
  exact ttake_next (rdNum_back (trdInt_back d2).1).1
theorem wrsOk.fits {l : List Wr} (h : wrsOk l) : ∀ x ∈ l, wrFits x := fun x hx => by
  have h1 := h.2.1 x hx
  unfold okW at h1
  simp only [decide_eq_true_eq] at h1
  exact ⟨by omega, by omega⟩

theorem cliN_ok {c : Int} (h : 0 ≤ c ∧ c < 16) : cliN c = c := by
  unfold cliN
  rw [if_neg (by omega), if_neg (by omega)]
/-- what is written is read as it was -/
theorem gTx_there {c n : Int} {rs : List Rd} {ws : List Wr} (h : rightB c n rs ws = true) : gTx (txnB c n rs ws) ∧ cliN (gC (txnB c n rs ws)).1 = c ∧ (gN (txnB c n rs ws)).1 = n ∧ (gRs (txnB c n rs ws)).1 = rs ∧ (gWs (txnB c n rs ws)).1 = ws := by
  obtain ⟨hn, hr, hw⟩ := rightB_ok h
  obtain ⟨bs, hbs⟩ : ∃ bs, bs = txnB c n rs ws := ⟨_, rfl⟩
  rw [← hbs]
  have d0 : bs.drop 0 = numB c ++ (numB n ++ (rowR rs ++ (rowW ws ++ []))) := by rw [hbs]; simp [txnB]
  have h1 : gC bs = (c, .ok (0 + (numB c).length)) := num_at (by unfold fits; omega) d0
  have h2 : gN bs = (n, .ok (0 + (numB c).length + (numB n).length)) := by
    unfold gN; rw [h1]; exact num_at (by unfold fits; omega) (tdrop_next d0)
  have d2 := tdrop_next (tdrop_next d0)
  have h3 : gRs bs = (rs, .ok (0 + (numB c).length + (numB n).length + (rowR rs).length)) := by
    unfold gRs; rw [h2]; exact getR_at rs hr.1 hr.fits d2
  have d3 := tdrop_next d2
  have h4 : gWs bs = (ws, .ok (0 + (numB c).length + (numB n).length + (rowR rs).length + (rowW ws).length)) := by
    unfold gWs; rw [h3]; exact getW_at ws hw.1 hw.fits d3
  have hl : bs.length = 0 + (numB c).length + (numB n).length + (rowR rs).length + (rowW ws).length := by
    rw [hbs]; simp [txnB]; omega
  have hc : cliN c = c := cliN_ok ⟨hn.1, hn.2.1⟩
  refine ⟨⟨?_, ?_⟩, ?_, ?_, ?_, ?_⟩
  · rw [h4]
    unfold endOf
    simp only
    rw [if_neg (by omega)]
  · rw [h1, h2, h3, h4]
    simp only
    rw [hc]
    exact h
  · rw [h1]; exact hc
  · rw [h2]
  · rw [h3]
  · rw [h4]
/-- what is read has its bytes as they stood -/
theorem gTx_back {bs : List UInt8} (h : gTx bs) : txnB (cliN (gC bs).1) (gN bs).1 (gRs bs).1 (gWs bs).1 = bs := by
  obtain ⟨h1, h2⟩ := h
  obtain ⟨k4, e4, hk4⟩ := tendOf_none h1
  obtain ⟨k3, e3, d3⟩ := getW_back (l := (gWs bs).1) (st := (gRs bs).2) (k' := k4) (Prod.ext rfl e4)
  obtain ⟨k2, e2, d2⟩ := getR_back (l := (gRs bs).1) (st := (gN bs).2) (k' := k3) (Prod.ext rfl e3)
  obtain ⟨k1, e1, d1⟩ := num_back (n := (gN bs).1) (st := (gC bs).2) (k' := k2) (Prod.ext rfl e2)
  obtain ⟨k0, e0, d0⟩ := num_back (n := (gC bs).1) (st := .ok 0) (k' := k1) (Prod.ext rfl e1)
  injection e0 with e0
  subst e0
  have hc : cliN (gC bs).1 = (gC bs).1 := by
    have hn := (rightB_ok h2).1.1
    unfold cliN at hn ⊢
    split
    · rename_i hh; rw [if_pos hh] at hn; omega
    · rename_i hh
      rw [if_neg hh] at hn
      split
      · rename_i hh2; rw [if_pos hh2] at hn; omega
      · rfl
  rw [hc]
  have : bs = bs.drop 0 := rfl
  conv => rhs; rw [this, d0, d1, d2, d3, List.drop_of_length_le (by omega)]
  unfold txnB
  simp
end Go.Proofs.YtohlepbfjgehgaaGreatDoor
