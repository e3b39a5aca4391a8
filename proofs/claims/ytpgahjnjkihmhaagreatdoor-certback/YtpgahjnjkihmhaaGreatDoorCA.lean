/-
  What is proved here: cert's Check: what is wrong with a signer, with signers, with a certificate; enough, over this program.
-/
import Derived.Test.YtpgahjnjkihmhaaGreatDoorSC
namespace Go.Proofs.YtpgahjnjkihmhaaGreatDoor
open Go.RowKit Go.Extern.Stop Go.Stop Go.Extern

/-- an error of one step, or none -/
def ErrAs (A : Nat → Prop) (w : World) (v : Value) : Option (Int × ByteArray × Int) → Prop
  | none => v = .nilIface
  | some (n, s, k) => One w A v n s k
theorem ErrAs.kept {A : Nat → Prop} {w w' : World} {v : Value} {o : Option (Int × ByteArray × Int)} (h : ErrAs A w v o) (hk : Kept A w w') : ErrAs A w' v o := by
  match o, h with
  | none, h => exact h
  | some (n, s, k), h => exact One.kept h hk
theorem ErrAs.mono {A A' : Nat → Prop} {w : World} {v : Value} {o : Option (Int × ByteArray × Int)} (h : ErrAs A w v o) (hA : ∀ k, A k → k < w.heap.size → A' k) : ErrAs A' w v o := by
  match o, h with
  | none, h => exact h
  | some (n, s, k), h => exact One.mono h hA
theorem ErrAs.form {A : Nat → Prop} {w : World} {v : Value} {o : Option (Int × ByteArray × Int)} (h : ErrAs A w v o) : (o = none ∧ v = .nilIface) ∨ (o ≠ none ∧ ∃ t x, v = .iface t x) := by
  match o, h with
  | none, h => exact Or.inl ⟨rfl, h⟩
  | some (n, s, k), h => exact Or.inr ⟨(fun e => nomatch e), One.iface h⟩

/-- why the signer x, at k of S, is none of the group g for d: 0, if it is one -/
def whyS (L : List (Int × Int)) (g d : Int) (S : List Int) (k : Nat) (x : Int) : Int :=
  if memb g x < 0 ∨ (0 < k ∧ x ≤ (S[k - 1]?).getD 0) then 52 else if (memb g x, d) ∈ L then 0 else 53
theorem whyS_who {L : List (Int × Int)} {g d : Int} {S : List Int} {k : Nat} {x : Int} (h : memb g x < 0 ∨ (0 < k ∧ x ≤ (S[k - 1]?).getD 0)) : whyS L g d S k x = 52 := if_pos h
theorem whyS_ok {L : List (Int × Int)} {g d : Int} {S : List Int} {k : Nat} {x : Int} (h : ¬ (memb g x < 0 ∨ (0 < k ∧ x ≤ (S[k - 1]?).getD 0))) (hm : (memb g x, d) ∈ L) : whyS L g d S k x = 0 := by
  unfold whyS; rw [if_neg h, if_pos hm]
theorem whyS_seal {L : List (Int × Int)} {g d : Int} {S : List Int} {k : Nat} {x : Int} (h : ¬ (memb g x < 0 ∨ (0 < k ∧ x ≤ (S[k - 1]?).getD 0))) (hm : (memb g x, d) ∉ L) : whyS L g d S k x = 53 := by
  unfold whyS; rw [if_neg h, if_neg hm]
/-- the first of the first n signers that is none, and why -/
def wrongTo (L : List (Int × Int)) (g d : Int) (S : List Int) : Nat → Option (Int × Nat)
  | 0 => none
  | n + 1 => match wrongTo L g d S n with
    | some e => some e
    | none => if whyS L g d S n ((S[n]?).getD 0) = 0 then none else some (whyS L g d S n ((S[n]?).getD 0), n)
theorem wrongTo_none {L : List (Int × Int)} {g d : Int} {S : List Int} (n : Nat) : wrongTo L g d S n = none ↔ ∀ j, j < n → whyS L g d S j ((S[j]?).getD 0) = 0 := by
  induction n with
  | zero => simp [wrongTo]
  | succ n ih =>
    constructor
    · intro h j hj
      unfold wrongTo at h
      cases hw : wrongTo L g d S n with
      | some e => rw [hw] at h; simp at h
      | none =>
        rw [hw] at h
        by_cases e : j = n
        · subst e
          by_cases h0 : whyS L g d S j ((S[j]?).getD 0) = 0
          · exact h0
          · simp [h0] at h
        · exact ih.1 hw j (by omega)
    · intro h
      unfold wrongTo
      rw [ih.2 (fun j hj => h j (by omega))]
      simp [h n (by omega)]
theorem wrongTo_stays {L : List (Int × Int)} {g d : Int} {S : List Int} {k : Nat} {e : Int × Nat} (h : wrongTo L g d S k = some e) (m : Nat) : wrongTo L g d S (k + m) = some e := by
  induction m with
  | zero => exact h
  | succ m ih => rw [← Nat.add_assoc]; unfold wrongTo; rw [ih]
/-- what Check answers -/
def chk (L : List (Int × Int)) (g d : Int) (S : List Int) (need : Int) : Option (Int × ByteArray × Int) :=
  match wrongTo L g d S S.length with
  | some (n, k) => some (n, ⟨#[115, 105, 103, 110, 101, 114]⟩, (k : Int))
  | none => if need < 1 ∨ (S.length : Int) < need then some (51, ⟨#[99, 104, 101, 99, 107]⟩, (S.length : Int)) else none

/-- where there are too few -/
theorem enough_few (w : World) (many need : Int) (s : ByteArray) (h : need < 1 ∨ many < need) :
    Calls Tryz.prog 31 #[.int .i64 many, .int .i64 need, .string s] w fun e w' => ∃ er, e = .returned er ∧ One w' (fun k => k = w.heap.size) er 51 s many ∧ Below w.heap.size w w' := by
  by_cases h1 : need < 1
  · go_enter Tryz.func31, Tryz.ntmps31
    go_wp2_with fail
    refine (Of_err 51 (by decide) w).mono ?_
    rintro e w1 ⟨rfl, rfl⟩
    go_wp2_with fail
    refine (Wrap_some 61 (.int .i64 51) _ _ _).mono ?_
    rintro e w3 ⟨rfl, rfl⟩
    go_wp2
    go_ret
    refine ⟨_, rfl, ⟨w1.heap.size, rfl, rfl, ?_, ?_, ?_⟩, (Below.refl _ _).alloc (Nat.le_refl _) _⟩
    · rw [World.cell?_alloc_at _ _ _ _ rfl]; rfl
    · rw [World.cell?_alloc_at _ _ _ _ rfl]; rfl
    · rw [World.cell?_alloc_at _ _ _ _ rfl]; rfl
  · have h2 : many < need := by omega
    clear h
    go_enter Tryz.func31, Tryz.ntmps31
    go_wp2_with fail
    refine (Of_err 51 (by decide) w).mono ?_
    rintro e w1 ⟨rfl, rfl⟩
    go_wp2_with fail
    refine (Wrap_some 61 (.int .i64 51) _ _ _).mono ?_
    rintro e w3 ⟨rfl, rfl⟩
    go_wp2
    go_ret
    refine ⟨_, rfl, ⟨w1.heap.size, rfl, rfl, ?_, ?_, ?_⟩, (Below.refl _ _).alloc (Nat.le_refl _) _⟩
    · rw [World.cell?_alloc_at _ _ _ _ rfl]; rfl
    · rw [World.cell?_alloc_at _ _ _ _ rfl]; rfl
    · rw [World.cell?_alloc_at _ _ _ _ rfl]; rfl
theorem enough_ok (w : World) (many need : Int) (s : ByteArray) (h : ¬ (need < 1 ∨ many < need)) :
    Calls Tryz.prog 31 #[.int .i64 many, .int .i64 need, .string s] w fun e w' => e = .returned .nilIface ∧ w' = w := by
  have h1 : ¬ need < 1 := fun e => h (Or.inl e)
  have h2 : ¬ many < need := fun e => h (Or.inr e)
  clear h
  go_enter Tryz.func31, Tryz.ntmps31
  go_wp2
  go_ret
  exact ⟨rfl, rfl⟩

/-- Check's variables that its closure reads: c at qc, s at qs -/
structure Hold (w : World) (p qc qs : Nat) (O A : Nat → Prop) (L : List (Int × Int)) (g d : Int) (v : Value) (S : List Int) : Prop where
  st : SealSt w p O L
  nums : NumsIn w A v S
  c0 : w.cell? ⟨qc, 0, none⟩ = some (.int .i64 g)
  c1 : w.cell? ⟨qc, 1, none⟩ = some (.int .i64 d)
  c2 : w.cell? ⟨qc, 2, none⟩ = some v
  c3 : w.cell? ⟨qs, 0, none⟩ = some (.pointer (some ⟨p, 0, none⟩))
theorem Hold.next {w w' : World} {p qc qs : Nat} {O A : Nat → Prop} {L : List (Int × Int)} {g d : Int} {v : Value} {S : List Int} (h : Hold w p qc qs O A L g d v S) (hb : Below w.heap.size w w') : Hold w' p qc qs O A L g d v S :=
  ⟨h.st.kept (Kept.of_all hb), RowIn.kept h.nums (Kept.of_all hb), (hb.cell (lt_of_cell h.c0)).trans h.c0, (hb.cell (lt_of_cell h.c1)).trans h.c1, (hb.cell (lt_of_cell h.c2)).trans h.c2, (hb.cell (lt_of_cell h.c3)).trans h.c3⟩

set_option maxRecDepth 100000 in
set_option maxHeartbeats 8000000 in
theorem cChe1_any (w : World) (p qc qs : Nat) (O A : Nat → Prop) (L : List (Int × Int)) (g d : Int) (v : Value) (S : List Int) (k : Nat) (x : Int) (h : Hold w p qc qs O A L g d v S) (hd : fits d) (hx : S[k]? = some x) (hl : S.length ≤ maxLen) :
    Calls Tryz.prog 33 #[.int .i64 k, .int .i64 x, .pointer (some ⟨qc, 0, none⟩), .pointer (some ⟨qs, 0, none⟩)] w fun e w' => e = .returned (.int .i64 (whyS L g d S k x)) ∧ Below w.heap.size w w' := by
  have H := hideIt h
  obtain ⟨_, hnums, c0, c1, c2, c3⟩ := h
  have hk : k < S.length := (List.getElem?_eq_some_iff.1 hx).1
  unfold maxLen at hl
  obtain ⟨a, cap, rfl⟩ := hnums.form
  have HF := hideIt (And.intro (fits_memb g x) hd)
  obtain ⟨m, hm⟩ : ∃ m, memb g x = m := ⟨_, rfl⟩
  have HM := hideIt hm
  rw [hm] at HF
  clear hd hx
  by_cases hm0 : m < 0
  · rw [whyS_who (Or.inl (by omega))]
    clear hnums
    go_enter Tryz.func33, Tryz.ntmps33
    go_wp2_with fail
    refine (sMember_any g x _).mono ?_
    rw [hm]
    rintro e w1 ⟨rfl, rfl⟩
    clear hm
    go_wp2
    go_ret
    exact ⟨rfl, Below.refl _ _⟩
  · cases k with
    | zero =>
      have hno : ¬ (memb g x < 0 ∨ (0 < 0 ∧ x ≤ (S[0 - 1]?).getD 0)) := by rw [hm]; omega
      have hw : whyS L g d S 0 x = if (m, d) ∈ L then 0 else 53 := by unfold whyS; rw [if_neg hno, hm]
      rw [hw]
      clear hnums hw hno
      by_cases hin : (m, d) ∈ L
      · have hdec : decide ((m, d) ∈ L) = true := by simp [hin]
        rw [if_pos hin]
        clear hin
        go_enter Tryz.func33, Tryz.ntmps33
        go_wp2_with fail
        refine (sMember_any g x _).mono ?_
        rw [hm]
        rintro e w1 ⟨rfl, rfl⟩
        clear hm
        go_wp2_with fail
        refine (sSigned_any _ p O L m d H.out.st HF.out.1 HF.out.2).mono ?_
        rw [hdec]
        rintro e w2 ⟨rfl, hb⟩
        have HB := hideIt hb
        clear hb hdec
        go_wp2
        go_ret
        exact ⟨rfl, HB.out⟩
      · have hdec : decide ((m, d) ∈ L) = false := by simp [hin]
        rw [if_neg hin]
        clear hin
        go_enter Tryz.func33, Tryz.ntmps33
        go_wp2_with fail
        refine (sMember_any g x _).mono ?_
        rw [hm]
        rintro e w1 ⟨rfl, rfl⟩
        clear hm
        go_wp2_with fail
        refine (sSigned_any _ p O L m d H.out.st HF.out.1 HF.out.2).mono ?_
        rw [hdec]
        rintro e w2 ⟨rfl, hb⟩
        have HB := hideIt hb
        clear hb hdec
        go_wp2
        go_ret
        exact ⟨rfl, HB.out⟩
    | succ k =>
      obtain ⟨y, hy⟩ : ∃ y, S[k]? = some y := ⟨S[k], by simp⟩
      obtain ⟨b, off, rfl, _, cy⟩ := hnums.at hy
      clear hnums
      by_cases hxy : x ≤ y
      · rw [whyS_who (Or.inr ⟨by omega, by rw [Nat.add_sub_cancel, hy]; exact hxy⟩)]
        clear hy
        go_enter Tryz.func33, Tryz.ntmps33
        go_wp2_with fail
        refine (sMember_any g x _).mono ?_
        rw [hm]
        rintro e w1 ⟨rfl, rfl⟩
        clear hm
        go_wp2
        go_ret
        exact ⟨rfl, Below.refl _ _⟩
      · have hno : ¬ (memb g x < 0 ∨ (0 < k + 1 ∧ x ≤ (S[k + 1 - 1]?).getD 0)) := by rw [hm, Nat.add_sub_cancel, hy]; simp; omega
        have hw : whyS L g d S (k + 1) x = if (m, d) ∈ L then 0 else 53 := by unfold whyS; rw [if_neg hno, hm]
        rw [hw]
        clear hw hno hy
        by_cases hin : (m, d) ∈ L
        · have hdec : decide ((m, d) ∈ L) = true := by simp [hin]
          rw [if_pos hin]
          clear hin
          go_enter Tryz.func33, Tryz.ntmps33
          go_wp2_with fail
          refine (sMember_any g x _).mono ?_
          rw [hm]
          rintro e w1 ⟨rfl, rfl⟩
          clear hm
          go_wp2_with fail
          refine (sSigned_any _ p O L m d H.out.st HF.out.1 HF.out.2).mono ?_
          rw [hdec]
          rintro e w2 ⟨rfl, hb⟩
          have HB := hideIt hb
          clear hb hdec
          go_wp2
          go_ret
          exact ⟨rfl, HB.out⟩
        · have hdec : decide ((m, d) ∈ L) = false := by simp [hin]
          rw [if_neg hin]
          clear hin
          go_enter Tryz.func33, Tryz.ntmps33
          go_wp2_with fail
          refine (sMember_any g x _).mono ?_
          rw [hm]
          rintro e w1 ⟨rfl, rfl⟩
          clear hm
          go_wp2_with fail
          refine (sSigned_any _ p O L m d H.out.st HF.out.1 HF.out.2).mono ?_
          rw [hdec]
          rintro e w2 ⟨rfl, hb⟩
          have HB := hideIt hb
          clear hb hdec
          go_wp2
          go_ret
          exact ⟨rfl, HB.out⟩
end Go.Proofs.YtpgahjnjkihmhaaGreatDoor
