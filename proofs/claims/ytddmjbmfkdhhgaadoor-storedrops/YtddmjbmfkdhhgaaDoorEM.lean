/-
  What is proved here: plain facts of merged entries; over this program.
-/
import Derived.Test.YtddmjbmfkdhhgaaDoorEL
namespace Go.Proofs.YtddmjbmfkdhhgaaDoor

theorem Mrg.laid {h l r : List Ent} (m : Mrg h l r) : ∀ e ∈ l, e ∈ r := by
  induction m using Mrg.ind with
  | nilL l => exact fun e he => he
  | nilR h => exact fun e he => by simp at he
  | lt x y h l r _ _ ih => exact fun e he => List.mem_cons_of_mem _ (ih e he)
  | eq x y h l r _ _ ih =>
    intro e he
    rcases List.mem_cons.1 he with rfl | he
    · exact List.mem_cons_self
    · exact List.mem_cons_of_mem _ (ih e he)
  | gt x y h l r _ _ ih =>
    intro e he
    rcases List.mem_cons.1 he with rfl | he
    · exact List.mem_cons_self
    · exact List.mem_cons_of_mem _ (ih e he)
/-- has no entry of l the key of e? -/
def unlaid (l : List Ent) (e : Ent) : Bool := !(l.any fun y => y.1 == e.1)
theorem unlaid_iff {l : List Ent} {e : Ent} : unlaid l e = true ↔ ∀ y ∈ l, y.1 ≠ e.1 := by
  simp [unlaid]
theorem Mrg.had {h l r : List Ent} (m : Mrg h l r) : ∀ e ∈ h, unlaid l e = true → e ∈ r := by
  induction m using Mrg.ind with
  | nilL l => exact fun e he => by simp at he
  | nilR h => exact fun e he _ => he
  | lt x y h l r _ _ ih =>
    intro e he hu
    rcases List.mem_cons.1 he with rfl | he
    · exact List.mem_cons_self
    · exact List.mem_cons_of_mem _ (ih e he hu)
  | eq x y h l r hk _ ih =>
    intro e he hu
    have hu2 := unlaid_iff.1 hu
    rcases List.mem_cons.1 he with rfl | he
    · exact absurd hk.symm (hu2 y List.mem_cons_self)
    · exact List.mem_cons_of_mem _ (ih e he (unlaid_iff.2 fun z hz => hu2 z (List.mem_cons_of_mem _ hz)))
  | gt x y h l r hk _ ih =>
    intro e he hu
    have hu2 := unlaid_iff.1 hu
    exact List.mem_cons_of_mem _ (ih e he (unlaid_iff.2 fun z hz => hu2 z (List.mem_cons_of_mem _ hz)))
theorem kLt_ne {a b : List UInt8} (h : kLt a b) : a ≠ b := fun e => by subst e; exact kLt_irrefl _ h
theorem Mrg.many {h l r : List Ent} (m : Mrg h l r) (hh : Rising h) (hl : Rising l) : r.length = l.length + (h.filter (unlaid l)).length := by
  induction m using Mrg.ind with
  | nilL l => simp
  | nilR h =>
    have : h.filter (unlaid []) = h := List.filter_eq_self.2 fun e _ => by simp [unlaid]
    rw [this]; simp
  | lt x y h l r hk m ih =>
    obtain ⟨h1, h2⟩ := rising_cons.1 hh
    have hu : unlaid (y :: l) x = true := unlaid_iff.2 fun z hz => by
      rcases List.mem_cons.1 hz with rfl | hz
      · exact (kLt_ne hk).symm
      · exact (kLt_ne (kLt_trans hk ((rising_cons.1 hl).1 z hz))).symm
    rw [List.filter_cons_of_pos hu, List.length_cons, ih h2 hl]
    simp only [List.length_cons]
    omega
  | eq x y h l r hk m ih =>
    obtain ⟨h1, h2⟩ := rising_cons.1 hh
    have hu : ¬ unlaid (y :: l) x = true := fun h => unlaid_iff.1 h y List.mem_cons_self hk.symm
    have he : h.filter (unlaid (y :: l)) = h.filter (unlaid l) := List.filter_congr fun e he => by
      have : (y.1 == e.1) = false := by simpa using fun h => kLt_ne (h1 e he) (hk.trans h)
      simp [unlaid, this]
    rw [List.filter_cons_of_neg hu, he, List.length_cons, List.length_cons, ih h2 (rising_cons.1 hl).2]
    omega
  | gt x y h l r hk m ih =>
    obtain ⟨h1, h2⟩ := rising_cons.1 hh
    have he : (x :: h).filter (unlaid (y :: l)) = (x :: h).filter (unlaid l) := List.filter_congr fun e he => by
      have : (y.1 == e.1) = false := by
        rcases List.mem_cons.1 he with rfl | he
        · simpa using kLt_ne hk
        · simpa using kLt_ne (kLt_trans hk (h1 e he))
      simp [unlaid, this]
    rw [he, List.length_cons, List.length_cons, ih hh (rising_cons.1 hl).2]
    omega
/-- rising entries are told by what is among them -/
theorem rising_ext : ∀ {a b : List Ent}, Rising a → Rising b → (∀ e, e ∈ a ↔ e ∈ b) → a = b
  | [], [], _, _, _ => rfl
  | [], y :: b, _, _, h => by have := (h y).2 List.mem_cons_self; simp at this
  | x :: a, [], _, _, h => by have := (h x).1 List.mem_cons_self; simp at this
  | x :: a, y :: b, ha, hb, h => by
    obtain ⟨a1, a2⟩ := rising_cons.1 ha
    obtain ⟨b1, b2⟩ := rising_cons.1 hb
    have hxy : x = y := by
      rcases List.mem_cons.1 ((h x).1 List.mem_cons_self) with e | e
      · exact e
      · rcases List.mem_cons.1 ((h y).2 List.mem_cons_self) with e2 | e2
        · exact e2.symm
        · exact absurd (kLt_trans (a1 y e2) (b1 x e)) (kLt_irrefl _)
    subst hxy
    have hx : ∀ {c : List Ent}, (∀ e ∈ c, kLt x.1 e.1) → x ∉ c := fun hc hm => kLt_irrefl _ (hc x hm)
    rw [rising_ext a2 b2 (fun e => ?_)]
    constructor
    · intro he
      rcases List.mem_cons.1 ((h e).1 (List.mem_cons_of_mem _ he)) with e2 | e2
      · subst e2; exact absurd he (hx a1)
      · exact e2
    · intro he
      rcases List.mem_cons.1 ((h e).2 (List.mem_cons_of_mem _ he)) with e2 | e2
      · subst e2; exact absurd he (hx b1)
      · exact e2
theorem Rising.filter {l : List Ent} (p : Ent → Bool) (h : Rising l) : Rising (l.filter p) := by
  induction l with
  | nil => exact h
  | cons x l ih =>
    obtain ⟨h1, h2⟩ := rising_cons.1 h
    by_cases hp : p x = true
    · rw [List.filter_cons_of_pos hp]
      exact rising_cons.2 ⟨fun e he => h1 e (List.mem_filter.1 he).1, ih h2⟩
    · rw [List.filter_cons_of_neg hp]
      exact ih h2
theorem Rising.key {l : List Ent} (h : Rising l) {x y : Ent} (hx : x ∈ l) (hy : y ∈ l) (hk : x.1 = y.1) : x = y := by
  obtain ⟨i, hi⟩ := List.getElem?_of_mem hx
  obtain ⟨j, hj⟩ := List.getElem?_of_mem hy
  rcases Nat.lt_trichotomy i j with c | c | c
  · exact absurd hk (kLt_ne (h i j x y c hi hj))
  · subst c; rw [hi] at hj; exact Option.some.inj hj
  · exact absurd hk.symm (kLt_ne (h j i y x c hj hi))
/-- what a range was, laid in again -/
theorem Mrg.back {l r : List Ent} (p : Ent → Bool) (h : Rising l) (m : Mrg (l.filter fun e => !p e) (l.filter p) r) : r = l := by
  refine rising_ext (m.rising (h.filter _) (h.filter _)) h (fun e => ⟨fun he => ?_, fun he => ?_⟩)
  · rcases m.mem e he with h1 | h1 <;> exact (List.mem_filter.1 h1).1
  · by_cases hp : p e = true
    · exact m.laid e (List.mem_filter.2 ⟨he, hp⟩)
    · refine m.had e (List.mem_filter.2 ⟨he, by simpa using hp⟩) (unlaid_iff.2 fun y hy hk => ?_)
      obtain ⟨hy1, hy2⟩ := List.mem_filter.1 hy
      have := h.key hy1 he hk
      subst this
      exact hp hy2
end Go.Proofs.YtddmjbmfkdhhgaaDoor
