/-
  What is proved here: pieces of all keys in plain lists: which may be a route's, a key's owner, cuts and moves; over this program.
-/
import Derived.Test.YtafhmbgnldmedaaDoorPA
namespace Go.Proofs.YtafhmbgnldmedaaDoor
open Go.RowKit Go.Extern.Stop Go.Stop Go.Extern

theorem kLe_trans {a b c : List UInt8} (h : ¬ kLt b a) (h2 : ¬ kLt c b) : ¬ kLt c a := fun h3 => by
  by_cases e : a = b
  · subst e; exact h2 h3
  · rcases kLt_total e with h4 | h4
    · exact h2 (kLt_trans h3 h4)
    · exact h h4
theorem kLt_le {a b c : List UInt8} (h : kLt a b) (h2 : ¬ kLt c b) : kLt a c := by
  by_cases e : b = c
  · subst e; exact h
  · rcases kLt_total e with h4 | h4
    · exact kLt_trans h h4
    · exact absurd h4 h2
theorem kLe_lt {a b c : List UInt8} (h : ¬ kLt b a) (h2 : kLt b c) : kLt a c := by
  by_cases e : a = b
  · subst e; exact h2
  · rcases kLt_total e with h4 | h4
    · exact kLt_trans h4 h2
    · exact absurd h4 h
theorem kLe_eq {a b : List UInt8} (h : ¬ kLt a b) (h2 : ¬ kLt b a) : a = b := by
  by_cases e : a = b
  · exact e
  · rcases kLt_total e with h4 | h4
    · exact absurd h4 h
    · exact absurd h4 h2
theorem kLt_nil (a : List UInt8) : ¬ kLt a [] := by
  cases a <;> simp [kLt, Op.bytesLess]
theorem bl_true {a b : List UInt8} (h : kLt a b) : Op.bytesLess a b = true := h
theorem bl_false {a b : List UInt8} (h : ¬ kLt a b) : Op.bytesLess a b = false := by simpa [kLt] using h

/-- pieces rise -/
def PRise (L : List Pc) : Prop := L.Pairwise fun a b => kLt a.1 b.1
theorem PRise.at {L : List Pc} (h : PRise L) {i j : Nat} {a b : Pc} (hij : i < j) (ha : L[i]? = some a) (hb : L[j]? = some b) : kLt a.1 b.1 := by
  obtain ⟨h1, rfl⟩ := List.getElem?_eq_some_iff.1 ha
  obtain ⟨h2, rfl⟩ := List.getElem?_eq_some_iff.1 hb
  exact List.pairwise_iff_getElem.1 h i j h1 h2 hij
theorem PRise.one {L : List Pc} (h : PRise L) {p q : Pc} (hp : p ∈ L) (hq : q ∈ L) (he : p.1 = q.1) : p = q := by
  obtain ⟨i, hi⟩ := List.getElem?_of_mem hp
  obtain ⟨j, hj⟩ := List.getElem?_of_mem hq
  rcases Nat.lt_trichotomy i j with c | c | c
  · have := h.at c hi hj; rw [he] at this; exact absurd this (kLt_irrefl _)
  · subst c; rw [hi] at hj; exact Option.some.inj hj
  · have := h.at c hj hi; rw [he] at this; exact absurd this (kLt_irrefl _)
/-- a piece's numbers may be -/
def PcOk (p : Pc) : Prop := p.1.length ≤ 16 ∧ 0 ≤ p.2.1 ∧ p.2.1 < 4 ∧ 1 ≤ p.2.2 ∧ p.2.2 ≤ 1099511627776
/-- the piece at a place may stand there -/
def MayAt (L : List Pc) (i : Nat) : Prop := ∀ p, L[i]? = some p → (i = 0 → p.1 = []) ∧ (∀ j q, i = j + 1 → L[j]? = some q → kLt q.1 p.1) ∧ PcOk p
def FitTo (L : List Pc) (k : Nat) : Prop := ∀ i, i < k → MayAt L i
/-- they may be a route's -/
structure FitP (L : List Pc) : Prop where
  one : L ≠ []
  few : L.length ≤ 32
  may : FitTo L L.length
theorem FitP.rise {L : List Pc} (h : FitP L) : PRise L := by
  refine List.pairwise_iff_getElem.2 fun i j hi hj hij => ?_
  induction j with
  | zero => omega
  | succ j ih =>
    have h1 := (h.may (j + 1) hj _ (List.getElem?_eq_getElem hj)).2.1 j _ rfl (List.getElem?_eq_getElem (show j < L.length by omega))
    by_cases e : i = j
    · subst e; exact h1
    · exact kLt_trans (ih (by omega) (by omega)) h1
theorem FitP.ok {L : List Pc} (h : FitP L) {p : Pc} (hp : p ∈ L) : PcOk p := by
  obtain ⟨i, hi⟩ := List.getElem?_of_mem hp
  exact (h.may i (List.getElem?_eq_some_iff.1 hi).1 p hi).2.2
theorem FitP.first {L : List Pc} (h : FitP L) {p : Pc} (hp : L[0]? = some p) : p.1 = [] := (h.may 0 (List.getElem?_eq_some_iff.1 hp).1 p hp).1 rfl
theorem fit_mk {L : List Pc} (h1 : L ≠ []) (h2 : L.length ≤ 32) (h3 : ∀ p, L[0]? = some p → p.1 = []) (h4 : PRise L) (h5 : ∀ p ∈ L, PcOk p) : FitP L :=
  ⟨h1, h2, fun i hi p hp => ⟨fun e => by subst e; exact h3 p hp, fun j q e hq => h4.at (by omega) hq hp, h5 p (List.mem_of_getElem? hp)⟩⟩
/-- rises, and begins at the empty key -/
structure Lin (L : List Pc) : Prop where
  rise : PRise L
  first : ∀ p, L[0]? = some p → p.1 = []
  one : L ≠ []
theorem FitP.lin {L : List Pc} (h : FitP L) : Lin L := ⟨h.rise, fun _ hp => h.first hp, h.one⟩

/-- the place of the piece that a key is in -/
def HoldIs (L : List Pc) (key : List UInt8) (a : Nat) : Prop := a < L.length ∧ (∀ j x, j ≤ a → L[j]? = some x → ¬ kLt key x.1) ∧ (∀ j x, a < j → L[j]? = some x → kLt key x.1)
theorem hold_one {L : List Pc} {key : List UInt8} {a b : Nat} (ha : HoldIs L key a) (hb : HoldIs L key b) : a = b := by
  rcases Nat.lt_trichotomy a b with c | c | c
  · exact absurd (ha.2.2 b _ c (List.getElem?_eq_getElem hb.1)) (hb.2.1 b _ (Nat.le_refl _) (List.getElem?_eq_getElem hb.1))
  · exact c
  · exact absurd (hb.2.2 a _ c (List.getElem?_eq_getElem ha.1)) (ha.2.1 a _ (Nat.le_refl _) (List.getElem?_eq_getElem ha.1))
/-- the piece that a key is in -/
def OwnIs (L : List Pc) (key : List UInt8) (p : Pc) : Prop := ∃ a, HoldIs L key a ∧ L[a]? = some p
theorem own_one {L : List Pc} {key : List UInt8} {p q : Pc} (hp : OwnIs L key p) (hq : OwnIs L key q) : p = q := by
  obtain ⟨a, h1, h2⟩ := hp
  obtain ⟨b, h3, h4⟩ := hq
  obtain rfl := hold_one h1 h3
  rw [h2] at h4; exact Option.some.inj h4
theorem own_iff {L : List Pc} (hr : PRise L) {key : List UInt8} {p : Pc} : OwnIs L key p ↔ p ∈ L ∧ ¬ kLt key p.1 ∧ ∀ q ∈ L, ¬ kLt key q.1 → ¬ kLt p.1 q.1 := by
  constructor
  · rintro ⟨a, h1, h2⟩
    refine ⟨List.mem_of_getElem? h2, h1.2.1 a p (Nat.le_refl _) h2, fun q hq hk => ?_⟩
    obtain ⟨j, hj⟩ := List.getElem?_of_mem hq
    rcases Nat.lt_trichotomy j a with c | c | c
    · exact kLt_asymm (hr.at c hj h2)
    · subst c; rw [h2] at hj; cases hj; exact kLt_irrefl _
    · exact absurd (h1.2.2 j q c hj) hk
  · rintro ⟨h1, h2, h3⟩
    obtain ⟨a, ha⟩ := List.getElem?_of_mem h1
    refine ⟨a, ⟨(List.getElem?_eq_some_iff.1 ha).1, fun j x hj hx hk => ?_, fun j x hj hx => ?_⟩, ha⟩
    · by_cases e : j = a
      · subst e; rw [ha] at hx; cases hx; exact h2 hk
      · exact h2 (kLt_trans hk (hr.at (by omega) hx ha))
    · refine Classical.byContradiction fun hk => ?_
      exact h3 x (List.mem_of_getElem? hx) hk (hr.at hj ha hx)
theorem own_mem {L : List Pc} {key : List UInt8} {p : Pc} (h : OwnIs L key p) : p ∈ L := by
  obtain ⟨a, _, h2⟩ := h
  exact List.mem_of_getElem? h2
theorem own_le {L : List Pc} {key : List UInt8} {p : Pc} (h : OwnIs L key p) : ¬ kLt key p.1 := by
  obtain ⟨a, h1, h2⟩ := h
  exact h1.2.1 a p (Nat.le_refl _) h2
theorem own_max {L : List Pc} (hr : PRise L) {key : List UInt8} {p q : Pc} (h : OwnIs L key p) (hq : q ∈ L) (hk : ¬ kLt key q.1) : ¬ kLt p.1 q.1 := ((own_iff hr).1 h).2.2 q hq hk
/-- a piece owns the key that it begins at -/
theorem own_at {L : List Pc} (hr : PRise L) {p q : Pc} (h : OwnIs L q.1 p) (hq : q ∈ L) : p = q :=
  hr.one (own_mem h) hq (kLe_eq (own_max hr h hq (kLt_irrefl _)) (own_le h))
theorem own_ex {L : List Pc} (h : Lin L) (key : List UInt8) : ∃ p, OwnIs L key p := by
  have hk : ∀ k, k < L.length → (∃ a, HoldIs (L.take (k + 1)) key a ∧ a < k + 1) := by
    intro k
    induction k with
    | zero =>
      intro h0
      refine ⟨0, ⟨by rw [List.length_take]; omega, fun j x hj hx => ?_, fun j x hj hx => ?_⟩, by omega⟩
      · have hj0 : j = 0 := by omega
        subst hj0
        rw [List.getElem?_take_of_lt (by omega)] at hx
        rw [h.first x hx]; exact kLt_nil _
      · have := (List.getElem?_eq_some_iff.1 hx).1
        rw [List.length_take] at this; omega
    | succ k ih =>
      intro hk
      obtain ⟨a, h1, h2⟩ := ih (by omega)
      by_cases hx : kLt key L[k + 1].1
      · refine ⟨a, ⟨by rw [List.length_take]; omega, fun j x hj hx => ?_, fun j x hj hx2 => ?_⟩, by omega⟩
        · rw [List.getElem?_take_of_lt (by omega)] at hx
          exact h1.2.1 j x hj (by rw [List.getElem?_take_of_lt (by omega)]; exact hx)
        · have hl := (List.getElem?_eq_some_iff.1 hx2).1
          rw [List.length_take] at hl
          rw [List.getElem?_take_of_lt (by omega)] at hx2
          by_cases e : j = k + 1
          · subst e
            rw [List.getElem?_eq_getElem hk] at hx2; cases hx2; exact hx
          · exact h1.2.2 j x hj (by rw [List.getElem?_take_of_lt (by omega)]; exact hx2)
      · refine ⟨k + 1, ⟨by rw [List.length_take]; omega, fun j x hj hx2 => ?_, fun j x hj hx2 => ?_⟩, by omega⟩
        · rw [List.getElem?_take_of_lt (by omega)] at hx2
          by_cases e : j = k + 1
          · subst e
            rw [List.getElem?_eq_getElem hk] at hx2; cases hx2; exact hx
          · exact fun hkx => hx (kLt_trans hkx (h.rise.at (show j < k + 1 by omega) hx2 (List.getElem?_eq_getElem hk)))
        · have := (List.getElem?_eq_some_iff.1 hx2).1
          rw [List.length_take] at this; omega
  have hl : 0 < L.length := List.length_pos_iff.2 h.one
  obtain ⟨a, h1, h2⟩ := hk (L.length - 1) (by omega)
  rw [List.take_of_length_le (by omega)] at h1
  exact ⟨L[a]'h1.1, a, h1, List.getElem?_eq_getElem h1.1⟩

/-- what a cut at a key comes to -/
def CutIs (L : List Pc) (key : List UInt8) (L' : List Pc) : Prop :=
  ∃ a x, HoldIs L key a ∧ L[a]? = some x ∧ ((x.1 = key ∧ L' = L) ∨ (x.1 ≠ key ∧ L' = L.take (a + 1) ++ [(key, x.2)] ++ L.drop (a + 1)))
theorem cut_one {L L1 L2 : List Pc} {key : List UInt8} (h1 : CutIs L key L1) (h2 : CutIs L key L2) : L1 = L2 := by
  obtain ⟨a, x, ha, hx, h1⟩ := h1
  obtain ⟨b, y, hb, hy, h2⟩ := h2
  obtain rfl := hold_one ha hb
  rw [hx] at hy; cases hy
  rcases h1 with ⟨e1, rfl⟩ | ⟨e1, rfl⟩ <;> rcases h2 with ⟨e2, rfl⟩ | ⟨e2, rfl⟩
  · rfl
  · exact absurd e1 e2
  · exact absurd e2 e1
  · rfl
theorem mem_upto {L : List Pc} {a : Nat} {q : Pc} (h : q ∈ L.take a) : ∃ j, j < a ∧ L[j]? = some q := by
  obtain ⟨j, hj⟩ := List.getElem?_of_mem h
  have hl := (List.getElem?_eq_some_iff.1 hj).1
  rw [List.length_take] at hl
  rw [List.getElem?_take_of_lt (by omega)] at hj
  exact ⟨j, by omega, hj⟩
theorem mem_from {L : List Pc} {a : Nat} {q : Pc} (h : q ∈ L.drop a) : ∃ j, a ≤ j ∧ L[j]? = some q := by
  obtain ⟨j, hj⟩ := List.getElem?_of_mem h
  rw [List.getElem?_drop] at hj
  exact ⟨a + j, by omega, hj⟩
theorem cut_mem {L L' : List Pc} {key : List UInt8} (h : CutIs L key L') (q : Pc) : q ∈ L' ↔ q ∈ L ∨ ∃ p, OwnIs L key p ∧ q = (key, p.2) := by
  obtain ⟨a, x, ha, hx, ⟨e, rfl⟩ | ⟨e, rfl⟩⟩ := h
  · constructor
    · exact Or.inl
    · rintro (h | ⟨p, hp, rfl⟩)
      · exact h
      · obtain rfl := own_one hp ⟨a, ha, hx⟩
        subst e
        exact List.mem_of_getElem? hx
  · rw [List.mem_append, List.mem_append, List.mem_singleton]
    constructor
    · rintro ((h | rfl) | h)
      · exact Or.inl (List.mem_of_mem_take h)
      · exact Or.inr ⟨x, ⟨a, ha, hx⟩, rfl⟩
      · exact Or.inl (List.mem_of_mem_drop h)
    · rintro (h | ⟨p, hp, rfl⟩)
      · rw [← List.take_append_drop (a + 1) L, List.mem_append] at h
        rcases h with h | h
        · exact Or.inl (Or.inl h)
        · exact Or.inr h
      · obtain rfl := own_one hp ⟨a, ha, hx⟩
        exact Or.inl (Or.inr rfl)
theorem cut_lin {L L' : List Pc} {key : List UInt8} (hl : Lin L) (h : CutIs L key L') : Lin L' := by
  obtain ⟨a, x, ha, hx, ⟨e, rfl⟩ | ⟨e, rfl⟩⟩ := h
  · exact hl
  · refine ⟨?_, fun p hp => ?_, by simp⟩
    · unfold PRise
      rw [List.append_assoc, List.pairwise_append]
      refine ⟨List.Pairwise.sublist (List.take_sublist _ _) hl.rise, ?_, fun p hp q hq => ?_⟩
      · rw [List.singleton_append, List.pairwise_cons]
        refine ⟨fun q hq => ?_, List.Pairwise.sublist (List.drop_sublist _ _) hl.rise⟩
        obtain ⟨j, hj, hjq⟩ := mem_from hq
        exact ha.2.2 j q (by omega) hjq
      · obtain ⟨i, hi, hip⟩ := mem_upto hp
        have hpk : kLt p.1 key := by
          have h1 := ha.2.1 i p (by omega) hip
          by_cases e2 : i = a
          · subst e2; rw [hx] at hip; cases hip
            rcases kLt_total e with h2 | h2
            · exact h2
            · exact absurd h2 h1
          · exact kLt_le (hl.rise.at (by omega) hip hx) (ha.2.1 a x (Nat.le_refl _) hx)
        rcases List.mem_cons.1 hq with rfl | hq
        · exact hpk
        · obtain ⟨j, hj, hjq⟩ := mem_from hq
          exact kLt_trans hpk (ha.2.2 j q (by omega) hjq)
    · refine hl.first p ?_
      rw [List.append_assoc, List.getElem?_append_left (by rw [List.length_take]; have := ha.1; omega), List.getElem?_take_of_lt (by omega)] at hp
      exact hp
theorem cut_len {L L' : List Pc} {key : List UInt8} (h : CutIs L key L') : L.length ≤ L'.length ∧ L'.length ≤ L.length + 1 := by
  obtain ⟨a, x, ha, hx, ⟨e, rfl⟩ | ⟨e, rfl⟩⟩ := h
  · omega
  · have := ha.1
    simp only [List.length_append, List.length_take, List.length_drop, List.length_cons, List.length_nil]; omega
theorem cut_begins {L L' : List Pc} {key : List UInt8} (h : CutIs L key L') : ∃ q ∈ L', q.1 = key := by
  have hm := cut_mem h
  obtain ⟨a, x, ha, hx, _⟩ := h
  exact ⟨(key, x.2), (hm _).2 (Or.inr ⟨x, ⟨a, ha, hx⟩, rfl⟩), rfl⟩
theorem cut_own {L L' : List Pc} {c k : List UInt8} {p p' : Pc} (hl : Lin L) (hc : CutIs L c L') (h : OwnIs L k p) (h' : OwnIs L' k p') : p'.2 = p.2 ∧ (p'.1 = p.1 ∨ p'.1 = c) := by
  have hr' := (cut_lin hl hc).rise
  have hm := cut_mem hc
  have hsub : ∀ q ∈ L, ¬ kLt k q.1 → ¬ kLt p'.1 q.1 := fun q hq hk => own_max hr' h' ((hm q).2 (Or.inl hq)) hk
  rcases (hm p').1 (own_mem h') with h1 | ⟨p0, h0, rfl⟩
  · obtain rfl := own_one h ((own_iff hl.rise).2 ⟨h1, own_le h', hsub⟩)
    exact ⟨rfl, Or.inl rfl⟩
  · have h2 : OwnIs L k p0 := (own_iff hl.rise).2 ⟨own_mem h0, kLe_trans (own_le h0) (own_le h'), fun q hq hk => own_max hl.rise h0 hq (hsub q hq hk)⟩
    obtain rfl := own_one h h2
    exact ⟨rfl, Or.inr rfl⟩
theorem cut_nil {L : List Pc} (hl : Lin L) : CutIs L [] L := by
  obtain ⟨p, a, ha, hp⟩ := own_ex hl []
  refine ⟨a, p, ha, hp, Or.inl ⟨?_, rfl⟩⟩
  exact kLe_eq (kLt_nil _) (ha.2.1 a p (Nat.le_refl _) hp)

/-- is a key in the range? -/
def inR (fk tk k : List UInt8) : Bool := !(Op.bytesLess k fk) && (tk == [] || Op.bytesLess k tk)
theorem inR_iff {fk tk k : List UInt8} : inR fk tk k = true ↔ ¬ kLt k fk ∧ (tk = [] ∨ kLt k tk) := by
  unfold inR kLt
  simp
/-- is that a range? -/
def IsRange (fk tk : List UInt8) : Prop := fk.length ≤ 16 ∧ (tk = [] ∨ (kLt fk tk ∧ tk.length ≤ 16))
def IsShard (s : Int) : Prop := 0 ≤ s ∧ s < 4
/-- a piece of the range, given to a shard -/
def updP (fk tk : List UInt8) (s : Int) (p : Pc) : Pc := if inR fk tk p.1 = true then (p.1, s, p.2.2 + 1) else p
theorem updP_from (fk tk : List UInt8) (s : Int) (p : Pc) : (updP fk tk s p).1 = p.1 := by unfold updP; split <;> rfl
/-- what Move comes to: the error's number and its place, and what the pieces are then -/
def MoveIs (L : List Pc) (fk tk : List UInt8) (s : Int) (n : Int) (at' : Int) (L' : List Pc) : Prop :=
  (¬ IsRange fk tk ∧ n = 91 ∧ at' = 0 ∧ L' = L) ∨
  (IsRange fk tk ∧ ¬ IsShard s ∧ n = 1 ∧ at' = s ∧ L' = L) ∨
  (IsRange fk tk ∧ IsShard s ∧ ∃ L1 L2, CutIs L fk L1 ∧ CutIs L1 tk L2 ∧
    (((∃ p ∈ L2, inR fk tk p.1 = true ∧ 1099511627776 ≤ p.2.2) ∧ n = 1 ∧ at' = -1 ∧ L' = L) ∨
     ((∀ p ∈ L2, inR fk tk p.1 = true → p.2.2 < 1099511627776) ∧ 32 < L2.length ∧ n = 71 ∧ at' = L2.length ∧ L' = L) ∨
     ((∀ p ∈ L2, inR fk tk p.1 = true → p.2.2 < 1099511627776) ∧ L2.length ≤ 32 ∧ n = 0 ∧ at' = 0 ∧ L' = L2.map (updP fk tk s))))
theorem move_one {L L1 L2 : List Pc} {fk tk : List UInt8} {s n1 n2 a1 a2 : Int} (h1 : MoveIs L fk tk s n1 a1 L1) (h2 : MoveIs L fk tk s n2 a2 L2) : n2 = n1 ∧ a2 = a1 ∧ L2 = L1 := by
  rcases h1 with ⟨r1, rfl, rfl, rfl⟩ | ⟨r1, s1, rfl, rfl, rfl⟩ | ⟨r1, s1, M1, M2, c1, c2, h1⟩
  · rcases h2 with ⟨_, rfl, rfl, rfl⟩ | ⟨r2, _⟩ | ⟨r2, _⟩
    · exact ⟨rfl, rfl, rfl⟩
    · exact absurd r2 r1
    · exact absurd r2 r1
  · rcases h2 with ⟨r2, _⟩ | ⟨_, _, rfl, rfl, rfl⟩ | ⟨_, s2, _⟩
    · exact absurd r1 r2
    · exact ⟨rfl, rfl, rfl⟩
    · exact absurd s2 s1
  · rcases h2 with ⟨r2, _⟩ | ⟨_, s2, _⟩ | ⟨_, _, N1, N2, d1, d2, h2⟩
    · exact absurd r1 r2
    · exact absurd s1 s2
    · obtain rfl := cut_one c1 d1
      obtain rfl := cut_one c2 d2
      rcases h1 with ⟨⟨p, hp, hi, he⟩, rfl, rfl, rfl⟩ | ⟨h1, l1, rfl, rfl, rfl⟩ | ⟨h1, l1, rfl, rfl, rfl⟩
      · rcases h2 with ⟨_, rfl, rfl, rfl⟩ | ⟨h2, _⟩ | ⟨h2, _⟩
        · exact ⟨rfl, rfl, rfl⟩
        · have := h2 p hp hi; omega
        · have := h2 p hp hi; omega
      · rcases h2 with ⟨⟨p, hp, hi, he⟩, _⟩ | ⟨_, _, rfl, rfl, rfl⟩ | ⟨_, l2, _⟩
        · have := h1 p hp hi; omega
        · exact ⟨rfl, rfl, rfl⟩
        · omega
      · rcases h2 with ⟨⟨p, hp, hi, he⟩, _⟩ | ⟨_, l2, _⟩ | ⟨_, _, rfl, rfl, rfl⟩
        · have := h1 p hp hi; omega
        · omega
        · exact ⟨rfl, rfl, rfl⟩
/-- with an error nothing is cut -/
theorem move_bad {L L' : List Pc} {fk tk : List UInt8} {s n a : Int} (h : MoveIs L fk tk s n a L') (hn : n ≠ 0) : L' = L := by
  rcases h with ⟨_, _, _, h⟩ | ⟨_, _, _, _, h⟩ | ⟨_, _, M1, M2, _, _, ⟨_, _, _, h⟩ | ⟨_, _, _, _, h⟩ | ⟨_, _, h, _⟩⟩
  · exact h
  · exact h
  · exact h
  · exact h
  · exact absurd h hn
theorem move_ok {L L' : List Pc} {fk tk : List UInt8} {s a : Int} (h : MoveIs L fk tk s 0 a L') : IsRange fk tk ∧ IsShard s ∧ ∃ L1 L2, CutIs L fk L1 ∧ CutIs L1 tk L2 ∧ (∀ p ∈ L2, inR fk tk p.1 = true → p.2.2 < 1099511627776) ∧ L2.length ≤ 32 ∧ L' = L2.map (updP fk tk s) := by
  rcases h with ⟨_, h, _⟩ | ⟨_, _, h, _⟩ | ⟨r, hs, M1, M2, c1, c2, ⟨_, h, _⟩ | ⟨_, _, h, _⟩ | ⟨h1, h2, _, _, h3⟩⟩
  · exact absurd h (by decide)
  · exact absurd h (by decide)
  · exact absurd h (by decide)
  · exact absurd h (by decide)
  · exact ⟨r, hs, M1, M2, c1, c2, h1, h2, h3⟩
theorem upd_lin {L : List Pc} {fk tk : List UInt8} {s : Int} (h : Lin L) : Lin (L.map (updP fk tk s)) := by
  refine ⟨?_, fun p hp => ?_, by simpa using h.one⟩
  · unfold PRise
    rw [List.pairwise_map]
    exact List.Pairwise.imp (fun {a b} hab => by rw [updP_from, updP_from]; exact hab) h.rise
  · rw [List.getElem?_map, Option.map_eq_some_iff] at hp
    obtain ⟨q, hq, rfl⟩ := hp
    rw [updP_from]; exact h.first q hq
theorem upd_own {L : List Pc} {fk tk k : List UInt8} {s : Int} {p : Pc} (h : OwnIs (L.map (updP fk tk s)) k p) : ∃ q, OwnIs L k q ∧ p = updP fk tk s q := by
  obtain ⟨a, h1, h2⟩ := h
  rw [List.getElem?_map, Option.map_eq_some_iff] at h2
  obtain ⟨q, hq, rfl⟩ := h2
  refine ⟨q, ⟨a, ⟨by simpa using h1.1, fun j x hj hx => ?_, fun j x hj hx => ?_⟩, hq⟩, rfl⟩
  · have := h1.2.1 j (updP fk tk s x) hj (by rw [List.getElem?_map, hx]; rfl)
    rwa [updP_from] at this
  · have := h1.2.2 j (updP fk tk s x) hj (by rw [List.getElem?_map, hx]; rfl)
    rwa [updP_from] at this
theorem cut_ok {L L' : List Pc} {key : List UInt8} (hk : key.length ≤ 16) (h : CutIs L key L') (hok : ∀ p ∈ L, PcOk p) : ∀ p ∈ L', PcOk p := by
  intro q hq
  rcases (cut_mem h q).1 hq with h1 | ⟨p, hp, rfl⟩
  · exact hok q h1
  · have := hok p (own_mem hp)
    exact ⟨hk, this.2⟩
theorem IsRange.to {fk tk : List UInt8} (h : IsRange fk tk) : tk.length ≤ 16 := by
  rcases h.2 with e | e
  · subst e; simp
  · exact e.2
theorem move_fit {L L' : List Pc} {fk tk : List UInt8} {s n a : Int} (hf : FitP L) (h : MoveIs L fk tk s n a L') : FitP L' := by
  by_cases hn : n = 0
  · subst hn
    obtain ⟨r, hs, M1, M2, c1, c2, he, hlen, rfl⟩ := move_ok h
    have hl2 := cut_lin (cut_lin hf.lin c1) c2
    have hk := cut_ok r.to c2 (cut_ok r.1 c1 (fun p hp => hf.ok hp))
    have hl3 := upd_lin (fk := fk) (tk := tk) (s := s) hl2
    refine fit_mk hl3.one (by simpa using hlen) hl3.first hl3.rise fun p hp => ?_
    obtain ⟨q, hq, rfl⟩ := List.mem_map.1 hp
    have h1 := hk q hq
    unfold updP
    split
    · rename_i hin
      have h2 := he q hq hin
      exact ⟨h1.1, hs.1, hs.2, by show 1 ≤ q.2.2 + 1; have := h1.2.2.2.1; omega, by show q.2.2 + 1 ≤ _; omega⟩
    · exact h1
  · rw [move_bad h hn]; exact hf
/-- P9.2, P9.3 in plain words -/
theorem move_own {L L' : List Pc} {fk tk k : List UInt8} {s a : Int} {p p' : Pc} (hf : FitP L) (h : MoveIs L fk tk s 0 a L') (hp : OwnIs L k p) (hp' : OwnIs L' k p') :
    if inR fk tk k = true then p'.2.1 = s ∧ p'.2.2 = p.2.2 + 1 ∧ p.2.2 < 1099511627776 else p'.2 = p.2 := by
  obtain ⟨r, hs, M1, M2, c1, c2, he, hlen, rfl⟩ := move_ok h
  obtain ⟨q, hq, rfl⟩ := upd_own hp'
  have hl1 := cut_lin hf.lin c1
  have hl2 := cut_lin hl1 c2
  obtain ⟨p1, hp1⟩ := own_ex hl1 k
  have e1 := (cut_own hf.lin c1 hp hp1).1
  have e2 := (cut_own hl1 c2 hp1 hq).1
  have e3 : q.2 = p.2 := e2.trans e1
  obtain ⟨x, hx, hxe⟩ := cut_begins c1
  have hx2 : x ∈ M2 := (cut_mem c2 x).2 (Or.inl hx)
  have hkey : inR fk tk q.1 = inR fk tk k := by
    cases hin : inR fk tk k with
    | true =>
      obtain ⟨h1, h2⟩ := inR_iff.1 hin
      refine inR_iff.2 ⟨?_, ?_⟩
      · have := own_max hl2.rise hq hx2 (by rw [hxe]; exact h1)
        rw [hxe] at this; exact this
      · rcases h2 with h2 | h2
        · exact Or.inl h2
        · exact Or.inr (kLe_lt (own_le hq) h2)
    | false =>
      cases hq2 : inR fk tk q.1 with
      | false => rfl
      | true =>
        obtain ⟨h1, h2⟩ := inR_iff.1 hq2
        have h3 : ¬ kLt k fk := kLe_trans h1 (own_le hq)
        rcases Decidable.em (tk = []) with h4 | h4
        · rw [inR_iff.2 ⟨h3, Or.inl h4⟩] at hin; cases hin
        · have h5 : ¬ kLt k tk := fun h5 => by rw [inR_iff.2 ⟨h3, Or.inr h5⟩] at hin; cases hin
          obtain ⟨y, hy, hye⟩ := cut_begins c2
          have h6 := own_max hl2.rise hq hy (by rw [hye]; exact h5)
          rw [hye] at h6
          rcases h2 with h2 | h2
          · exact absurd h2 h4
          · exact absurd h2 h6
  unfold updP
  rw [hkey]
  split
  · rename_i hin
    have h9 := he q (own_mem hq) (by rw [hkey]; exact hin)
    rw [e3] at h9
    exact ⟨rfl, by show q.2.2 + 1 = _; rw [e3], h9⟩
  · exact e3

/-- what One answers -/
def zeroP : Pc := ([], 0, 0)
def Alone (L : List Pc) (fk tk : List UInt8) : Prop := ∀ q ∈ L, kLt fk q.1 → ¬ (tk = [] ∨ kLt q.1 tk)
def OneIs (L : List Pc) (fk tk : List UInt8) (x : Pc) (is : Bool) : Prop := (is = true ∧ IsRange fk tk ∧ Alone L fk tk ∧ OwnIs L fk x) ∨ (is = false ∧ ¬ (IsRange fk tk ∧ Alone L fk tk) ∧ x = zeroP)
theorem one_one {L : List Pc} {fk tk : List UInt8} {x y : Pc} {a b : Bool} (h : OneIs L fk tk x a) (h' : OneIs L fk tk y b) : y = x ∧ b = a := by
  rcases h with ⟨rfl, h1, h2, h3⟩ | ⟨rfl, h1, rfl⟩ <;> rcases h' with ⟨rfl, g1, g2, g3⟩ | ⟨rfl, g1, rfl⟩
  · exact ⟨own_one g3 h3, rfl⟩
  · exact absurd ⟨h1, h2⟩ g1
  · exact absurd ⟨g1, g2⟩ h1
  · exact ⟨rfl, rfl⟩
/-- each key of a range that lies in one piece is in that piece -/
theorem one_own {L : List Pc} {fk tk k : List UInt8} {x p : Pc} (hl : Lin L) (h : OneIs L fk tk x true) (hk : inR fk tk k = true) (hp : OwnIs L k p) : p = x := by
  rcases h with ⟨_, h1, h2, h3⟩ | ⟨h, _⟩
  · obtain ⟨g1, g2⟩ := inR_iff.1 hk
    refine own_one hp ((own_iff hl.rise).2 ⟨own_mem h3, kLe_trans (own_le h3) g1, fun q hq hqk => ?_⟩)
    refine own_max hl.rise h3 hq fun hfq => ?_
    refine h2 q hq hfq ?_
    rcases g2 with g2 | g2
    · exact Or.inl g2
    · exact Or.inr (kLe_lt hqk g2)
  · cases h
/-- what Of answers: the error's number and its place -/
def OfIs (L : List Pc) (n : Int) (at' : Int) : Prop :=
  (L = [] ∧ n = 1 ∧ at' = 0) ∨ (L ≠ [] ∧ 32 < L.length ∧ n = 71 ∧ at' = L.length) ∨
  (L ≠ [] ∧ L.length ≤ 32 ∧ ∃ i : Nat, i < L.length ∧ FitTo L i ∧ ¬ MayAt L i ∧ n = 1 ∧ at' = i) ∨ (FitP L ∧ n = 0 ∧ at' = 0)
theorem of_one {L : List Pc} {n1 n2 a1 a2 : Int} (h1 : OfIs L n1 a1) (h2 : OfIs L n2 a2) : n2 = n1 ∧ a2 = a1 := by
  rcases h1 with ⟨rfl, rfl, rfl⟩ | ⟨c1, l1, rfl, rfl⟩ | ⟨c1, l1, i, i1, f1, m1, rfl, rfl⟩ | ⟨f1, rfl, rfl⟩
  · rcases h2 with ⟨_, rfl, rfl⟩ | ⟨c2, _⟩ | ⟨c2, _⟩ | ⟨f2, _⟩
    · exact ⟨rfl, rfl⟩
    · exact absurd rfl c2
    · exact absurd rfl c2
    · exact absurd rfl f2.one
  · rcases h2 with ⟨c2, _⟩ | ⟨_, _, rfl, rfl⟩ | ⟨_, l2, _⟩ | ⟨f2, _⟩
    · exact absurd c2 c1
    · exact ⟨rfl, rfl⟩
    · omega
    · have := f2.few; omega
  · rcases h2 with ⟨c2, _⟩ | ⟨_, l2, _⟩ | ⟨_, _, j, j1, g1, k1, rfl, rfl⟩ | ⟨f2, _⟩
    · exact absurd c2 c1
    · omega
    · rcases Nat.lt_trichotomy i j with c | c | c
      · exact absurd (g1 i c) m1
      · subst c; exact ⟨rfl, rfl⟩
      · exact absurd (f1 j c) k1
    · exact absurd (f2.may i i1) m1
  · rcases h2 with ⟨c2, _⟩ | ⟨_, l2, _⟩ | ⟨_, _, j, j1, g1, k1, _⟩ | ⟨_, rfl, rfl⟩
    · exact absurd c2 f1.one
    · have := f1.few; omega
    · exact absurd (f1.may j j1) k1
    · exact ⟨rfl, rfl⟩
theorem of_fit {L : List Pc} {n a : Int} (h : OfIs L n a) : (n = 0 ∧ FitP L) ∨ (n ≠ 0 ∧ ¬ FitP L) := by
  rcases h with ⟨rfl, rfl, _⟩ | ⟨c1, l1, rfl, _⟩ | ⟨c1, l1, i, i1, f1, m1, rfl, _⟩ | ⟨f1, rfl, _⟩
  · exact Or.inr ⟨by decide, fun h => h.one rfl⟩
  · exact Or.inr ⟨by decide, fun h => by have := h.few; omega⟩
  · exact Or.inr ⟨by decide, fun h => m1 (h.may i i1)⟩
  · exact Or.inl ⟨rfl, f1⟩
end Go.Proofs.YtafhmbgnldmedaaDoor
