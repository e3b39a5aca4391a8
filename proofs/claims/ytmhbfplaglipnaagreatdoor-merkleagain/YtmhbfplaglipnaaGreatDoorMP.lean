/-
  What is proved here: plain facts of a tree of digests: nothing else makes the same top; one top, one list; how many parts lie beside some leaves.
-/
import Derived.Test.YtmhbfplaglipnaaGreatDoorMD
namespace Go.Proofs.YtmhbfplaglipnaaGreatDoor
open Go.RowKit Go.Extern.Stop Go.Stop Go.Extern

theorem pw_half {n h : Nat} (h2 : 2 ≤ n) (hn : n ≤ 2 ^ (h + 1)) : pw n ≤ 2 ^ h ∧ n - pw n ≤ 2 ^ h := by
  have h1 : pw n ≤ 2 ^ h := by
    unfold pw
    apply Nat.pow_le_pow_right (by decide)
    have : n - 1 < 2 ^ (h + 1) := by omega
    have := (Nat.log2_lt (n := n - 1) (k := h + 1) (by omega)).2 this
    omega
  have := pw_twice n h2
  exact ⟨h1, by omega⟩
/-- do the n from lo on lie beside the m from F on? -/
def Out (F m lo n : Nat) : Prop := lo + n ≤ F ∨ F + m ≤ lo ∨ m = 0
def outDec (F m lo n : Nat) : Decidable (Out F m lo n) := inferInstanceAs (Decidable (_ ∨ _ ∨ _))
/-- how many parts of n leaves from lo on lie beside the m leaves from F on -/
def cnt (F m : Nat) : Nat → Nat → Nat → Nat
  | 0, _, _ => 0
  | f + 1, lo, n => @ite Nat (Out F m lo n) (outDec F m lo n) 1 (if n = 1 then 0 else cnt F m f lo (pw n) + cnt F m f (lo + pw n) (n - pw n))
theorem cnt_out {F m f lo n : Nat} (h : Out F m lo n) : cnt F m f lo n ≤ 1 := by
  cases f with
  | zero => simp [cnt]
  | succ f => unfold cnt; rw [if_pos h]; exact Nat.le_refl _
theorem cnt_in {F m f lo n : Nat} (hn : 1 ≤ n) (h1 : F ≤ lo) (h2 : lo + n ≤ F + m) : cnt F m f lo n = 0 := by
  induction f generalizing lo n with
  | zero => rfl
  | succ f ih =>
    unfold cnt
    rw [if_neg (by unfold Out; omega)]
    by_cases e : n = 1
    · rw [if_pos e]
    · have := pw_lt (n := n) (by omega)
      have := pw_pos n
      rw [if_neg e, ih (by omega) h1 (by omega), ih (by omega) (by omega) (by omega)]
theorem cnt_left {F m f lo n h : Nat} (hn : n ≤ 2 ^ h) (hn1 : 1 ≤ n) (h1 : F ≤ lo) (h2 : lo < F + m) : cnt F m f lo n ≤ h := by
  induction f generalizing lo n h with
  | zero => simp [cnt]
  | succ f ih =>
    unfold cnt
    rw [if_neg (by unfold Out; omega)]
    by_cases e : n = 1
    · rw [if_pos e]; exact Nat.zero_le _
    · rw [if_neg e]
      have p1 := pw_lt (n := n) (by omega)
      have p2 := pw_pos n
      cases h with
      | zero => simp at hn; omega
      | succ h =>
        obtain ⟨q1, q2⟩ := pw_half (by omega) hn
        by_cases hc : lo + pw n < F + m
        · have a := cnt_in (F := F) (m := m) (f := f) (lo := lo) p2 h1 (by omega)
          have b := ih q2 (by omega) (show F ≤ lo + pw n by omega) hc
          omega
        · have a := ih q1 p2 h1 h2
          have b := cnt_out (F := F) (m := m) (f := f) (lo := lo + pw n) (n := n - pw n) (by unfold Out; omega)
          omega
theorem cnt_right {F m f lo n h : Nat} (hn : n ≤ 2 ^ h) (hn1 : 1 ≤ n) (h1 : F < lo + n) (h2 : lo + n ≤ F + m) : cnt F m f lo n ≤ h := by
  induction f generalizing lo n h with
  | zero => simp [cnt]
  | succ f ih =>
    unfold cnt
    by_cases hm : m = 0
    · rw [if_pos (by unfold Out; omega)]; omega
    rw [if_neg (by unfold Out; omega)]
    by_cases e : n = 1
    · rw [if_pos e]; exact Nat.zero_le _
    · rw [if_neg e]
      have p1 := pw_lt (n := n) (by omega)
      have p2 := pw_pos n
      cases h with
      | zero => simp at hn; omega
      | succ h =>
        obtain ⟨q1, q2⟩ := pw_half (by omega) hn
        by_cases hc : F < lo + pw n
        · have a := ih (lo := lo) q1 p2 hc (by omega)
          have b := cnt_in (F := F) (m := m) (f := f) (lo := lo + pw n) (n := n - pw n) (by omega) (by omega) (by omega)
          omega
        · have a := cnt_out (F := F) (m := m) (f := f) (lo := lo) (n := pw n) (by unfold Out; omega)
          have b := ih (lo := lo + pw n) q2 (by omega) (by omega) (by omega)
          omega
/-- at most twice as many as n has halvings -/
theorem cnt_le {F m f lo n h : Nat} (hm : 1 ≤ m) (hn : n ≤ 2 ^ h) (hn1 : 1 ≤ n) (h1 : F < lo + n) (h2 : lo < F + m) : cnt F m f lo n ≤ 2 * h := by
  induction f generalizing lo n h with
  | zero => simp [cnt]
  | succ f ih =>
    unfold cnt
    rw [if_neg (by unfold Out; omega)]
    by_cases e : n = 1
    · rw [if_pos e]; exact Nat.zero_le _
    · rw [if_neg e]
      have p1 := pw_lt (n := n) (by omega)
      have p2 := pw_pos n
      cases h with
      | zero => simp at hn; omega
      | succ h =>
        obtain ⟨q1, q2⟩ := pw_half (by omega) hn
        by_cases hc1 : F < lo + pw n
        · by_cases hc2 : lo + pw n < F + m
          · have a := cnt_right (F := F) (m := m) (f := f) (lo := lo) q1 p2 hc1 (by omega)
            have b := cnt_left (F := F) (m := m) (f := f) (lo := lo + pw n) q2 (by omega) (by omega) hc2
            omega
          · have a := ih (lo := lo) q1 p2 hc1 h2
            have b := cnt_out (F := F) (m := m) (f := f) (lo := lo + pw n) (n := n - pw n) (by unfold Out; omega)
            omega
        · have a := cnt_out (F := F) (m := m) (f := f) (lo := lo) (n := pw n) (by unfold Out; omega)
          have b := ih (lo := lo + pw n) q2 (by omega) (by omega) (by omega)
          omega
/-- enough fuel is enough -/
theorem cnt_fuel {F m f f' lo n : Nat} (h1 : 1 ≤ n) (h : n ≤ f) (h' : n ≤ f') : cnt F m f lo n = cnt F m f' lo n := by
  induction f generalizing f' lo n with
  | zero => omega
  | succ f ih =>
    cases f' with
    | zero => omega
    | succ f' =>
      unfold cnt
      by_cases hc : Out F m lo n
      · rw [if_pos hc, if_pos hc]
      · rw [if_neg hc, if_neg hc]
        by_cases e : n = 1
        · rw [if_pos e, if_pos e]
        · rw [if_neg e, if_neg e]
          have := pw_lt (n := n) (by omega)
          have := pw_pos n
          rw [ih (f' := f') (by omega) (by omega) (by omega), ih (f' := f') (by omega) (by omega) (by omega)]
/-- the same, with fuel enough -/
def cntN (F m lo n : Nat) : Nat := cnt F m (n + 1) lo n
theorem cntN_out {F m lo n : Nat} (h : Out F m lo n) : cntN F m lo n = 1 := by
  unfold cntN cnt; rw [if_pos h]
theorem cntN_one {F m lo : Nat} (h : ¬ Out F m lo 1) : cntN F m lo 1 = 0 := by
  unfold cntN cnt; rw [if_neg h]; rfl
theorem cntN_step {F m lo n : Nat} (h : ¬ Out F m lo n) (h2 : 2 ≤ n) : cntN F m lo n = cntN F m lo (pw n) + cntN F m (lo + pw n) (n - pw n) := by
  have := pw_lt h2
  have := pw_pos n
  show cnt F m (n + 1) lo n = _
  unfold cnt
  rw [if_neg h, if_neg (show ¬ n = 1 by omega)]
  unfold cntN
  rw [cnt_fuel (n := pw n) (f := n) (f' := pw n + 1) (by omega) (by omega) (by omega), cnt_fuel (n := n - pw n) (f := n) (f' := n - pw n + 1) (by omega) (by omega) (by omega)]

/-- i is the place of the text t among the texts T -/
def Dig (T : List (List UInt8)) (t : List UInt8) (i : Int) : Prop := 0 ≤ i ∧ T[i.toNat]? = some t
theorem Dig.one {T : List (List UInt8)} {t t' : List UInt8} {i : Int} (h : Dig T t i) (h' : Dig T t' i) : t = t' := by
  have := h.2.symm.trans h'.2
  exact Option.some.inj this
/-- T' has what T has, where it was, and maybe more -/
def Exts (T T' : List (List UInt8)) : Prop := ∀ (d : Nat) s, T[d]? = some s → T'[d]? = some s
theorem Exts.refl (T : List (List UInt8)) : Exts T T := fun _ _ h => h
theorem Exts.trans {T T' T'' : List (List UInt8)} (h : Exts T T') (h' : Exts T' T'') : Exts T T'' := fun d s e => h' d s (h d s e)
theorem Dig.more {T T' : List (List UInt8)} {t : List UInt8} {i : Int} (h : Dig T t i) (r : Exts T T') : Dig T' t i := ⟨h.1, r _ _ h.2⟩
theorem Dig.nat {T : List (List UInt8)} {t : List UInt8} {d : Nat} (h : T[d]? = some t) : Dig T t (d : Int) := ⟨by omega, h⟩

/-- x is the digest of the top of l -/
def TopIs (T : List (List UInt8)) : Nat → List Ent → Int → Prop
  | 0, _, _ => False
  | f + 1, l, x => (l = [] ∧ Dig T noneT x) ∨ (∃ e, l = [e] ∧ okE e ∧ Dig T (leafT e) x) ∨
    (2 ≤ l.length ∧ ∃ a b, TopIs T f (l.take (pw l.length)) a ∧ TopIs T f (l.drop (pw l.length)) b ∧ fits a ∧ fits b ∧ Dig T (nodeT a b) x)
theorem TopIs.more {T T' : List (List UInt8)} {f : Nat} {l : List Ent} {x : Int} (h : TopIs T f l x) (r : Exts T T') : TopIs T' f l x := by
  induction f generalizing l x with
  | zero => exact h
  | succ f ih =>
    rcases h with ⟨e, h⟩ | ⟨e, h0, h1, h⟩ | ⟨h0, a, b, h1, h2, h3, h4, h5⟩
    · exact Or.inl ⟨e, h.more r⟩
    · exact Or.inr (Or.inl ⟨e, h0, h1, h.more r⟩)
    · exact Or.inr (Or.inr ⟨h0, a, b, ih h1, ih h2, h3, h4, h5.more r⟩)
theorem TopIs.fuel {T : List (List UInt8)} {f f' : Nat} {l : List Ent} {x : Int} (h : TopIs T f l x) (hf : f ≤ f') : TopIs T f' l x := by
  induction f generalizing f' l x with
  | zero => exact absurd h (by unfold TopIs; exact id)
  | succ f ih =>
    cases f' with
    | zero => omega
    | succ f' =>
      rcases h with ⟨e, h⟩ | ⟨e, h0, h1, h⟩ | ⟨h0, a, b, h1, h2, h3, h4, h5⟩
      · exact Or.inl ⟨e, h⟩
      · exact Or.inr (Or.inl ⟨e, h0, h1, h⟩)
      · exact Or.inr (Or.inr ⟨h0, a, b, ih h1 (by omega), ih h2 (by omega), h3, h4, h5⟩)
/-- x is what a proof makes of the part of n leaves from lo on: those of L from F on, the tops of Bs beside; Bs' is left -/
def MadeIs (T : List (List UInt8)) (F : Nat) (L : List Ent) : Nat → Nat → Nat → List Int → Int → List Int → Prop
  | 0, _, _, _, _, _ => False
  | f + 1, lo, n, Bs, x, Bs' =>
    (Out F L.length lo n ∧ Bs = x :: Bs') ∨ (¬ Out F L.length lo n ∧ n = 1 ∧ Bs' = Bs ∧ ∃ e, L[lo - F]? = some e ∧ okE e ∧ Dig T (leafT e) x) ∨
    (¬ Out F L.length lo n ∧ 2 ≤ n ∧ ∃ a b Bs1, MadeIs T F L f lo (pw n) Bs a Bs1 ∧ MadeIs T F L f (lo + pw n) (n - pw n) Bs1 b Bs' ∧ fits a ∧ fits b ∧ Dig T (nodeT a b) x)
theorem MadeIs.more {T T' : List (List UInt8)} {F : Nat} {L : List Ent} {f lo n : Nat} {Bs Bs' : List Int} {x : Int} (h : MadeIs T F L f lo n Bs x Bs') (r : Exts T T') : MadeIs T' F L f lo n Bs x Bs' := by
  induction f generalizing lo n Bs Bs' x with
  | zero => exact h
  | succ f ih =>
    rcases h with h | ⟨h1, h2, h3, e, h4, h5, h6⟩ | ⟨h0, h1, a, b, Bs1, h2, h3, h4, h5, h6⟩
    · exact Or.inl h
    · exact Or.inr (Or.inl ⟨h1, h2, h3, e, h4, h5, h6.more r⟩)
    · exact Or.inr (Or.inr ⟨h0, h1, a, b, Bs1, ih h2, ih h3, h4, h5, h6.more r⟩)
theorem MadeIs.fuel {T : List (List UInt8)} {F : Nat} {L : List Ent} {f f' lo n : Nat} {Bs Bs' : List Int} {x : Int} (h : MadeIs T F L f lo n Bs x Bs') (hf : f ≤ f') : MadeIs T F L f' lo n Bs x Bs' := by
  induction f generalizing f' lo n Bs Bs' x with
  | zero => exact absurd h (by unfold MadeIs; exact id)
  | succ f ih =>
    cases f' with
    | zero => omega
    | succ f' =>
      rcases h with h | h | ⟨h0, h1, a, b, Bs1, h2, h3, h4, h5, h6⟩
      · exact Or.inl h
      · exact Or.inr (Or.inl h)
      · exact Or.inr (Or.inr ⟨h0, h1, a, b, Bs1, ih h2 (by omega), ih h3 (by omega), h4, h5, h6⟩)
/-- nothing else: what makes the same top has the same leaves -/
theorem nothing_else {T : List (List UInt8)} {F : Nat} {L : List Ent} {f f' lo : Nat} {l : List Ent} {x : Int} {Bs Bs' : List Int} (h1 : TopIs T f' l x) (h2 : MadeIs T F L f lo l.length Bs x Bs') :
    ∀ j, lo ≤ j → j < lo + l.length → F ≤ j → j < F + L.length → l[j - lo]? = L[j - F]? := by
  induction f generalizing f' lo l x Bs Bs' with
  | zero => exact absurd h2 (by unfold MadeIs; exact id)
  | succ f ih =>
    intro j j1 j2 j3 j4
    rcases h2 with ⟨ho, _⟩ | ⟨_, hn1, _, e, he, hok, hd⟩ | ⟨_, hn2, a, b, Bs1, m1, m2, fa, fb, hd⟩
    · unfold Out at ho; omega
    · match l, hn1 with
      | [y], _ =>
        cases f' with
        | zero => exact absurd h1 (by unfold TopIs; exact id)
        | succ f' =>
          rcases h1 with ⟨e, _⟩ | ⟨e', h0, h1, h⟩ | ⟨h0, _⟩
          · cases e
          · cases h0
            have := leafT_inj h1 hok (Dig.one h hd)
            subst this
            have ej : j = lo := by simp at j2; omega
            subst ej
            rw [Nat.sub_self, he]; rfl
          · simp at h0
    · cases f' with
      | zero => exact absurd h1 (by unfold TopIs; exact id)
      | succ f' =>
        rcases h1 with ⟨e, _⟩ | ⟨e', h0, _⟩ | ⟨_, a', b', t1, t2, fa', fb', hd'⟩
        · subst e; simp at hn2
        · subst h0; simp at hn2
        · obtain ⟨ea, eb⟩ := nodeT_inj ⟨fa', fb'⟩ ⟨fa, fb⟩ (Dig.one hd' hd)
          subst ea eb
          have p1 := pw_lt hn2
          have l1 : (l.take (pw l.length)).length = pw l.length := by rw [List.length_take]; omega
          have l2 : (l.drop (pw l.length)).length = l.length - pw l.length := by rw [List.length_drop]
          by_cases hj : j < lo + pw l.length
          · have := ih t1 (by rw [l1]; exact m1) j j1 (by rw [l1]; exact hj) j3 j4
            rw [← this, List.getElem?_take_of_lt (by omega)]
          · have := ih t2 (by rw [l2]; exact m2) j (by omega) (by rw [l2]; omega) j3 j4
            rw [← this, List.getElem?_drop]
            congr 1; omega
/-- one top, one list: of as many leaves -/
theorem top_same {T : List (List UInt8)} {f f' : Nat} {l l' : List Ent} {x : Int} (h1 : TopIs T f l x) (h2 : TopIs T f' l' x) (hlen : l.length = l'.length) : l = l' := by
  induction f generalizing f' l l' x with
  | zero => exact absurd h1 (by unfold TopIs; exact id)
  | succ f ih =>
    cases f' with
    | zero => exact absurd h2 (by unfold TopIs; exact id)
    | succ f' =>
      rcases h1 with ⟨rfl, _⟩ | ⟨e, rfl, ho, hd⟩ | ⟨hn, x1, y1, p1, q1, fx, fy, d1⟩
      · exact (List.eq_nil_of_length_eq_zero (by rw [← hlen]; rfl)).symm
      · rcases h2 with ⟨rfl, _⟩ | ⟨e', rfl, ho', hd'⟩ | ⟨hn, _⟩
        · simp at hlen
        · rw [leafT_inj ho ho' (Dig.one hd hd')]
        · simp at hlen; omega
      · rcases h2 with ⟨rfl, _⟩ | ⟨e', rfl, _⟩ | ⟨_, x2, y2, p2, q2, fx2, fy2, d2⟩
        · simp at hlen; omega
        · simp at hlen; omega
        · obtain ⟨e1, e2⟩ := nodeT_inj ⟨fx, fy⟩ ⟨fx2, fy2⟩ (Dig.one d1 d2)
          subst e1 e2
          rw [← hlen] at p2 q2
          have r1 := ih p1 p2 (by rw [List.length_take, List.length_take, hlen])
          have r2 := ih q1 q2 (by rw [List.length_drop, List.length_drop, hlen])
          rw [← List.take_append_drop (pw l.length) l, r1, r2, List.take_append_drop]
/-- no text stands twice -/
def Once (T : List (List UInt8)) : Prop := ∀ t (i j : Nat), T[i]? = some t → T[j]? = some t → i = j
theorem Once.dig {T : List (List UInt8)} (h : Once T) {t : List UInt8} {i j : Int} (h1 : Dig T t i) (h2 : Dig T t j) : i = j := by
  have := h t _ _ h1.2 h2.2
  have := h1.1
  have := h2.1
  omega
/-- one list, one top, where no text stands twice -/
theorem top_fun {T : List (List UInt8)} (hT : Once T) {f f' : Nat} {l : List Ent} {x x' : Int} (h1 : TopIs T f l x) (h2 : TopIs T f' l x') : x = x' := by
  induction f generalizing f' l x x' with
  | zero => exact absurd h1 (by unfold TopIs; exact id)
  | succ f ih =>
    cases f' with
    | zero => exact absurd h2 (by unfold TopIs; exact id)
    | succ f' =>
      rcases h1 with ⟨rfl, hd⟩ | ⟨e, rfl, ho, hd⟩ | ⟨hn, x1, y1, p1, q1, fx, fy, d1⟩
      · rcases h2 with ⟨_, hd'⟩ | ⟨e', h0, _⟩ | ⟨hn, _⟩
        · exact hT.dig hd hd'
        · cases h0
        · simp at hn
      · rcases h2 with ⟨h0, _⟩ | ⟨e', h0, ho', hd'⟩ | ⟨hn, _⟩
        · cases h0
        · cases h0; exact hT.dig hd hd'
        · simp at hn
      · rcases h2 with ⟨rfl, _⟩ | ⟨e', rfl, _⟩ | ⟨_, x2, y2, p2, q2, fx2, fy2, d2⟩
        · simp at hn
        · simp at hn
        · have e1 := ih p1 p2
          have e2 := ih q1 q2
          subst e1 e2
          exact hT.dig d1 d2
/-- one proof, one root made, where no text stands twice -/
theorem made_fun {T : List (List UInt8)} (hT : Once T) {F : Nat} {L : List Ent} {f f' lo n : Nat} {Bs Bs1 Bs2 : List Int} {x x' : Int} (h1 : MadeIs T F L f lo n Bs x Bs1) (h2 : MadeIs T F L f' lo n Bs x' Bs2) : x = x' ∧ Bs1 = Bs2 := by
  induction f generalizing f' lo n Bs Bs1 Bs2 x x' with
  | zero => exact absurd h1 (by unfold MadeIs; exact id)
  | succ f ih =>
    cases f' with
    | zero => exact absurd h2 (by unfold MadeIs; exact id)
    | succ f' =>
      rcases h1 with ⟨ho, h1⟩ | ⟨hno, hn, h1, e, he, hok, hd⟩ | ⟨hno, hn, a, b, B1, p1, q1, fa, fb, hd⟩
      · rcases h2 with ⟨_, h2⟩ | ⟨hno, _⟩ | ⟨hno, _⟩
        · rw [h1] at h2; cases h2; exact ⟨rfl, rfl⟩
        · exact absurd ho hno
        · exact absurd ho hno
      · rcases h2 with ⟨ho, _⟩ | ⟨_, _, h2, e', he', hok', hd'⟩ | ⟨_, hn2, _⟩
        · exact absurd ho hno
        · rw [he] at he'; cases he'
          exact ⟨hT.dig hd hd', by rw [h1, h2]⟩
        · omega
      · rcases h2 with ⟨ho, _⟩ | ⟨_, hn1, _⟩ | ⟨_, _, a', b', B1', p2, q2, fa', fb', hd'⟩
        · exact absurd ho hno
        · omega
        · obtain ⟨rfl, rfl⟩ := ih p1 p2
          obtain ⟨rfl, rfl⟩ := ih q1 q2
          exact ⟨hT.dig hd hd', rfl⟩
/-- Bs are the tops beside the m leaves from F on, of the part l from lo on; Bs' stand behind them -/
def ProvIs (T : List (List UInt8)) (F m : Nat) : Nat → Nat → List Ent → List Int → List Int → Prop
  | 0, _, _, _, _ => False
  | f + 1, lo, l, Bs, Bs' =>
    (Out F m lo l.length ∧ ∃ f' x, TopIs T f' l x ∧ Bs = x :: Bs') ∨ (¬ Out F m lo l.length ∧ l.length = 1 ∧ Bs' = Bs) ∨
    (¬ Out F m lo l.length ∧ 2 ≤ l.length ∧ ∃ Bs1, ProvIs T F m f lo (l.take (pw l.length)) Bs Bs1 ∧ ProvIs T F m f (lo + pw l.length) (l.drop (pw l.length)) Bs1 Bs')
theorem ProvIs.more {T T' : List (List UInt8)} {F m f lo : Nat} {l : List Ent} {Bs Bs' : List Int} (h : ProvIs T F m f lo l Bs Bs') (r : Exts T T') : ProvIs T' F m f lo l Bs Bs' := by
  induction f generalizing lo l Bs Bs' with
  | zero => exact h
  | succ f ih =>
    rcases h with ⟨h1, f', x, h2, h3⟩ | h | ⟨h0, h1, Bs1, h2, h3⟩
    · exact Or.inl ⟨h1, f', x, h2.more r, h3⟩
    · exact Or.inr (Or.inl h)
    · exact Or.inr (Or.inr ⟨h0, h1, Bs1, ih h2, ih h3⟩)
theorem ProvIs.fuel {T : List (List UInt8)} {F m f f' lo : Nat} {l : List Ent} {Bs Bs' : List Int} (h : ProvIs T F m f lo l Bs Bs') (hf : f ≤ f') : ProvIs T F m f' lo l Bs Bs' := by
  induction f generalizing f' lo l Bs Bs' with
  | zero => exact absurd h (by unfold ProvIs; exact id)
  | succ f ih =>
    cases f' with
    | zero => omega
    | succ f' =>
      rcases h with h | h | ⟨h0, h1, Bs1, h2, h3⟩
      · exact Or.inl h
      · exact Or.inr (Or.inl h)
      · exact Or.inr (Or.inr ⟨h0, h1, Bs1, ih h2 (by omega), ih h3 (by omega)⟩)
/-- what stands behind may be anything -/
theorem ProvIs.behind {T : List (List UInt8)} {F m f lo : Nat} {l : List Ent} {Bs Bs' : List Int} (h : ProvIs T F m f lo l Bs Bs') (r : List Int) : ProvIs T F m f lo l (Bs ++ r) (Bs' ++ r) := by
  induction f generalizing lo l Bs Bs' with
  | zero => exact h
  | succ f ih =>
    rcases h with ⟨h1, f', x, h2, h3⟩ | ⟨h1, h2, h3⟩ | ⟨h0, h1, Bs1, h2, h3⟩
    · exact Or.inl ⟨h1, f', x, h2, by rw [h3]; rfl⟩
    · exact Or.inr (Or.inl ⟨h1, h2, by rw [h3]⟩)
    · exact Or.inr (Or.inr ⟨h0, h1, Bs1 ++ r, ih h2, ih h3⟩)
/-- what is made is taken -/
theorem made_taken {T : List (List UInt8)} (hT : Once T) {F : Nat} {L : List Ent} {f f' lo : Nat} {l : List Ent} {x : Int} {Bs Bs' : List Int}
    (hL : ∀ j, lo ≤ j → j < lo + l.length → F ≤ j → j < F + L.length → l[j - lo]? = L[j - F]?)
    (h1 : TopIs T f' l x) (h2 : ProvIs T F L.length f lo l Bs Bs') : MadeIs T F L f lo l.length Bs x Bs' := by
  induction f generalizing f' lo l x Bs Bs' with
  | zero => exact absurd h2 (by unfold ProvIs; exact id)
  | succ f ih =>
    rcases h2 with ⟨hc, f2, y, ht, rfl⟩ | ⟨hc, hn1, h2⟩ | ⟨hc, h2', Bs1, p1, p2⟩
    · exact Or.inl ⟨hc, by rw [top_fun hT h1 ht]⟩
    · refine Or.inr (Or.inl ⟨hc, hn1, h2, ?_⟩)
      match l, hn1 with
      | [e], _ =>
        cases f' with
        | zero => exact absurd h1 (by unfold TopIs; exact id)
        | succ f' =>
          have := hL lo (Nat.le_refl _) (by simp) (by unfold Out at hc; simp at hc; omega) (by unfold Out at hc; simp at hc; omega)
          rw [Nat.sub_self] at this
          rcases h1 with ⟨e, _⟩ | ⟨e', h0, ho, hd⟩ | ⟨hn, _⟩
          · cases e
          · cases h0; exact ⟨e, this.symm, ho, hd⟩
          · simp at hn
    · have w1 := pw_lt h2'
      have w2 := pw_pos l.length
      have l1 : (l.take (pw l.length)).length = pw l.length := by rw [List.length_take]; omega
      have l2 : (l.drop (pw l.length)).length = l.length - pw l.length := by rw [List.length_drop]
      cases f' with
      | zero => exact absurd h1 (by unfold TopIs; exact id)
      | succ f' =>
        rcases h1 with ⟨e, _⟩ | ⟨e', h0, _⟩ | ⟨_, a, b, t1, t2, fa, fb, hd⟩
        · subst e; simp at h2'
        · subst h0; simp at h2'
        · have r1 := ih (lo := lo) (l := l.take (pw l.length)) (fun j j1 j2 j3 j4 => by
            rw [l1] at j2
            rw [List.getElem?_take_of_lt (by omega)]
            exact hL j j1 (by omega) j3 j4) t1 p1
          have r2 := ih (lo := lo + pw l.length) (l := l.drop (pw l.length)) (fun j j1 j2 j3 j4 => by
            rw [l2] at j2
            rw [List.getElem?_drop, ← hL j (by omega) (by omega) j3 j4]
            congr 1; omega) t2 p2
          rw [l1] at r1
          rw [l2] at r2
          exact Or.inr (Or.inr ⟨hc, h2', a, b, Bs1, r1, r2, fa, fb, hd⟩)
/-- what Prove lays beside is as many as lie beside -/
theorem prov_cnt {T : List (List UInt8)} {F m f lo : Nat} {l : List Ent} {Bs Bs' : List Int} (h : ProvIs T F m f lo l Bs Bs') : Bs.length = cntN F m lo l.length + Bs'.length := by
  induction f generalizing lo l Bs Bs' with
  | zero => exact absurd h (by unfold ProvIs; exact id)
  | succ f ih =>
    rcases h with ⟨h1, f', x, h2, h3⟩ | ⟨h1, h2, h3⟩ | ⟨h0, h1, Bs1, h2, h3⟩
    · rw [cntN_out h1, h3]; simp; omega
    · rw [h2] at h1 ⊢; rw [cntN_one h1, h3]; simp
    · have w1 := pw_lt h1
      have l1 : (l.take (pw l.length)).length = pw l.length := by rw [List.length_take]; omega
      have l2 : (l.drop (pw l.length)).length = l.length - pw l.length := by rw [List.length_drop]
      have a := ih h2
      have b := ih h3
      rw [l1] at a
      rw [l2] at b
      rw [cntN_step h0 h1]; omega
end Go.Proofs.YtmhbfplaglipnaaGreatDoor
