/-
  What is proved here: plain facts of what a store has, of puts one behind the other, and whether a transaction fits; over this program.
-/
import Derived.Test.YtohlepbfjgehgaaGreatDoorTC
import Derived.Test.YtohlepbfjgehgaaGreatDoorLSPuts
namespace Go.Proofs.YtohlepbfjgehgaaGreatDoor
open Go.RowKit Go.Extern.Stop Go.Stop Go.Extern

/-- what entries have of a key -/
def got (l : List Ent) (k : List UInt8) : Ent × Bool := match l.find? (fun e => e.1 == k) with | some e => (e, true) | none => (zeroE, false)
theorem got_is (l : List Ent) (k : List UInt8) : GetIs l k (got l k).1 (got l k).2 := by
  unfold got
  cases h : l.find? (fun e => e.1 == k) with
  | some e =>
    have hk : e.1 = k := by simpa using List.find?_some h
    obtain ⟨i, hi⟩ := List.getElem?_of_mem (List.mem_of_find?_eq_some h)
    exact Or.inl ⟨rfl, hk, i, hi⟩
  | none =>
    refine Or.inr ⟨rfl, rfl, fun i e he => ?_⟩
    have := List.find?_eq_none.1 h e (List.mem_of_getElem? he)
    simpa using this
theorem got_of {l : List Ent} {k : List UInt8} {x : Ent} {is : Bool} (hr : Rising l) (h : GetIs l k x is) : got l k = (x, is) := by
  obtain ⟨h1, h2⟩ := GetIs.one hr h (got_is l k)
  rw [← h1, ← h2]
theorem got_mem {l : List Ent} (hr : Rising l) {e : Ent} : e ∈ l ↔ got l e.1 = (e, true) := by
  constructor
  · intro h
    obtain ⟨i, hi⟩ := List.getElem?_of_mem h
    exact got_of hr (Or.inl ⟨rfl, rfl, i, hi⟩)
  · intro h
    have := got_is l e.1
    rw [h] at this
    rcases this with ⟨_, _, i, hi⟩ | ⟨h, _⟩
    · exact List.mem_of_getElem? hi
    · cases h
theorem got_key {l : List Ent} {k : List UInt8} {e : Ent} (h : got l k = (e, true)) : e.1 = k ∧ e ∈ l := by
  have := got_is l k
  rw [h] at this
  rcases this with ⟨_, h1, i, hi⟩ | ⟨h, _⟩
  · exact ⟨h1, List.mem_of_getElem? hi⟩
  · cases h
theorem got_no {l : List Ent} {k : List UInt8} (h : (got l k).2 = false) : got l k = (zeroE, false) ∧ ∀ e ∈ l, e.1 ≠ k := by
  have := got_is l k
  rw [h] at this
  rcases this with ⟨h, _⟩ | ⟨_, h1, h2⟩
  · cases h
  · exact ⟨Prod.ext h1 h, fun e he => by obtain ⟨i, hi⟩ := List.getElem?_of_mem he; exact h2 i e hi⟩
theorem Rising.pair {l : List Ent} (h : Rising l) : l.Pairwise fun a b => kLt a.1 b.1 :=
  List.pairwise_iff_getElem.2 fun i j hi hj hij => h i j _ _ hij (by simp [hi]) (by simp [hj])
theorem got_ext {a b : List Ent} (ha : Rising a) (hb : Rising b) (h : ∀ k, got a k = got b k) : a = b :=
  rise_ext (fun a => kLt_irrefl a.1) (fun a b => kLt_asymm) ha.pair hb.pair fun e => by rw [got_mem ha, got_mem hb, h]

/-- a put that is done -/
def PutOk (l : List Ent) (key val : List UInt8) (l' : List Ent) : Prop := ∃ (w : World) (B : Nat), PutIs l key val w B .nilIface l'
theorem putOk_of {l l' : List Ent} {key val : List UInt8} {w : World} {B : Nat} (h : PutIs l key val w B .nilIface l') : PutOk l key val l' := ⟨w, B, h⟩
theorem putOk_got {l l' : List Ent} {key val : List UInt8} (hf : Fit l) (h : PutOk l key val l') :
    Fit l' ∧ got l' key = ((key, val, (got l key).1.2.2 + 1), true) ∧ (∀ oth, oth ≠ key → got l' oth = got l oth) ∧ l'.length = l.length + (if (got l key).2 = true then 0 else 1) := by
  obtain ⟨w, B, h⟩ := h
  obtain ⟨h1, h2, _, h4⟩ := put_got hf (got_is l key) h
  refine ⟨h1, got_of h1.rising h2, fun oth ho => got_of h1.rising (put_kept ho (got_is l oth) h), ?_⟩
  rw [h4]
  split <;> rfl
/-- puts, one behind the other, all done -/
def Wrote : List Ent → List Wr → List Ent → Prop
  | l, [], l' => l' = l
  | l, x :: r, l' => ∃ l1, PutOk l x.1 x.2 l1 ∧ Wrote l1 r l'
theorem Wrote.snoc {l l1 l2 : List Ent} {xs : List Wr} {x : Wr} (h : Wrote l xs l1) (hp : PutOk l1 x.1 x.2 l2) : Wrote l (xs ++ [x]) l2 := by
  induction xs generalizing l with
  | nil => have h : l1 = l := h; subst h; exact ⟨l2, hp, rfl⟩
  | cons y r ih =>
    obtain ⟨m, h1, h2⟩ := h
    exact ⟨m, h1, ih h2⟩
/-- keys that are all unlike -/
def Unlike (xs : List Wr) : Prop := xs.Pairwise fun a b => a.1 ≠ b.1
theorem Wrote.got {l l' : List Ent} {xs : List Wr} (hf : Fit l) (hu : Unlike xs) (h : Wrote l xs l') :
    Fit l' ∧ (∀ x ∈ xs, got l' x.1 = ((x.1, x.2, (got l x.1).1.2.2 + 1), true)) ∧ (∀ k, (∀ x ∈ xs, x.1 ≠ k) → got l' k = got l k) ∧ l'.length = l.length + (xs.filter fun x => !(got l x.1).2).length := by
  induction xs generalizing l with
  | nil =>
    have h : l' = l := h
    subst h
    exact ⟨hf, fun x hx => (nomatch hx), fun k _ => rfl, by simp⟩
  | cons y r ih =>
    obtain ⟨m, h1, h2⟩ := h
    obtain ⟨u1, u2⟩ := List.pairwise_cons.1 hu
    obtain ⟨p1, p2, p3, p4⟩ := putOk_got hf h1
    obtain ⟨q1, q2, q3, q4⟩ := ih p1 u2 h2
    refine ⟨q1, fun x hx => ?_, fun k hk => ?_, ?_⟩
    · rcases List.mem_cons.1 hx with rfl | hx
      · rw [q3 _ (fun z hz => (u1 z hz).symm), p2]
      · rw [q2 x hx, p3 _ (fun e => u1 x hx e.symm)]
    · rw [q3 k (fun x hx => hk x (List.mem_cons_of_mem _ hx)), p3 k (fun e => hk y (by simp) e.symm)]
    · rw [q4, p4]
      have he : (r.filter fun x => !(Go.Proofs.YtohlepbfjgehgaaGreatDoor.got m x.1).2) = r.filter fun x => !(Go.Proofs.YtohlepbfjgehgaaGreatDoor.got l x.1).2 := List.filter_congr fun x hx => by rw [p3 _ (fun e => u1 x hx e.symm)]
      rw [he, List.filter_cons]
      cases (Go.Proofs.YtohlepbfjgehgaaGreatDoor.got l y.1).2 <;> simp <;> omega

/-- why a put is refused -/
def PutFails (l : List Ent) (x : Wr) : Prop := longB x.1 x.2 = true ∨ 4611686018427387904 ≤ (got l x.1).1.2.2 ∨ (128 ≤ l.length ∧ (got l x.1).2 = false)
theorem put_fails {l l' : List Ent} {x : Wr} {w : World} {B : Nat} {ty : TypeId} {y : Value} (hr : Rising l) (h : PutIs l x.1 x.2 w B (.iface ty y) l') : l' = l ∧ PutFails l x := by
  rcases h with ⟨n, _, e, ⟨_, h | ⟨i, o, h1, h2, h3⟩⟩ | ⟨_, h1, h2, h3⟩⟩ | ⟨h, _⟩
  · exact ⟨e, Or.inl h⟩
  · refine ⟨e, Or.inr (Or.inl ?_)⟩
    rw [got_of hr (Or.inl ⟨rfl, h2, i, h1⟩)]
    exact h3
  · refine ⟨e, Or.inr (Or.inr ⟨h2, ?_⟩)⟩
    rw [got_of hr (Or.inr ⟨rfl, rfl, h3⟩)]
  · cases h
/-- what Apply comes to -/
def AppIs (l : List Ent) (xs : List Wr) (er : Value) (l' : List Ent) : Prop :=
  (er = .nilIface ∧ Wrote l xs l') ∨ ((∃ ty y, er = .iface ty y) ∧ ∃ (j : Nat) (x : Wr), xs[j]? = some x ∧ Wrote l (xs.take j) l' ∧ PutFails l' x)
theorem Wrote.fit {l l' : List Ent} {xs : List Wr} (hf : Fit l) (h : Wrote l xs l') : Fit l' := by
  induction xs generalizing l with
  | nil => have h : l' = l := h; subst h; exact hf
  | cons y r ih =>
    obtain ⟨m, h1, h2⟩ := h
    exact ih (putOk_got hf h1).1 h2
theorem AppIs.fit {l l' : List Ent} {xs : List Wr} {er : Value} (hf : Fit l) (h : AppIs l xs er l') : Fit l' := by
  rcases h with ⟨_, h⟩ | ⟨_, j, x, _, h, _⟩ <;> exact h.fit hf
theorem AppIs.nil {l l' : List Ent} {xs : List Wr} {er : Value} (h : AppIs l xs er l') : (er = .nilIface ∧ Wrote l xs l') ∨ ∃ ty y, er = .iface ty y := by
  rcases h with h | ⟨h, _⟩
  · exact Or.inl h
  · exact Or.inr h
/-- what is short enough, of no last version, and has room, is put without an error -/
theorem app_ok {l l' : List Ent} {xs : List Wr} {er : Value} (hf : Fit l) (hu : Unlike xs) (hs : ∀ x ∈ xs, longB x.1 x.2 = false) (hv : ∀ e ∈ l, e.2.2 < 4611686018427387904)
    (hroom : ((xs.filter fun x => !(got l x.1).2).length : Int) ≤ 128 - (l.length : Int)) (h : AppIs l xs er l') : er = .nilIface ∧ Wrote l xs l' := by
  rcases h with h | ⟨_, j, x, hx, hw, hp⟩
  · exact h
  · exfalso
    have hxm := List.mem_of_getElem? hx
    have hut : Unlike (xs.take j) := List.Pairwise.sublist (List.take_sublist _ _) hu
    obtain ⟨g1, g2, g3, g4⟩ := hw.got hf hut
    obtain ⟨hjl, hje⟩ := List.getElem?_eq_some_iff.1 hx
    have hun : ∀ z ∈ xs.take j, z.1 ≠ x.1 := fun z hz e => by
      obtain ⟨i, hi, hzi⟩ := List.mem_iff_getElem.1 hz
      have hij : i < j := by simp at hi; omega
      have := (List.pairwise_iff_getElem.1 hu) i j (by omega) hjl hij
      rw [List.getElem_take] at hzi
      rw [hzi, hje] at this
      exact this e
    have hgx := g3 x.1 hun
    rcases hp with h1 | h1 | ⟨h1, h2⟩
    · rw [hs x hxm] at h1; cases h1
    · rw [hgx] at h1
      have hg := got_is l x.1
      rcases hg with ⟨_, _, i, hi⟩ | ⟨_, h0, _⟩
      · have := hv _ (List.mem_of_getElem? hi); omega
      · rw [h0] at h1; simp [zeroE] at h1
    · rw [hgx] at h2
      have hsp : xs = xs.take j ++ x :: xs.drop (j + 1) := by
        rw [← hje, List.getElem_cons_drop, List.take_append_drop]
      have hc : (xs.filter fun x => !(Go.Proofs.YtohlepbfjgehgaaGreatDoor.got l x.1).2).length = ((xs.take j).filter fun x => !(Go.Proofs.YtohlepbfjgehgaaGreatDoor.got l x.1).2).length + (1 + ((xs.drop (j + 1)).filter fun x => !(Go.Proofs.YtohlepbfjgehgaaGreatDoor.got l x.1).2).length) := by
        conv => lhs; rw [hsp]
        rw [List.filter_append, List.length_append, List.filter_cons, if_pos (by simp [h2]), List.length_cons]
        omega
      omega

/-- are the versions as they must be? -/
def readsB (l : List Ent) (xs : List Rd) : Bool := xs.all fun x => (got l x.1).1.2.2 == x.2
def newN (l : List Ent) (xs : List Wr) : Nat := (xs.filter fun x => !(got l x.1).2).length
theorem newN_take {l : List Ent} {xs : List Wr} {k : Nat} {x : Wr} (h : xs[k]? = some x) : newN l (xs.take (k + 1)) = newN l (xs.take k) + if (got l x.1).2 = true then 0 else 1 := by
  unfold newN
  rw [filter_take _ h, List.length_append]
  cases (got l x.1).2 <;> simp
def fitsB (l : List Ent) (rs : List Rd) (ws : List Wr) (T : List (List UInt8)) : Bool := readsB l (rdChosen rs T) && decide ((newN l (wrChosen ws T) : Int) ≤ 128 - (l.length : Int))
theorem readsB_no {l : List Ent} {xs : List Rd} {x : Rd} {k : Nat} (hx : xs[k]? = some x) (h : ((got l x.1).1.2.2 == x.2) = false) : readsB l xs = false := by
  unfold readsB
  rw [List.all_eq_false]
  exact ⟨x, List.mem_of_getElem? hx, by simpa using h⟩
theorem readsB_take {l : List Ent} {xs : List Rd} {k : Nat} {x : Rd} (hx : xs[k]? = some x) (h : ((got l x.1).1.2.2 == x.2) = true) (hk : readsB l (xs.take k) = true) : readsB l (xs.take (k + 1)) = true := by
  unfold readsB at hk ⊢
  obtain ⟨hlt, e⟩ := List.getElem?_eq_some_iff.1 hx
  rw [List.take_succ_eq_append_getElem hlt, e, List.all_append, hk]
  simpa using h
end Go.Proofs.YtohlepbfjgehgaaGreatDoor
