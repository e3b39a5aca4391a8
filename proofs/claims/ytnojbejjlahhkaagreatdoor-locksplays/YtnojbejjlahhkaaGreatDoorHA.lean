/-
  What is proved here: who has which keys, in plain lists, and as a map reads; over this program.
-/
import Derived.Test.YtnojbejjlahhkaaGreatDoorTurn
import Derived.Maps.OwnSet
import Derived.Maps.Ext
import Derived.Maps.RangeWalk
import Derived.Lib.SlMapFilter
import Derived.Sort.KeysCollected
import Derived.Sort.Walk0
namespace Go.Proofs.YtnojbejjlahhkaaGreatDoor
open Go.RowKit Go.Extern.Stop Go.Stop Go.Extern

theorem keyLaw : Maps.Keyed Tryz.prog 9 := Maps.string_keyed Tryz.underlying9
theorem zeroInt (w : World) : (zeroValue 3).run Tryz.prog w = .ok (.int .i64 0) w := by kernel_rfl

/-- keys with who has them, by rising keys -/
abbrev Lk := List (List UInt8 × Int)
/-- byte by byte, a is below b -/
def kLt (a b : List UInt8) : Prop := Op.bytesLess a b = true
theorem kLt_iff (a b : List UInt8) : kLt a b ↔ a < b := by rw [kLt, bytesLess_eq, decide_eq_true_eq]
theorem kLt_irrefl (a : List UInt8) : ¬ kLt a a := by rw [kLt_iff]; exact List.lt_irrefl a
theorem kLt_trans {a b c : List UInt8} (h : kLt a b) (h2 : kLt b c) : kLt a c := by rw [kLt_iff] at *; exact List.lt_trans h h2
theorem kLt_total {a b : List UInt8} (h : a ≠ b) : kLt a b ∨ kLt b a := by
  rw [kLt_iff, kLt_iff]
  rcases Decidable.em (a < b) with h1 | h1
  · exact Or.inl h1
  · rcases Decidable.em (b < a) with h2 | h2
    · exact Or.inr h2
    · exact absurd (List.le_antisymm (List.not_lt.1 h2) (List.not_lt.1 h1)) h
theorem kLt_asymm {a b : List UInt8} (h : kLt a b) : ¬ kLt b a := fun h2 => kLt_irrefl _ (kLt_trans h h2)
theorem before_less : ∀ a b : List UInt8, bytesBefore a b = Op.bytesLess a b
  | [], [] => rfl
  | [], _ :: _ => rfl
  | _ :: _, [] => rfl
  | x :: a, y :: b => by simp only [bytesBefore, Op.bytesLess, before_less a b]

def KRise (L : Lk) : Prop := L.Pairwise fun a b => kLt a.1 b.1
/-- who has a key -/
def holdL (L : Lk) (s : List UInt8) : Option Int := (L.find? (fun x => x.1 == s)).map (·.2)
def insL (x : List UInt8 × Int) : Lk → Lk
  | [] => [x]
  | y :: r => if Op.bytesLess x.1 y.1 then x :: y :: r else y :: insL x r
/-- somebody is given a key -/
def putL (L : Lk) (s : List UInt8) (n : Int) : Lk := insL (s, n) (L.filter fun x => !(x.1 == s))
/-- somebody has none -/
def dropL (L : Lk) (who : Int) : Lk := L.filter fun x => !(x.2 == who)
/-- somebody's keys -/
def ownL (L : Lk) (who : Int) : List (List UInt8) := (L.filter fun x => x.2 == who).map (·.1)

theorem KRise.one {L : Lk} (h : KRise L) {s : List UInt8} {a b : Int} (ha : (s, a) ∈ L) (hb : (s, b) ∈ L) : a = b := by
  induction L with
  | nil => cases ha
  | cons x r ih =>
    obtain ⟨h1, h2⟩ := List.pairwise_cons.1 h
    rcases List.mem_cons.1 ha with ea | ha <;> rcases List.mem_cons.1 hb with eb | hb
    · rw [← ea] at eb; cases eb; rfl
    · have := h1 _ hb; rw [← ea] at this; exact absurd this (kLt_irrefl _)
    · have := h1 _ ha; rw [← eb] at this; exact absurd this (kLt_irrefl _)
    · exact ih h2 ha hb
theorem hold_mem {L : Lk} {s : List UInt8} {n : Int} (h : holdL L s = some n) : (s, n) ∈ L := by
  unfold holdL at h
  obtain ⟨x, hx, rfl⟩ := Option.map_eq_some_iff.1 h
  have h1 := List.mem_of_find?_eq_some hx
  have h2 := List.find?_some hx
  simp at h2
  subst h2
  exact h1
theorem hold_none {L : Lk} {s : List UInt8} (h : holdL L s = none) (n : Int) : (s, n) ∉ L := fun hm => by
  unfold holdL at h
  rw [Option.map_eq_none_iff, List.find?_eq_none] at h
  have := h _ hm
  simp at this
theorem KRise.hold {L : Lk} (h : KRise L) {s : List UInt8} {n : Int} : (s, n) ∈ L ↔ holdL L s = some n := by
  refine ⟨fun hm => ?_, hold_mem⟩
  cases hh : holdL L s with
  | none => exact absurd hm (hold_none hh n)
  | some k => rw [h.one hm (hold_mem hh)]
theorem KRise.filter {L : Lk} (h : KRise L) (p : List UInt8 × Int → Bool) : KRise (L.filter p) := List.Pairwise.filter p h
theorem ins_mem {x z : List UInt8 × Int} {L : Lk} : z ∈ insL x L ↔ z = x ∨ z ∈ L := by
  induction L with
  | nil => simp [insL]
  | cons y r ih =>
    unfold insL
    split
    · simp
    · simp only [List.mem_cons, ih]
      constructor
      · rintro (h | h | h)
        · exact Or.inr (Or.inl h)
        · exact Or.inl h
        · exact Or.inr (Or.inr h)
      · rintro (h | h | h)
        · exact Or.inr (Or.inl h)
        · exact Or.inl h
        · exact Or.inr (Or.inr h)
theorem ins_len (x : List UInt8 × Int) (L : Lk) : (insL x L).length = L.length + 1 := by
  induction L with
  | nil => rfl
  | cons y r ih => unfold insL; split <;> simp [ih]
theorem ins_rise {x : List UInt8 × Int} {L : Lk} (h : KRise L) (hn : ∀ y ∈ L, y.1 ≠ x.1) : KRise (insL x L) := by
  induction L with
  | nil => simp [insL, KRise]
  | cons y r ih =>
    obtain ⟨h1, h2⟩ := List.pairwise_cons.1 h
    unfold insL
    split
    next hl =>
      refine List.pairwise_cons.2 ⟨fun z hz => ?_, h⟩
      rcases List.mem_cons.1 hz with rfl | hz
      · exact hl
      · exact kLt_trans hl (h1 z hz)
    next hl =>
      refine List.pairwise_cons.2 ⟨fun z hz => ?_, ih h2 (fun y hy => hn y (List.mem_cons_of_mem _ hy))⟩
      rcases ins_mem.1 hz with rfl | hz
      · rcases kLt_total (hn y (List.mem_cons_self ..)) with h3 | h3
        · exact h3
        · exact absurd h3 hl
      · exact h1 z hz
theorem put_rise {L : Lk} (h : KRise L) (s : List UInt8) (n : Int) : KRise (putL L s n) := ins_rise (h.filter _) fun y hy => by
  have := (List.mem_filter.1 hy).2
  simpa using this
theorem put_mem {L : Lk} {s t : List UInt8} {n k : Int} : (t, k) ∈ putL L s n ↔ (t = s ∧ k = n) ∨ (t ≠ s ∧ (t, k) ∈ L) := by
  unfold putL
  rw [ins_mem, List.mem_filter]
  constructor
  · rintro (h | ⟨h1, h2⟩)
    · cases h; exact Or.inl ⟨rfl, rfl⟩
    · exact Or.inr ⟨by simpa using h2, h1⟩
  · rintro (⟨rfl, rfl⟩ | ⟨h1, h2⟩)
    · exact Or.inl rfl
    · exact Or.inr ⟨h2, by simpa using h1⟩
theorem opt_ext {α : Type} {a b : Option α} (h : ∀ x, a = some x ↔ b = some x) : a = b := by
  cases a with
  | none => cases b with
    | none => rfl
    | some y => exact absurd ((h y).2 rfl) (by simp)
  | some x => exact ((h x).1 rfl).symm
theorem hold_put {L : Lk} (h : KRise L) (s t : List UInt8) (n : Int) : holdL (putL L s n) t = if t = s then some n else holdL L t := by
  refine opt_ext fun k => ?_
  rw [← (put_rise h s n).hold, put_mem]
  split
  next e => subst e; simp [eq_comm]
  next e => rw [← h.hold]; simp [e]
theorem hold_drop {L : Lk} (h : KRise L) (who : Int) (t : List UInt8) : holdL (dropL L who) t = (holdL L t).filter (fun k => !(k == who)) := by
  refine opt_ext fun k => ?_
  have e0 : (t, k) ∈ dropL L who ↔ holdL (dropL L who) t = some k := KRise.hold (h.filter _)
  rw [← e0, dropL, List.mem_filter, h.hold]
  cases holdL L t with
  | none => simp
  | some j =>
    simp only [Option.some.injEq, Option.filter_some]
    constructor
    · rintro ⟨rfl, h2⟩; rw [if_pos (by simpa using h2)]
    · intro h2
      split at h2
      next c => cases h2; exact ⟨rfl, by simpa using c⟩
      next => cases h2
theorem own_mem {L : Lk} (h : KRise L) {who : Int} {s : List UInt8} : s ∈ ownL L who ↔ holdL L s = some who := by
  unfold ownL
  rw [← h.hold]
  simp only [List.mem_map, List.mem_filter]
  constructor
  · rintro ⟨⟨a, b⟩, ⟨h1, h2⟩, rfl⟩
    simp at h2; subst h2; exact h1
  · intro h1
    exact ⟨(s, who), ⟨h1, by simp⟩, rfl⟩
def SRise (l : List (List UInt8)) : Prop := l.Pairwise kLt
theorem own_rise {L : Lk} (h : KRise L) (who : Int) : SRise (ownL L who) := List.pairwise_map.2 (h.filter _)
theorem SRise.ext {a b : List (List UInt8)} (ha : SRise a) (hb : SRise b) (h : ∀ s, s ∈ a ↔ s ∈ b) : a = b := by
  induction a generalizing b with
  | nil =>
    cases b with
    | nil => rfl
    | cons y r => exact absurd ((h y).2 (List.mem_cons_self ..)) (by simp)
  | cons x r ih =>
    cases b with
    | nil => exact absurd ((h x).1 (List.mem_cons_self ..)) (by simp)
    | cons y q =>
      obtain ⟨a1, a2⟩ := List.pairwise_cons.1 ha
      obtain ⟨b1, b2⟩ := List.pairwise_cons.1 hb
      have e : x = y := by
        rcases List.mem_cons.1 ((h x).1 (List.mem_cons_self ..)) with e | e
        · exact e
        · rcases List.mem_cons.1 ((h y).2 (List.mem_cons_self ..)) with e2 | e2
          · exact e2.symm
          · exact absurd (kLt_trans (a1 _ e2) (b1 _ e)) (kLt_irrefl _)
      subst e
      rw [ih a2 b2 fun s => ?_]
      have hs := h s
      simp only [List.mem_cons] at hs
      constructor
      · intro hm
        rcases hs.1 (Or.inr hm) with e | e
        · subst e; exact absurd (a1 _ hm) (kLt_irrefl _)
        · exact e
      · intro hm
        rcases hs.2 (Or.inr hm) with e | e
        · subst e; exact absurd (b1 _ hm) (kLt_irrefl _)
        · exact e
theorem own_ext {L L' : Lk} (h : KRise L) (h' : KRise L') {who : Int} (hh : ∀ s, holdL L s = some who ↔ holdL L' s = some who) : ownL L who = ownL L' who :=
  (own_rise h who).ext (own_rise h' who) fun s => by rw [own_mem h, own_mem h', hh]
theorem SRise.sorted {l : List (List UInt8)} (h : SRise l) : l.mergeSort leB = l := by
  refine List.mergeSort_of_pairwise (h.imp fun {a b} hab => ?_)
  simp only [leB, decide_eq_true_eq]
  rw [kLt_iff] at hab
  exact List.le_of_lt hab
theorem sort_perm {l ss : List (List UInt8)} (h : SRise l) (hp : ss.Perm l) : ss.mergeSort leB = l := (mergeSort_of_perm hp).trans h.sorted

/-- the map as it reads -/
def DL (L : Lk) : DataW Unit := .map (L.map fun x => (Lit.string x.1, .lit (.int .i64 x.2)))
theorem find_DL (L : Lk) (s : List UInt8) : (L.map fun x => ((Lit.string x.1, .lit (.int .i64 x.2)) : Lit × DataW Unit)).find? (fun p => p.1.sameKey (.string s)) = (L.find? (fun x => x.1 == s)).map fun x => (Lit.string x.1, .lit (.int .i64 x.2)) := by
  rw [List.find?_map]; rfl
theorem at_DL (L : Lk) (s : List UInt8) (z : DataW Unit) : (DL L).atKey (.string s) z = match holdL L s with | some n => .lit (.int .i64 n) | none => z := by
  unfold DataW.atKey DL holdL
  simp only [find_DL]
  cases L.find? (fun x => x.1 == s) <;> rfl
theorem has_DL (L : Lk) (s : List UInt8) : Maps.has (DL L) (.string s) = (holdL L s).isSome := by
  cases h : holdL L s with
  | none => exact Maps.has_false_of_atKey fun z => by rw [at_DL, h]
  | some n => exact Maps.has_true_of_atKey (y := .lit (.int .i64 n)) fun z => by rw [at_DL, h]
theorem size_DL (L : Lk) : Maps.size (DL L) = L.length := by simp [Maps.size, DL]
theorem insert_DL (x : List UInt8 × Int) (L : Lk) : DataW.insert (H := Unit) (.string x.1, .lit (.int .i64 x.2)) (L.map fun x => (Lit.string x.1, .lit (.int .i64 x.2))) = (insL x L).map fun x => (Lit.string x.1, .lit (.int .i64 x.2)) := by
  induction L with
  | nil => rfl
  | cons y r ih =>
    simp only [List.map_cons, DataW.insert, insL, Lit.before, before_less]
    split
    · rfl
    · simp only [List.map_cons, ih]
theorem del_DL (L : Lk) (s : List UInt8) : (DL L).del (.string s) = DL (L.filter fun x => !(x.1 == s)) := by
  unfold DataW.del DL
  simp only [List.filter_map]
  rfl
theorem put_DL (L : Lk) (s : List UInt8) (n : Int) : (DL L).put (.string s) (.lit (.int .i64 n)) = DL (putL L s n) := by
  unfold DataW.put DL putL
  simp only [List.filter_map, ← insert_DL]
  rfl
theorem rise_DL {L : Lk} (h : Maps.Canon (DL L)) : KRise L := by
  obtain ⟨es, he, hp, _⟩ := h
  unfold DL at he
  simp only [DataW.map.injEq] at he
  subst he
  refine (List.pairwise_map.1 hp).imp fun {a b} hab => ?_
  rw [kLt, ← before_less]
  exact hab
end Go.Proofs.YtnojbejjlahhkaaGreatDoor
