/-
  What is proved here: plain facts of locks: what one does changes nobody else's keys; over this program.
-/
import Derived.Test.YtnojbejjlahhkaaGreatDoorHG
namespace Go.Proofs.YtnojbejjlahhkaaGreatDoor
open Go.RowKit Go.Extern.Stop Go.Stop Go.Extern

theorem bar_zero {L : Lk} {who : Int} {s : List UInt8} (h : barE L who s = 0) : s.length ≤ 16 ∧ (holdL L s = none ∨ holdL L s = some who) := by
  unfold barE at h
  split at h
  · exact absurd h (by decide)
  next hl =>
    refine ⟨by omega, ?_⟩
    cases hh : holdL L s with
    | none => exact Or.inl rfl
    | some n =>
      rw [hh] at h
      simp only at h
      split at h
      next c => exact Or.inr (by rw [show n = who by simpa using c])
      next => exact absurd h (by decide)
theorem bar_ok {L : Lk} {who : Int} {s : List UInt8} (hl : s.length ≤ 16) (h : holdL L s = none ∨ holdL L s = some who) : barE L who s = 0 := by
  unfold barE
  rw [if_neg (by omega)]
  rcases h with h | h
  · rw [h]
  · rw [h]; simp
theorem drop_self (L : Lk) (who : Int) : ownL (dropL L who) who = [] := by
  unfold ownL dropL
  rw [List.filter_filter]
  rw [List.filter_eq_nil_iff.2 (fun x _ => by cases x.2 == who <;> simp)]
  rfl
theorem drop_other {L : Lk} {who other : Int} (h : (other == who) = false) : ownL (dropL L who) other = ownL L other := by
  unfold ownL dropL
  rw [List.filter_filter]
  congr 1
  refine List.filter_congr fun x _ => ?_
  cases hq : x.2 == other with
  | false => rfl
  | true =>
    have : x.2 = other := by simpa using hq
    simp [this, h]
theorem puts_other {L : Lk} (hr : KRise L) {who other : Int} {keys : List (List UInt8)} (h : ∀ (j : Nat) t, keys[j]? = some t → barE L who t = 0) (ho : (other == who) = false) : ownL (puts L who keys) other = ownL L other := by
  have hne : who ≠ other := by
    intro e; subst e; simp at ho
  refine own_ext (puts_rise hr who keys) hr fun s => ?_
  rw [hold_puts hr]
  split
  next hm =>
    obtain ⟨j, hj⟩ := List.getElem?_of_mem hm
    rcases (bar_zero (h j s hj)).2 with e | e
    · rw [e]; simp [hne]
    · rw [e]
  next => exact Iff.rfl
theorem puts_own {L : Lk} (hr : KRise L) {who : Int} {keys : List (List UInt8)} {k : Nat} {s : List UInt8} (h : keys[k]? = some s) : holdL (puts L who keys) s = some who := by
  rw [hold_puts hr, if_pos (List.mem_of_getElem? h)]
theorem own_few (L : Lk) (who : Int) : (ownL L who).length ≤ L.length := by
  unfold ownL
  rw [List.length_map]
  exact List.length_filter_le _ _
theorem drop_few (L : Lk) (who : Int) : (dropL L who).length ≤ L.length := List.length_filter_le _ _
/-- who has keys may lock them again -/
theorem puts_again {L : Lk} (hr : KRise L) (who : Int) (keys : List (List UInt8)) : puts (puts L who keys) who keys = puts L who keys := by
  have h1 := puts_rise hr who keys
  have key : ∀ {a b : Lk}, KRise a → KRise b → (∀ s, holdL a s = holdL b s) → a = b := by
    intro a b ha hb hh
    have hm : ∀ x, x ∈ a ↔ x ∈ b := fun x => by
      obtain ⟨s, n⟩ := x
      rw [ha.hold, hb.hold, hh]
    clear hh hr h1
    induction a generalizing b with
    | nil =>
      cases b with
      | nil => rfl
      | cons y q => exact absurd ((hm y).2 (List.mem_cons_self ..)) (by simp)
    | cons x r ih =>
      cases b with
      | nil => exact absurd ((hm x).1 (List.mem_cons_self ..)) (by simp)
      | cons y q =>
        obtain ⟨a1, a2⟩ := List.pairwise_cons.1 ha
        obtain ⟨b1, b2⟩ := List.pairwise_cons.1 hb
        have e : x = y := by
          rcases List.mem_cons.1 ((hm x).1 (List.mem_cons_self ..)) with e | e
          · exact e
          · rcases List.mem_cons.1 ((hm y).2 (List.mem_cons_self ..)) with e2 | e2
            · exact e2.symm
            · exact absurd (kLt_trans (a1 _ e2) (b1 _ e)) (kLt_irrefl _)
        subst e
        rw [ih a2 b2 fun z => ?_]
        have hz := hm z
        simp only [List.mem_cons] at hz
        constructor
        · intro hi
          rcases hz.1 (Or.inr hi) with e | e
          · subst e; exact absurd (a1 _ hi) (kLt_irrefl _)
          · exact e
        · intro hi
          rcases hz.2 (Or.inr hi) with e | e
          · subst e; exact absurd (b1 _ hi) (kLt_irrefl _)
          · exact e
  refine key (puts_rise h1 who keys) h1 fun s => ?_
  rw [hold_puts h1, hold_puts hr]
  split <;> rfl
/-- a Lock that may not answer otherwise -/
theorem lock_again {L L' : Lk} {who : Int} {keys : List (List UInt8)} {w' : World} {B : Nat} {er : Value} (hw : 0 ≤ who) (hb : ∀ (j : Nat) t, keys[j]? = some t → barE L who t = 0) (hn : (puts L who keys).length ≤ 128)
    (h : LockIs L who keys w' B er L') : er = .nilIface ∧ L' = puts L who keys := by
  rcases h with ⟨n, at_, _, _, h | ⟨_, i, s, h1, _, h3, h4, _⟩ | ⟨_, _, h, _⟩⟩ | ⟨h1, _, _, h4, _⟩
  · omega
  · rw [hb i s h1] at h3; omega
  · omega
  · exact ⟨h1, h4⟩
theorem bar_puts {L : Lk} (hr : KRise L) {who : Int} {keys : List (List UInt8)} (hb : ∀ (j : Nat) t, keys[j]? = some t → barE L who t = 0) : ∀ (j : Nat) t, keys[j]? = some t → barE (puts L who keys) who t = 0 :=
  fun j t ht => bar_ok (bar_zero (hb j t ht)).1 (Or.inr (puts_own hr ht))

/-- texts apart from the locks -/
def KeysOff (w : World) (O : Nat → Prop) (v : Value) (l : List (List UInt8)) : Prop := KeysIn w (fun k => k < w.heap.size ∧ ¬ O k) v l
theorem KeysOff.next {w w' : World} {O : Nat → Prop} {v : Value} {l : List (List UInt8)} (h : KeysOff w O v l) (hb : Below w.heap.size w w') : KeysOff w' O v l :=
  RowIn.mono (RowIn.kept h (Kept.of_all hb)) (fun _ hk hl => ⟨hl, hk.2⟩)
theorem KeysOff.move {w w' : World} {O O' : Nat → Prop} {v : Value} {l : List (List UInt8)} (h : KeysOff w O v l) (hg : Move w O w' O') : KeysOff w' O' v l :=
  RowIn.mono (RowIn.kept h (hg.turn.kept (fun _ hk _ => hk.2))) (fun _ hk hl => ⟨hl, hg.not hk.1 hk.2⟩)
theorem KeysOff.turn {w w' : World} {O : Nat → Prop} {v : Value} {l : List (List UInt8)} (h : KeysOff w O v l) (hg : Turn O w w') : KeysOff w' O v l :=
  RowIn.mono (RowIn.kept h (hg.kept (fun _ hk _ => hk.2))) (fun _ hk hl => ⟨hl, hk.2⟩)
theorem KeysOff.of_own {w : World} {O : Nat → Prop} {B : Nat} {v : Value} {l : List (List UInt8)} (h : w.ownsRow B 9 1 v l.length (strCells l)) (hO : ∀ k, O k → k < B) : KeysOff w O v l :=
  RowIn.mono (KeysIn.of_own h) (fun k hk hl => ⟨hl, fun o => by have := hO k o; omega⟩)
theorem KeysOff.form {w : World} {O : Nat → Prop} {v : Value} {l : List (List UInt8)} (h : KeysOff w O v l) : ∃ a cap, v = .slice a l.length cap := KeysIn.form h
end Go.Proofs.YtnojbejjlahhkaaGreatDoor
