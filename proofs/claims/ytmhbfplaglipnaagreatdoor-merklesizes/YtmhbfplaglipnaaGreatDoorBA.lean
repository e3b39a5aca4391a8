/-
  What is proved here: book's Book in memory; New, Many, wrong and add, over this program.
-/
import Derived.Test.YtmhbfplaglipnaaGreatDoorTurn
import Derived.Maps.OwnSet
import Derived.Maps.AppendAt
namespace Go.Proofs.YtmhbfplaglipnaaGreatDoor
open Go.RowKit Go.Extern.Stop Go.Stop Go.Extern

theorem keyLaw : Maps.Keyed Tryz.prog 9 := Maps.string_keyed Tryz.underlying9
theorem zeroInt (w : World) : (zeroValue 3).run Tryz.prog w = .ok (.int .i64 0) w := by kernel_rfl
theorem infoStr : (Tryz.prog.info? 9).map (fun i => (i.zero, i.size, i.bytes)) = some (some (.string ⟨#[]⟩), 1, 16) := by kernel_rfl

def strCells (T : List (List UInt8)) : List Value := T.map fun s => Value.string ⟨s.toArray⟩

/-- D is the table of the texts T: each with its place -/
def Tab (T : List (List UInt8)) (D : DataW Unit) : Prop :=
  Maps.IsMap D ∧ (∀ s, s ∉ T → Maps.has D (.string s) = false) ∧ ∀ (i : Nat) s, T[i]? = some s → Maps.has D (.string s) = true ∧ D.atKey (.string s) (.lit (.int .i64 0)) = .lit (.int .i64 i)
theorem Tab.empty : Tab [] (.map []) := ⟨Maps.isMap_empty, fun _ _ => rfl, fun i s h => by simp at h⟩
theorem Tab.put {T : List (List UInt8)} {D : DataW Unit} {s : List UInt8} (h : Tab T D) (hs : s ∉ T) : Tab (T ++ [s]) (D.put (.string s) (.lit (.int .i64 T.length))) := by
  obtain ⟨h1, h2, h3⟩ := h
  refine ⟨h1.put _ _, fun s' hs' => ?_, fun i s' hi => ?_⟩
  · simp only [List.mem_append, List.mem_singleton, not_or] at hs'
    rw [Maps.has_put_other (fun e => hs'.2 (by injection e)), h2 s' hs'.1]
  · by_cases hlt : i < T.length
    · rw [List.getElem?_append_left hlt] at hi
      have hne : Lit.string s' ≠ Lit.string s := fun e => by
        injection e with e; subst e
        exact hs (List.mem_of_getElem? hi)
      rw [Maps.has_put_other hne, Maps.atKey_put_other hne]
      exact h3 i s' hi
    · have hi2 := (List.getElem?_eq_some_iff.1 hi).1
      simp at hi2
      have e : i = T.length := by omega
      subst e
      simp at hi
      subst hi
      have hk : WideAt.IsKeyLit (Lit.string s) := trivial
      exact ⟨Maps.has_put_same h1 hk _, Maps.atKey_put_same h1 hk _ _⟩
/-- no text stands twice -/
theorem Tab.once {T : List (List UInt8)} {D : DataW Unit} (h : Tab T D) {i j : Nat} {s : List UInt8} (hi : T[i]? = some s) (hj : T[j]? = some s) : i = j := by
  have h1 := (h.2.2 i s hi).2
  rw [(h.2.2 j s hj).2] at h1
  simp only [DataW.lit.injEq, Lit.int.injEq] at h1
  omega

/-- a Book at p that has the texts T; its memory lies in blocks of O -/
def BookSt (w : World) (p : Nat) (O : Nat → Prop) (T : List (List UInt8)) : Prop :=
  ∃ (v : Value) (m : Nat) (D : DataW Unit), w.cell? ⟨p, 0, none⟩ = some v ∧ w.cell? ⟨p, 1, none⟩ = some (.map (some m)) ∧ w.frozen? ⟨p, 0, none⟩ = false ∧ w.ownsRow 0 9 1 v T.length (strCells T) ∧
    w.ownsMap Tryz.prog 9 (plainElem Tryz.prog 3) m T.length D ∧ Tab T D ∧ (O p ∧ O m ∧ ∀ g, v.ownBlock = some g → O g ∧ g ≠ p) ∧ T.length ≤ 65536 ∧ ∀ s ∈ T, s.length ≤ 65536
theorem BookSt.lt {w : World} {p : Nat} {O : Nat → Prop} {T : List (List UInt8)} (h : BookSt w p O T) : p < w.heap.size := by
  obtain ⟨v, m, D, c0, _⟩ := h
  exact lt_of_cell (a := ⟨p, 0, none⟩) c0
theorem BookSt.own {w : World} {p : Nat} {O : Nat → Prop} {T : List (List UInt8)} (h : BookSt w p O T) : O p := by
  obtain ⟨v, m, D, _, _, _, _, _, _, ⟨h1, _⟩, _⟩ := h
  exact h1
theorem BookSt.kept {w w' : World} {p : Nat} {O : Nat → Prop} {T : List (List UInt8)} (h : BookSt w p O T) (hk : Kept O w w') : BookSt w' p O T := by
  have hlt := h.lt
  obtain ⟨v, m, D, c0, c1, f0, hr, hm, ht, ⟨o1, o2, o3⟩, r⟩ := h
  have hp := hk p o1 hlt
  obtain ⟨es, clock, hb, F⟩ := hm
  refine ⟨v, m, D, (World.cell?_of_block (a := ⟨p, 0, none⟩) hp).trans c0, (World.cell?_of_block (a := ⟨p, 1, none⟩) hp).trans c1, (World.frozen?_of_block (a := ⟨p, 0, none⟩) hp).trans f0,
    ownsRow_of_block hr (fun g hg => hk g (o3 g hg).1 (ownsRow_lt hr hg)), ⟨es, clock, (hk m o2 (Array.getElem?_eq_some_iff.1 hb).1).trans hb, F⟩, ht, ⟨o1, o2, o3⟩, r⟩
theorem BookSt.mono {w : World} {p : Nat} {O O' : Nat → Prop} {T : List (List UInt8)} (h : BookSt w p O T) (hO : ∀ k, O k → k < w.heap.size → O' k) : BookSt w p O' T := by
  have hlt := h.lt
  obtain ⟨v, m, D, c0, c1, f0, hr, hm, ht, ⟨o1, o2, o3⟩, r⟩ := h
  exact ⟨v, m, D, c0, c1, f0, hr, hm, ht, ⟨hO p o1 hlt, hO m o2 hm.lt, fun g hg => ⟨hO g (o3 g hg).1 (ownsRow_lt hr hg), (o3 g hg).2⟩⟩, r⟩
theorem BookSt.short {w : World} {p : Nat} {O : Nat → Prop} {T : List (List UInt8)} (h : BookSt w p O T) : T.length ≤ 65536 := by
  obtain ⟨v, m, D, _, _, _, _, _, _, _, h1, _⟩ := h
  exact h1
theorem BookSt.once {w : World} {p : Nat} {O : Nat → Prop} {T : List (List UInt8)} (h : BookSt w p O T) {i j : Nat} {s : List UInt8} (hi : T[i]? = some s) (hj : T[j]? = some s) : i = j := by
  obtain ⟨v, m, D, _, _, _, _, _, ht, _⟩ := h
  exact ht.once hi hj

set_option maxHeartbeats 4000000 in
theorem bNew_any (w : World) : Calls Tryz.prog 11 #[] w fun e w' => ∃ p, e = .returned (.pointer (some ⟨p, 0, none⟩)) ∧ BookSt w' p (fun k => w.heap.size ≤ k ∧ k < w'.heap.size) [] ∧ Below w.heap.size w w' := by
  have hmm := @run_makeMap Tryz.prog
  go_enter Tryz.func11, Tryz.ntmps11
  go_wp2
  go_ret
  have e1 : (w.alloc (.map #[] 0)).heap.size = w.heap.size + 1 := by simp
  refine ⟨w.heap.size + 1, rfl, ⟨.slice none 0 0, w.heap.size, .map [], ?_, ?_, ?_, World.ownsRow_nil _ 0 _ 1, (World.ownsMap_made w _ _ _).alloc _, Tab.empty, ⟨⟨by omega, by simp⟩, ⟨by omega, by simp; omega⟩, fun g hg => by cases hg⟩, by decide, by simp⟩, ((Below.refl _ _).alloc (Nat.le_refl _) _).alloc (by simp) _⟩
  · rw [World.cell?_alloc_at _ _ _ _ e1.symm]; rfl
  · rw [World.cell?_alloc_at _ _ _ _ e1.symm]; rfl
  · exact World.frozen?_alloc_at _ _ _ _ e1.symm

theorem bMany_any (w : World) (p : Nat) (O : Nat → Prop) (T : List (List UInt8)) (h : BookSt w p O T) : Calls Tryz.prog 92 #[.pointer (some ⟨p, 0, none⟩)] w fun e w' => e = .returned (.int .i64 T.length) ∧ w' = w := by
  obtain ⟨v, m, D, c0, _, _, hr, _, _, _, hl, _⟩ := h
  obtain ⟨a, cap, rfl⟩ := own_form hr
  clear hr
  go_enter Tryz.func92, Tryz.ntmps92
  go_wp2
  go_ret
  exact ⟨rfl, rfl⟩

theorem bwrong_any (w : World) (p : Nat) (O : Nat → Prop) (T : List (List UInt8)) (n : Int) (hn : (n == 0) = false) (h : BookSt w p O T) :
    Calls Tryz.prog 91 #[.pointer (some ⟨p, 0, none⟩), .int .i64 n] w fun e w' => ∃ v, e = .returned v ∧ One w' (fun k => k = w.heap.size) v n ⟨#[98, 111, 111, 107]⟩ T.length ∧ Below w.heap.size w w' := by
  have H := hideIt h
  clear h
  go_enter Tryz.func91, Tryz.ntmps91
  go_wp2_with fail
  refine (Of_err n hn w).mono ?_
  rintro e w1 ⟨rfl, rfl⟩
  go_wp2_with fail
  refine (bMany_any w1 p O T H.out).mono ?_
  rintro e w2 ⟨rfl, rfl⟩
  go_wp2_with fail
  refine (Wrap_some 50 (.int .i64 n) _ _ _).mono ?_
  rintro e w3 ⟨rfl, rfl⟩
  go_wp2
  go_ret
  refine ⟨_, rfl, ⟨w2.heap.size, rfl, rfl, ?_, ?_, ?_⟩, (Below.refl _ _).alloc (Nat.le_refl _) _⟩
  · rw [World.cell?_alloc_at _ _ _ _ rfl]; rfl
  · rw [World.cell?_alloc_at _ _ _ _ rfl]; rfl
  · rw [World.cell?_alloc_at _ _ _ _ rfl]; rfl
end Go.Proofs.YtmhbfplaglipnaaGreatDoor
