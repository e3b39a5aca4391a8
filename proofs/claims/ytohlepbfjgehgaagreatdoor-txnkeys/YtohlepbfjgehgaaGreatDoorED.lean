/-
  What is proved here: a store in memory: find, Get, Room, wrong, New, Of; over this program.
-/
import Derived.Test.YtohlepbfjgehgaaGreatDoorEC
namespace Go.Proofs.YtohlepbfjgehgaaGreatDoor
open Go.RowKit Go.Extern.Stop Go.Stop Go.Extern

theorem own_in {w : World} {B e size : Nat} {v : Value} {n : Nat} {cs : List Value} (h : w.ownsRow B e size v n cs) : RowIn w (fun k => v.ownBlock = some k) v n cs := by
  have hc := h
  obtain ⟨h1, h2⟩ := h
  rcases h2 with ⟨rfl, h3⟩ | ⟨g, cap, cur, rfl, hg, hh, r⟩
  · subst h3
    have : cs = [] := List.eq_nil_of_length_eq_zero (by simpa using h1)
    exact ⟨none, 0, rfl, fun _ => ⟨rfl, rfl, this⟩, fun k x hx => by rw [this] at hx; simp at hx⟩
  · refine ⟨some ⟨g, 0, none⟩, cap, rfl, (fun e => nomatch e), fun k x hx => ⟨g, 0, rfl, rfl, ?_⟩⟩
    have := hc.cells (g := g) rfl k x hx
    rw [addr_add] at this; exact this
/-- a Store at p with the entries l, its memory in O -/
def Sto (w : World) (p : Nat) (O : Nat → Prop) (l : List Ent) : Prop :=
  ∃ v, w.cell? ⟨p, 0, none⟩ = some v ∧ w.frozen? ⟨p, 0, none⟩ = false ∧ O p ∧ (∀ k, O k → k < w.heap.size) ∧ w.ownsRow 0 42 3 v l.length (entsCells l) ∧ (∀ g, v.ownBlock = some g → O g ∧ g ≠ p)
theorem Sto.next {w w' : World} {p : Nat} {O : Nat → Prop} {l : List Ent} (h : Sto w p O l) (hb : Below w.heap.size w w') : Sto w' p O l := by
  obtain ⟨v, h1, h2, h3, h4, h5, h6⟩ := h
  exact ⟨v, (hb.cell (lt_of_cell h1)).trans h1, (World.frozen?_of_block (a := ⟨p, 0, none⟩) (hb.block p (lt_of_cell h1))).trans h2, h3, fun k hk => Nat.lt_of_lt_of_le (h4 k hk) hb.size, ownsRow_of_block h5 (fun g hg => hb.block g (h4 g (h6 g hg).1)), h6⟩
/-- what became of the world: the store's blocks, and new ones, alone -/
structure Move (w : World) (O : Nat → Prop) (w' : World) (O' : Nat → Prop) : Prop where
  turn : Turn O w w'
  own : ∀ k, O' k → O k ∨ w.heap.size ≤ k
theorem Move.of_below {w w' : World} {O : Nat → Prop} (h : Below w.heap.size w w') : Move w O w' O := ⟨Turn.of_below h, fun _ h => Or.inl h⟩
theorem Move.not {w w' : World} {O O' : Nat → Prop} (h : Move w O w' O') {k : Nat} (hk : k < w.heap.size) (hn : ¬ O k) : ¬ O' k := fun o => by
  rcases h.own k o with e | e
  · exact hn e
  · omega
theorem Move.trans {w w1 w2 : World} {O O1 O2 : Nat → Prop} (h : Move w O w1 O1) (h1 : Move w1 O1 w2 O2) : Move w O w2 O2 :=
  ⟨h.turn.trans h1.turn h.own, fun k hk => by
    rcases h1.own k hk with e | e
    · exact h.own k e
    · exact Or.inr (Nat.le_trans h.turn.size e)⟩
/-- entries apart from the store -/
def EntsOff (w : World) (O : Nat → Prop) (v : Value) (l : List Ent) : Prop := EntsIn w (fun k => k < w.heap.size ∧ ¬ O k) v l
theorem EntsOff.next {w w' : World} {O : Nat → Prop} {v : Value} {l : List Ent} (h : EntsOff w O v l) (hb : Below w.heap.size w w') : EntsOff w' O v l :=
  RowIn.mono (RowIn.kept h (Kept.of_all hb)) (fun _ hk hl => ⟨hl, hk.2⟩)
theorem EntsOff.move {w w' : World} {O O' : Nat → Prop} {v : Value} {l : List Ent} (h : EntsOff w O v l) (hg : Move w O w' O') : EntsOff w' O' v l :=
  RowIn.mono (RowIn.kept h (hg.turn.kept (fun _ hk _ => hk.2))) (fun _ hk hl => ⟨hl, hg.not hk.1 hk.2⟩)
theorem EntsOff.form {w : World} {O : Nat → Prop} {v : Value} {l : List Ent} (h : EntsOff w O v l) : ∃ a cap, v = .slice a l.length cap := EntsIn.form h
theorem EntsOff.start {W w : World} {O : Nat → Prop} {v : Value} {l : List Ent} (h : EntsIn W (· < W.heap.size) v l) (hb : Below W.heap.size W w) (hO : ∀ k, O k → W.heap.size ≤ k) : EntsOff w O v l :=
  RowIn.mono (RowIn.kept h (Kept.of_all hb)) (fun k hk hl => ⟨hl, fun o => by have := hO k o; omega⟩)

def zeroE : Ent := ([], [], 0)
/-- what Get finds -/
def GetIs (l : List Ent) (key : List UInt8) (x : Ent) (is : Bool) : Prop := (is = true ∧ x.1 = key ∧ ∃ i : Nat, l[i]? = some x) ∨ (is = false ∧ x = zeroE ∧ ∀ (i : Nat) e, l[i]? = some e → e.1 ≠ key)
theorem place_get {l : List Ent} {key : List UInt8} {a : Nat} (hr : Rising l) (hp : PlaceIs l key a) (h : hasAt l key a = false) : ∀ (i : Nat) e, l[i]? = some e → e.1 ≠ key := by
  intro i e he hk
  by_cases h1 : i < a
  · have := hp.2.1 i e h1 he
    rw [hk] at this; exact kLt_irrefl _ this
  · by_cases h2 : i = a
    · subst h2
      unfold hasAt at h
      rw [he] at h
      simp [hk] at h
    · have hal : a < l.length := by have := (List.getElem?_eq_some_iff.1 he).1; omega
      have ha : l[a]? = some l[a] := List.getElem?_eq_getElem hal
      have h3 := hp.2.2 a _ (Nat.le_refl _) ha
      have h4 := hr a i _ e (by omega) ha he
      rw [hk] at h4; exact h3 h4
theorem GetIs.one {l : List Ent} {key : List UInt8} {x x' : Ent} {is is' : Bool} (hr : Rising l) (h : GetIs l key x is) (h' : GetIs l key x' is') : x' = x ∧ is' = is := by
  rcases h with ⟨rfl, a1, i, a2⟩ | ⟨rfl, a1, a2⟩ <;> rcases h' with ⟨rfl, b1, j, b2⟩ | ⟨rfl, b1, b2⟩
  · refine ⟨?_, rfl⟩
    by_cases c : i = j
    · subst c; rw [a2] at b2; exact (Option.some.inj b2).symm
    · rcases Nat.lt_or_gt_of_ne c with c | c
      · have := hr _ _ _ _ c a2 b2; rw [a1, b1] at this; exact absurd this (kLt_irrefl _)
      · have := hr _ _ _ _ c b2 a2; rw [a1, b1] at this; exact absurd this (kLt_irrefl _)
  · exact absurd a1 (b2 i x a2)
  · exact absurd b1 (a2 j x' b2)
  · exact ⟨by rw [a1, b1], rfl⟩

/-- a result room of three cells, written -/
theorem room3_put (w : World) (q : Nat) (x y z X Y Z : Value) (h : w.cell? ⟨q, 0, none⟩ = some x ∧ w.cell? ⟨q, 1, none⟩ = some y ∧ w.cell? ⟨q, 2, none⟩ = some z) :
    let W := ((w.setCell ⟨q, 0, none⟩ X).setCell ⟨q, 1, none⟩ Y).setCell ⟨q, 2, none⟩ Z
    (W.cell? ⟨q, 0, none⟩ = some X ∧ W.cell? ⟨q, 1, none⟩ = some Y ∧ W.cell? ⟨q, 2, none⟩ = some Z) ∧ w.grownBy W (some q) := by
  obtain ⟨c0, c1, c2⟩ := h
  intro W
  refine ⟨⟨?_, ?_, ?_⟩, grown_set (grown_set (grown_set (grown_refl _ _) _ _) _ _) _ _⟩
  · rw [World.cell?_setCell_other _ _ _ _ (by simp), World.cell?_setCell_other _ _ _ _ (by simp)]
    exact World.cell?_setCell_same _ _ _ c0
  · rw [World.cell?_setCell_other _ _ _ _ (by simp)]
    exact World.cell?_setCell_same _ _ _ (by rw [World.cell?_setCell_other _ _ _ _ (by simp)]; exact c1)
  · exact World.cell?_setCell_same _ _ _ (by rw [World.cell?_setCell_other _ _ _ _ (by simp), World.cell?_setCell_other _ _ _ _ (by simp)]; exact c2)

set_option maxRecDepth 100000 in
set_option maxHeartbeats 4000000 in
theorem stfind_any (w : World) (p : Nat) (O : Nat → Prop) (l : List Ent) (key : List UInt8) (h : Sto w p O l) (hr : Rising l) (hl : l.length ≤ 100000) :
    Calls Tryz.prog 57 #[.pointer (some ⟨p, 0, none⟩), .string ⟨key.toArray⟩] w fun e w' => ∃ a : Nat, e = .returned (.tuple #[.int .i64 a, .bool (hasAt l key a)]) ∧ PlaceIs l key a ∧ Below w.heap.size w w' := by
  obtain ⟨v, c0, _, _, _, ho, _⟩ := h
  have HV := hideIt (own_in ho)
  have HR := hideIt hr
  obtain ⟨aa, cap, rfl⟩ := own_form ho
  clear ho hr
  go_enter Tryz.func57, Tryz.ntmps57
  go_wp2_with fail
  refine (bsf_any w _ _ l key HV.out hl HR.out).mono ?_
  rintro e w' ⟨a, rfl, hp, hb⟩
  have HP := hideIt (And.intro hp hb)
  clear hp hb
  go_wp2
  refine bodyPost_ret (v := .tuple #[.int .i64 a, .bool (hasAt l key a)]) (by simp [results, Tryz.results57, go_sem]) rfl ?_
  exact ⟨a, rfl, HP.out.1, HP.out.2⟩

set_option maxRecDepth 100000 in
set_option maxHeartbeats 4000000 in
theorem stroom_any (w : World) (p : Nat) (O : Nat → Prop) (l : List Ent) (m : Int) (h : Sto w p O l) (hl : l.length ≤ 128) :
    Calls Tryz.prog 55 #[.pointer (some ⟨p, 0, none⟩), .int .i64 m] w fun e w' => e = .returned (.bool (decide (m ≤ 128 - (l.length : Int)))) ∧ w' = w := by
  obtain ⟨v, c0, _, _, _, ho, _⟩ := h
  obtain ⟨aa, cap, rfl⟩ := own_form ho
  have hw : IntKind.i64.wrap (128 - (l.length : Int)) = 128 - (l.length : Int) := by simp [IntKind.wrap, IntKind.bits, IntKind.signed]; omega
  clear ho
  go_enter Tryz.func55, Tryz.ntmps55
  go_wp2
  go_ret
  exact ⟨rfl, rfl⟩

theorem wrap_one (w : World) (n : Int) (s : ByteArray) (k : Int) : Calls Tryz.prog 73 #[.iface 70 (.int .i64 n), .string s, .int .i64 k] w fun e w' => ∃ er, e = .returned er ∧ One w' (w.heap.size ≤ ·) er n s k ∧ Below w.heap.size w w' := by
  refine (Wrap_some 70 (.int .i64 n) s k w).mono ?_
  rintro e w' ⟨rfl, rfl⟩
  refine ⟨_, rfl, ⟨w.heap.size, rfl, Nat.le_refl _, ?_, ?_, ?_⟩, (Below.refl _ _).alloc (Nat.le_refl _) _⟩
  · rw [World.cell?_alloc_at _ _ _ _ rfl]; rfl
  · rw [World.cell?_alloc_at _ _ _ _ rfl]; rfl
  · rw [World.cell?_alloc_at _ _ _ _ rfl]; rfl

set_option maxRecDepth 100000 in
set_option maxHeartbeats 4000000 in
theorem stwrong_any (w : World) (p : Nat) (O : Nat → Prop) (l : List Ent) (n : Int) (hn : (n == 0) = false) (h : Sto w p O l) :
    Calls Tryz.prog 89 #[.pointer (some ⟨p, 0, none⟩), .int .i64 n] w fun e w' => ∃ er, e = .returned er ∧ One w' (w.heap.size ≤ ·) er n ⟨#[115, 116, 111, 114, 101]⟩ l.length ∧ Below w.heap.size w w' := by
  obtain ⟨v, c0, _, _, _, ho, _⟩ := h
  obtain ⟨aa, cap, rfl⟩ := own_form ho
  have HO := hideIt (fun w => Of_err n hn w)
  clear ho hn
  go_enter Tryz.func89, Tryz.ntmps89
  go_wp2_with fail
  have HWR := hideIt (fun (W : World) (hW : Below w.heap.size w W) => wrap_one W n ⟨#[115, 116, 111, 114, 101]⟩ l.length)
  have HBD : Hid (Below w.heap.size w w.drew) := hideIt (Below.refl _ _).drew
  go_region_with (first
    | (go_at_call 38; refine (HO.out _).mono ?_; rintro e w1 ⟨rfl, rfl⟩)
    | (go_at_call 73; refine (HWR.out _ HBD.out).mono ?_; rintro e w3 ⟨er, rfl, ho, hb⟩
       have HR := hideIt (And.intro ho (HBD.out.trans hb))
       clear ho hb))
  all_goals
    go_wp2
    go_ret
    exact ⟨er, rfl, HR.out.1, HR.out.2⟩
end Go.Proofs.YtohlepbfjgehgaaGreatDoor
