/-
  What is proved here: what the texts below say, one behind the other.
-/
import Derived.Test.YtohlepbfjgehgaaGreatDoorJ4
import Derived.Laws.OwnMore
import Derived.Test.YtohlepbfjgehgaaGreatDoorPM
/-
  What is proved here: route's within, One; over this program.
-/
namespace Go.Proofs.YtohlepbfjgehgaaGreatDoor
open Go.RowKit Go.Extern.Stop Go.Stop Go.Extern

/-- the place behind the last piece of a range -/
def EndIs (l : List Pc) (tk : List UInt8) (b : Nat) : Prop := (tk = [] ∧ b = l.length) ∨ (tk ≠ [] ∧ FindIs (fun x => !(Op.bytesLess x.1 tk)) l b)
theorem end_le {l : List Pc} {tk : List UInt8} {b : Nat} (h : EndIs l tk b) : b ≤ l.length := by
  rcases h with ⟨_, rfl⟩ | ⟨_, h⟩
  · exact Nat.le_refl _
  · exact h.1
theorem end_up {l : List Pc} {tk : List UInt8} {b j : Nat} {x : Pc} (h : EndIs l tk b) (hj : b ≤ j) (hx : l[j]? = some x) : tk ≠ [] ∧ ¬ kLt x.1 tk := by
  rcases h with ⟨_, rfl⟩ | ⟨h0, h⟩
  · have := (List.getElem?_eq_some_iff.1 hx).1; omega
  · refine ⟨h0, fun hk => ?_⟩
    have h1 : (!(Op.bytesLess x.1 tk)) = true := h.2.2 j x hj hx
    rw [show Op.bytesLess x.1 tk = true from hk] at h1; cases h1
theorem end_low {l : List Pc} {tk : List UInt8} {b j : Nat} {x : Pc} (h : EndIs l tk b) (hj : j < b) (hx : l[j]? = some x) : tk = [] ∨ kLt x.1 tk := by
  rcases h with ⟨h0, rfl⟩ | ⟨h0, h⟩
  · exact Or.inl h0
  · refine Or.inr ?_
    have h1 : (!(Op.bytesLess x.1 tk)) = false := h.2.1 j x hj hx
    cases h2 : Op.bytesLess x.1 tk with
    | true => exact h2
    | false => rw [h2] at h1; cases h1
theorem hold_end {l : List Pc} {fk tk : List UInt8} {a b : Nat} (hr : IsRange fk tk) (ha : HoldIs l fk a) (hb : EndIs l tk b) : a < b := by
  refine Classical.byContradiction fun h => ?_
  have hx := List.getElem?_eq_getElem ha.1
  obtain ⟨h1, h2⟩ := end_up hb (show b ≤ a by omega) hx
  rcases hr.2 with h3 | ⟨h3, _⟩
  · exact h1 h3
  · exact h2 (kLe_lt (ha.2.1 a _ (Nat.le_refl _) hx) h3)
theorem alone_iff {l : List Pc} {fk tk : List UInt8} {a b : Nat} (ha : HoldIs l fk a) (hb : EndIs l tk b) (hab : a < b) : b - a ≤ 1 ↔ Alone l fk tk := by
  constructor
  · intro h q hq hf ht
    obtain ⟨j, hj⟩ := List.getElem?_of_mem hq
    by_cases hja : j ≤ a
    · exact ha.2.1 j q hja hj hf
    · obtain ⟨h1, h2⟩ := end_up hb (show b ≤ j by omega) hj
      rcases ht with ht | ht
      · exact h1 ht
      · exact h2 ht
  · intro h
    refine Classical.byContradiction fun h2 => ?_
    have hl := end_le hb
    have hx := List.getElem?_eq_getElem (show a + 1 < l.length by omega)
    exact h _ (List.mem_of_getElem? hx) (ha.2.2 _ _ (by omega) hx) (end_low hb (by omega) hx)

end Go.Proofs.YtohlepbfjgehgaaGreatDoor

/-
  What is proved here: route's cut; over this program.
-/
namespace Go.Proofs.YtohlepbfjgehgaaGreatDoor
open Go.RowKit Go.Extern.Stop Go.Stop Go.Extern

/-- what cut comes to: pieces that are owned, cut -/
def CutPost (w : World) (B : Nat) (v : Value) (l : List Pc) (key : List UInt8) (e : Ending) (w' : World) : Prop :=
  ∃ v' l', e = .returned v' ∧ CutIs l key l' ∧ w'.ownsRow B 62 3 v' l'.length (pcsCells l') ∧ w.grownBy w' v.ownBlock
theorem own_grownB {w w' : World} {B e n : Nat} {v : Value} {xs : List Value} (h : w.ownsRow B e 3 v n xs) (hb : Below w.heap.size w w') : w'.ownsRow B e 3 v n xs := ownsRow_of_block h (fun g hg => hb.block g (ownsRow_lt h hg))

end Go.Proofs.YtohlepbfjgehgaaGreatDoor

/-
  What is proved here: is there a piece of the last epoch? ContainsFunc; pieces of a range, written; over this program.
-/
namespace Go.Proofs.YtohlepbfjgehgaaGreatDoor
open Go.RowKit Go.Extern.Stop Go.Stop Go.Extern

def anyBig (l : List Pc) : Bool := l.any fun p => decide (1099511627776 ≤ p.2.2)
theorem anyBig_iff {l : List Pc} : anyBig l = true ↔ ∃ p ∈ l, 1099511627776 ≤ p.2.2 := by
  unfold anyBig
  rw [List.any_eq_true]
  simp only [decide_eq_true_eq]
/-- some pieces of a slice -/
theorem PcsIn.sub {w : World} {A : Nat → Prop} {g off cap a b : Nat} {l : List Pc} (h : PcsIn w A (.slice (some ⟨g, off, none⟩) l.length cap) l) (hb : b ≤ l.length) : PcsIn w A (.slice (some ⟨g, off + a * 3, none⟩) (b - a) (cap - a)) ((l.drop a).take (b - a)) := by
  have hl : ((l.drop a).take (b - a)).length = b - a := by rw [List.length_take, List.length_drop]; omega
  refine ⟨some ⟨g, off + a * 3, none⟩, cap - a, by rw [hl], (fun e => nomatch e), fun k x hx => ?_⟩
  obtain ⟨a', cap', e1, _, h2⟩ := h
  simp only [Value.slice.injEq] at e1
  obtain ⟨rfl, _, rfl⟩ := e1
  rw [pcsCells_take, pcsCells_drop] at hx
  have hk := (List.getElem?_eq_some_iff.1 hx).1
  rw [List.length_take] at hk
  rw [List.getElem?_take_of_lt (by omega), List.getElem?_drop] at hx
  obtain ⟨b', off', r1, r2, r3⟩ := h2 _ _ hx
  cases r1
  exact ⟨g, off + a * 3, rfl, r2, by rw [Nat.add_assoc]; exact r3⟩
theorem pcsCells_at3 {l : List Pc} {a : Nat} {o : Pc} (ho : l[a]? = some o) (v n : Int) : pcsCells (l.set a (o.1, v, n)) = ((pcsCells l).set (a * 3 + 1) (.int .i64 v)).set (a * 3 + 2) (.int .i64 n) := by
  induction l generalizing a with
  | nil => simp at ho
  | cons x r ih =>
    cases a with
    | zero =>
      simp at ho; subst ho
      rfl
    | succ a =>
      have h1 : pcsCells (x :: r) = .string ⟨x.1.toArray⟩ :: .int .i64 x.2.1 :: .int .i64 x.2.2 :: pcsCells r := rfl
      have h2 : pcsCells (x :: r.set a (o.1, v, n)) = .string ⟨x.1.toArray⟩ :: .int .i64 x.2.1 :: .int .i64 x.2.2 :: pcsCells (r.set a (o.1, v, n)) := rfl
      rw [List.set_cons_succ, h2, h1, ih (by simpa using ho), show (a + 1) * 3 + 1 = (a * 3 + 1) + 1 + 1 + 1 by omega, show (a + 1) * 3 + 2 = (a * 3 + 2) + 1 + 1 + 1 by omega]
      simp only [List.set_cons_succ]
end Go.Proofs.YtohlepbfjgehgaaGreatDoor

/-
  What is proved here: route's Move; over this program.
-/
namespace Go.Proofs.YtohlepbfjgehgaaGreatDoor
open Go.RowKit Go.Extern.Stop Go.Stop Go.Extern

/-- a piece's shard and epoch, written where it lies -/
theorem own_put {w : World} {B g n cap : Nat} {l : List Pc} {a : Nat} {o : Pc} {v m : Int} (h : w.ownsRow B 62 3 (.slice (some ⟨g, 0, none⟩) n cap) n (pcsCells l)) (ho : l[a]? = some o) :
    ((w.setCell ⟨g, a * 3 + 1, none⟩ (.int .i64 v)).setCell ⟨g, a * 3 + 2, none⟩ (.int .i64 m)).ownsRow B 62 3 (.slice (some ⟨g, 0, none⟩) n cap) n (pcsCells (l.set a (o.1, v, m))) ∧ w.grownBy ((w.setCell ⟨g, a * 3 + 1, none⟩ (.int .i64 v)).setCell ⟨g, a * 3 + 2, none⟩ (.int .i64 m)) (some g) := by
  have k1 := World.ownsRow.stored h (a * 3 + 1) (.int .i64 v)
  have k2 := World.ownsRow.stored k1.1 (a * 3 + 2) (.int .i64 m)
  refine ⟨?_, World.grownBy.trans k1.2 k2.2⟩
  rw [pcsCells_at3 ho]
  exact k2.1
/-- what Move comes to -/
def MovePost (w : World) (p : Nat) (A : Nat → Prop) (l : List Pc) (fk tk : List UInt8) (s : Int) (e : Ending) (w' : World) : Prop :=
  ∃ n k l' er, e = .returned er ∧ MoveIs l fk tk s n k l' ∧ ((n = 0 ∧ er = .nilIface) ∨ (n ≠ 0 ∧ One w' (w.heap.size ≤ ·) er n routeS k)) ∧ Rt w' p (fun b => A b ∨ w.heap.size ≤ b) l' ∧ w.grownBy w' (some p)
theorem MovePost.bad {w w' : World} {p : Nat} {A : Nat → Prop} {l : List Pc} {fk tk : List UInt8} {s n k : Int} {er : Value} (hm : MoveIs l fk tk s n k l) (hn : n ≠ 0) (ho : One w' (w.heap.size ≤ ·) er n routeS k) (hr : Rt w p A l) (hb : Below w.heap.size w w') : MovePost w p A l fk tk s (.returned er) w' :=
  ⟨n, k, l, er, rfl, hm, Or.inr ⟨hn, ho⟩, (hr.next hb).mono (fun _ h _ => Or.inl h) (fun h => by
    have hl := Rt.lt hr
    obtain ⟨_, _, _, _, h4⟩ := hr
    rcases h with h | h
    · exact h4 h
    · omega), grown_below hb _⟩
/-- the first m pieces of the range were given -/
def GivenTo (l : List Pc) (a m : Nat) (s : Int) (k : List Pc) : Prop := k.length = l.length ∧ ∀ j x, l[j]? = some x → k[j]? = some (if a ≤ j ∧ j < a + m then (x.1, s, x.2.2 + 1) else x)
theorem given_zero (l : List Pc) (a : Nat) (s : Int) : GivenTo l a 0 s l := ⟨rfl, fun j x hx => by rw [if_neg (by omega)]; exact hx⟩
theorem given_succ {l k : List Pc} {a m : Nat} {s : Int} {o : Pc} (h : GivenTo l a m s k) (ho : l[a + m]? = some o) : k[a + m]? = some o ∧ GivenTo l a (m + 1) s (k.set (a + m) (o.1, s, o.2.2 + 1)) := by
  have h1 := h.2 _ _ ho
  rw [if_neg (by omega)] at h1
  refine ⟨h1, by rw [List.length_set]; exact h.1, fun j x hx => ?_⟩
  rw [List.getElem?_set]
  by_cases e : a + m = j
  · subst e
    rw [ho] at hx; cases hx
    rw [if_pos rfl, if_pos (List.getElem?_eq_some_iff.1 h1).1, if_pos (by omega)]
  · rw [if_neg e, h.2 j x hx]
    by_cases c : a ≤ j ∧ j < a + m
    · rw [if_pos c, if_pos (by omega)]
    · rw [if_neg c, if_neg (by omega)]
theorem in_range {l : List Pc} {fk tk : List UInt8} {a b j : Nat} {x : Pc} (hl : Lin l) (hbeg : ∃ q ∈ l, q.1 = fk) (ha : HoldIs l fk a) (hb : EndIs l tk b) (hx : l[j]? = some x) : inRk fk tk x.1 = true ↔ a ≤ j ∧ j < b := by
  obtain ⟨q, hq, hqe⟩ := hbeg
  obtain ⟨i, hi⟩ := List.getElem?_of_mem hq
  have hia : i = a := by
    rcases Nat.lt_trichotomy i a with c | c | c
    · have h1 := hl.rise.at c hi (List.getElem?_eq_getElem ha.1)
      have h2 := ha.2.1 a _ (Nat.le_refl _) (List.getElem?_eq_getElem ha.1)
      rw [hqe] at h1; exact absurd h1 h2
    · exact c
    · have h1 := ha.2.2 i q c hi
      rw [hqe] at h1; exact absurd h1 (kLt_irrefl _)
  subst hia
  rw [inRk_iff]
  constructor
  · rintro ⟨h1, h2⟩
    refine ⟨Classical.byContradiction fun c => ?_, Classical.byContradiction fun c => ?_⟩
    · have h3 := hl.rise.at (show j < i by omega) hx hi
      rw [hqe] at h3; exact h1 h3
    · obtain ⟨h3, h4⟩ := end_up hb (show b ≤ j by omega) hx
      rcases h2 with h2 | h2
      · exact h3 h2
      · exact h4 h2
  · rintro ⟨h1, h2⟩
    refine ⟨fun h3 => ?_, end_low hb h2 hx⟩
    by_cases e : i = j
    · subst e; rw [hi] at hx; cases hx
      rw [hqe] at h3; exact kLt_irrefl _ h3
    · have h4 := hl.rise.at (show i < j by omega) hi hx
      rw [hqe] at h4; exact kLt_asymm h4 h3
theorem given_all {l k : List Pc} {fk tk : List UInt8} {a b : Nat} {s : Int} (hl : Lin l) (hbeg : ∃ q ∈ l, q.1 = fk) (ha : HoldIs l fk a) (hb : EndIs l tk b) (hab : a < b) (h : GivenTo l a (b - a) s k) : k = l.map (updP fk tk s) := by
  refine List.ext_getElem? fun j => ?_
  rw [List.getElem?_map]
  cases hx : l[j]? with
  | none =>
    rw [List.getElem?_eq_none_iff] at hx
    rw [List.getElem?_eq_none (by rw [h.1]; exact hx)]; rfl
  | some x =>
    rw [h.2 j x hx]
    have h1 := in_range hl hbeg ha hb hx
    show some _ = some (updP fk tk s x)
    unfold updP
    by_cases c : inRk fk tk x.1 = true
    · rw [if_pos c, if_pos (by have := h1.1 c; omega)]
    · rw [if_neg c, if_neg (fun c2 => c (h1.2 ⟨c2.1, by omega⟩))]
theorem big_range {l : List Pc} {fk tk : List UInt8} {a b : Nat} (hl : Lin l) (hbeg : ∃ q ∈ l, q.1 = fk) (ha : HoldIs l fk a) (hb : EndIs l tk b) : anyBig ((l.drop a).take (b - a)) = true ↔ ∃ p ∈ l, inRk fk tk p.1 = true ∧ 1099511627776 ≤ p.2.2 := by
  rw [anyBig_iff]
  constructor
  · rintro ⟨p, hp, h1⟩
    obtain ⟨i, hi, hpi⟩ := mem_upto hp
    rw [List.getElem?_drop] at hpi
    exact ⟨p, List.mem_of_getElem? hpi, (in_range hl hbeg ha hb hpi).2 ⟨by omega, by omega⟩, h1⟩
  · rintro ⟨p, hp, hin, h1⟩
    obtain ⟨j, hj⟩ := List.getElem?_of_mem hp
    obtain ⟨h2, h3⟩ := (in_range hl hbeg ha hb hj).1 hin
    refine ⟨p, List.mem_of_getElem? (i := j - a) ?_, h1⟩
    rw [List.getElem?_take_of_lt (by omega), List.getElem?_drop, show a + (j - a) = j by omega]
    exact hj

end Go.Proofs.YtohlepbfjgehgaaGreatDoor

/-
  What is proved here: the head of cohortlaw09; over this program.
-/
namespace Go.Proofs.YtohlepbfjgehgaaGreatDoor
open Go.RowKit Go.Extern.Stop Go.Stop Go.Extern

/-- a world behind w0, with a Route -/
structure Rs (w0 w : World) (p : Nat) (l : List Pc) : Prop where
  env : Env w0 w
  rt : Rt w p (fun k => k ≠ p) l
  low : w0.heap.size ≤ p
  fit : FitP l
theorem Rs.next {w0 w w' : World} {p : Nat} {l : List Pc} (h : Rs w0 w p l) (hb : Below w.heap.size w w') : Rs w0 w' p l := ⟨h.env.next hb, h.rt.next hb, h.low, h.fit⟩
theorem Rs.new {w0 w w' : World} {p : Nat} {l : List Pc} (h : Env w0 w) (hn : NewRt w w' p l) (hf : FitP l) : Rs w0 w' p l :=
  ⟨h.next hn.2.2, hn.2.1.mono (fun _ hk _ => hk.2) (fun h => h rfl), Nat.le_trans h.1.size hn.1, hf⟩
theorem Rs.move {w0 w w' : World} {p : Nat} {l l' : List Pc} {fk tk : List UInt8} {s n at' : Int} (h : Rs w0 w p l) (hr : Rt w' p (fun b => b ≠ p ∨ w.heap.size ≤ b) l') (hg : w.grownBy w' (some p)) (hm : MoveIs l fk tk s n at' l') : Rs w0 w' p l' :=
  ⟨h.env.grown hg h.low, hr.mono (fun b hb _ => by
    rcases hb with e | e
    · exact e
    · have := h.rt.lt; omega) (fun h => h rfl), h.low, move_fit h.fit hm⟩
theorem Rs.few {w0 w : World} {p : Nat} {l : List Pc} (h : Rs w0 w p l) : l.length ≤ 100000 := by have := h.fit.few; omega
theorem hold_dec {L : List Pc} {key : List UInt8} {a : Nat} (h1 : a < L.length) (h2 : (L.take (a + 1)).all (fun x => !(Op.bytesLess key x.1)) = true) (h3 : (L.drop (a + 1)).all (fun x => Op.bytesLess key x.1) = true) : HoldIs L key a := by
  refine ⟨h1, fun j x hj hx hk => ?_, fun j x hj hx => ?_⟩
  · have h4 := List.all_eq_true.1 h2 x (List.mem_of_getElem? (i := j) (by rw [List.getElem?_take_of_lt (by omega)]; exact hx))
    rw [show Op.bytesLess key x.1 = true from hk] at h4; cases h4
  · exact List.all_eq_true.1 h3 x (List.mem_of_getElem? (i := j - (a + 1)) (by rw [List.getElem?_drop, show a + 1 + (j - (a + 1)) = j by omega]; exact hx))
def headL0 : List Pc := [([], 0, 1)]
def headL1 : List Pc := [([], 0, 1), ([107], 0, 1)]
def headL2 : List Pc := [([], 0, 1), ([107], 0, 1), ([112], 0, 1)]
def headL3 : List Pc := [([], 0, 1), ([107], 2, 2), ([112], 0, 1)]
theorem head_fit : FitP headL0 := by
  refine fit_mk (by decide) (by decide) (fun p hp => ?_) ?_ (fun p hp => ?_)
  · simp [headL0] at hp; subst hp; rfl
  · exact List.pairwise_singleton _ _
  · simp [headL0] at hp; subst hp; unfold PcOk; decide
theorem head_move : MoveIs headL0 [107] [112] 2 0 0 headL3 :=
  Or.inr (Or.inr ⟨⟨by decide, Or.inr ⟨by unfold kLt; decide, by decide⟩⟩, by unfold IsShard; decide, headL1, headL2, ⟨0, ([], 0, 1), hold_dec (by decide) (by decide) (by decide), rfl, Or.inr ⟨by decide, rfl⟩⟩,
    ⟨1, ([107], 0, 1), hold_dec (by decide) (by decide) (by decide), rfl, Or.inr ⟨by decide, rfl⟩⟩, Or.inr (Or.inr ⟨fun p hp _ => by simp [headL2] at hp; rcases hp with rfl | rfl | rfl <;> decide, by decide, rfl, rfl, by decide⟩)⟩)
theorem head_bad : MoveIs headL3 [98] [97] 0 91 0 headL3 :=
  Or.inl ⟨fun h => by
    rcases h.2 with h2 | ⟨h2, _⟩
    · cases h2
    · exact absurd h2 (by unfold kLt; decide), rfl, rfl, rfl⟩
theorem head_ownM : OwnIs headL3 [109] ([107], 2, 2) := ⟨1, hold_dec (by decide) (by decide) (by decide), rfl⟩
theorem head_ownP : OwnIs headL3 [112] ([112], 0, 1) := ⟨2, hold_dec (by decide) (by decide) (by decide), rfl⟩
theorem head_text9 : textL [(routeS, 0)] ++ errText 1 = [114, 111, 117, 116, 101, 32, 48, 58, 32, 99, 111, 104, 111, 114, 116, 58, 32, 101, 114, 114, 111, 114, 32, 49] := by decide +kernel
theorem R3.grown {w w' : World} {p q : Nat} {a b c : Value} (h : R3 w q a b c) (hg : w.grownBy w' (some p)) (hn : q ≠ p) : R3 w' q a b c := by
  have hb := hg.block q h.lt (fun e => hn (by cases e; rfl))
  exact ⟨(World.cell?_of_block (a := ⟨q, 0, none⟩) hb).trans h.1, (World.cell?_of_block (a := ⟨q, 1, none⟩) hb).trans h.2.1, (World.cell?_of_block (a := ⟨q, 2, none⟩) hb).trans h.2.2⟩
theorem PcsIn.nextW {w w' : World} {v : Value} {l : List Pc} (h : PcsIn w (· < w.heap.size) v l) (hb : Below w.heap.size w w') : PcsIn w' (· < w.heap.size) v l := RowIn.kept h (Kept.of_all hb)

end Go.Proofs.YtohlepbfjgehgaaGreatDoor

/-
  What is proved here: plain facts of moves; pieces told once; a move done, in the worlds of the statements; over this program.
-/
namespace Go.Proofs.YtohlepbfjgehgaaGreatDoor
open Go.RowKit Go.Extern.Stop Go.Stop Go.Extern

theorem move_begins {L L' : List Pc} {fk tk : List UInt8} {s a : Int} (h : MoveIs L fk tk s 0 a L') : (∃ q ∈ L', q.1 = fk) ∧ (∃ q ∈ L', q.1 = tk) ∧ (∀ x ∈ L, ∃ q ∈ L', q.1 = x.1) ∧ L.length ≤ L'.length ∧ L'.length ≤ L.length + 2 := by
  obtain ⟨_, _, M1, M2, c1, c2, _, _, rfl⟩ := move_ok h
  have hup : ∀ k, (∃ q ∈ M2, q.1 = k) → ∃ q ∈ M2.map (updP fk tk s), q.1 = k := fun k ⟨q, hq, e⟩ => ⟨_, List.mem_map_of_mem hq, by rw [updP_from]; exact e⟩
  have h12 : ∀ k, (∃ q ∈ M1, q.1 = k) → ∃ q ∈ M2, q.1 = k := fun k ⟨q, hq, e⟩ => ⟨q, (cut_mem c2 q).2 (Or.inl hq), e⟩
  refine ⟨hup _ (h12 _ (cut_begins c1)), hup _ (cut_begins c2), fun x hx => hup _ (h12 _ ⟨x, (cut_mem c1 x).2 (Or.inl hx), rfl⟩), ?_, ?_⟩
  · rw [List.length_map]; exact Nat.le_trans (cut_len c1).1 (cut_len c2).1
  · rw [List.length_map]; have := (cut_len c1).2; have := (cut_len c2).2; omega
/-- a move's error: none, or a wrapped one -/
theorem move_err {w : World} {B : Nat} {er : Value} {n k : Int} (h : (n = 0 ∧ er = .nilIface) ∨ (n ≠ 0 ∧ One w (B ≤ ·) er n routeS k)) : (n = 0 ∧ er = .nilIface) ∨ (n ≠ 0 ∧ ∃ ty y, er = .iface ty y) := by
  rcases h with h | ⟨h, ho⟩
  · exact Or.inl h
  · exact Or.inr ⟨h, ho.iface⟩
/-- pieces that lie apart from a route's own block -/
def PcsNe (w : World) (p : Nat) (v : Value) (l : List Pc) : Prop := PcsIn w (fun k => k ≠ p) v l
theorem PcsNe.next {w w' : World} {p : Nat} {v : Value} {l : List Pc} (h : PcsNe w p v l) (hb : Below w.heap.size w w') : PcsNe w' p v l := RowIn.kept h (Kept.of_all hb)
theorem PcsNe.grown {w w' : World} {p : Nat} {v : Value} {l : List Pc} (h : PcsNe w p v l) (hg : w.grownBy w' (some p)) : PcsNe w' p v l := RowIn.kept h (Kept.of_grown hg (fun e => e rfl))
theorem PcsNe.own {w w' : World} {p : Nat} {v : Value} {l : List Pc} (h : w'.ownsRow w.heap.size 62 3 v l.length (pcsCells l)) (hp : p < w.heap.size) : PcsNe w' p v l :=
  RowIn.mono (own_in h) (fun k hk _ => by have := (World.ownsRow.lt h k hk).1; intro e; omega)
theorem PcsNe.low {w0 w : World} {p : Nat} {v : Value} {l : List Pc} (h : PcsIn w (· < w0.heap.size) v l) (hp : w0.heap.size ≤ p) : PcsNe w p v l := RowIn.mono h (fun k hk _ => by intro e; omega)
/-- what lies ahead of w0 is as it was, wherever a route was moved -/
theorem kept_low {w0 w w' : World} {p : Nat} (hg : w.grownBy w' (some p)) (hp : w0.heap.size ≤ p) : Kept (· < w0.heap.size) w w' := Kept.of_grown hg (fun h => by omega)
theorem kept_next {w0 w w' : World} (hb : Below w.heap.size w w') : Kept (· < w0.heap.size) w w' := Kept.of_all hb
/-- a room of three cells, new, of a piece -/
theorem room_pc (w : World) (x : Pc) : ∃ W, W = w.alloc (.cells #[.string ⟨x.1.toArray⟩, .int .i64 x.2.1, .int .i64 x.2.2] 62) ∧ Below w.heap.size w W ∧ R3 W w.heap.size (.string ⟨x.1.toArray⟩) (.int .i64 x.2.1) (.int .i64 x.2.2) := by
  obtain ⟨W, h1, h2, _, h3, h4, h5⟩ := room3 w 62 (.string ⟨x.1.toArray⟩) (.int .i64 x.2.1) (.int .i64 x.2.2)
  exact ⟨W, h1, h2, h3, h4, h5⟩
theorem Rs.ne {w0 w : World} {p : Nat} {l : List Pc} (h : Rs w0 w p l) {q : Nat} (hq : w.heap.size ≤ q) : q ≠ p := fun e => by have := h.rt.lt; omega
end Go.Proofs.YtohlepbfjgehgaaGreatDoor

/-
  What is proved here: a route beside a row that grows; what owners were told; over this program.
-/
namespace Go.Proofs.YtohlepbfjgehgaaGreatDoor
open Go.RowKit Go.Extern.Stop Go.Stop Go.Extern

/-- a world with a Route whose pieces lie below B -/
structure RsB (w0 w : World) (p B : Nat) (l : List Pc) : Prop where
  env : Env w0 w
  rt : Rt w p (fun k => k ≠ p ∧ k < B) l
  low : w0.heap.size ≤ p
  fit : FitP l
  pB : p < B
  bl : B ≤ w.heap.size
theorem Rs.toB {w0 w : World} {p : Nat} {l : List Pc} (h : Rs w0 w p l) : RsB w0 w p w.heap.size l := ⟨h.env, h.rt.mono (fun _ hk hl => ⟨hk, hl⟩) (fun h => h.1 rfl), h.low, h.fit, h.rt.lt, Nat.le_refl _⟩
theorem RsB.rs {w0 w : World} {p B : Nat} {l : List Pc} (h : RsB w0 w p B l) : Rs w0 w p l := ⟨h.env, h.rt.mono (fun _ hk _ => hk.1) (fun h => h rfl), h.low, h.fit⟩
theorem RsB.next {w0 w w' : World} {p B : Nat} {l : List Pc} (h : RsB w0 w p B l) (hb : Below w.heap.size w w') : RsB w0 w' p B l := ⟨h.env.next hb, h.rt.next hb, h.low, h.fit, h.pB, Nat.le_trans h.bl hb.size⟩
theorem RsB.row {w0 w w' : World} {p B : Nat} {l : List Pc} {r : Option Nat} (h : RsB w0 w p B l) (hg : w.grownBy w' r) (hr : ∀ g, r = some g → B ≤ g) : RsB w0 w' p B l := by
  have hpl := h.pB
  have hlow := h.low
  refine ⟨⟨h.env.1.grown hg h.env.1.size (fun k hk => by have := hr k hk; omega), h.env.2⟩, ?_, h.low, h.fit, h.pB, Nat.le_trans h.bl hg.size⟩
  obtain ⟨v, h1, h2, h3, h4⟩ := h.rt
  have hb := hg.block p (lt_of_cell (a := ⟨p, 0, none⟩) h1) (fun e => by have := hr p e.symm; omega)
  exact ⟨v, (World.cell?_of_block (a := ⟨p, 0, none⟩) hb).trans h1, (World.frozen?_of_block (a := ⟨p, 0, none⟩) hb).trans h2, ⟨RowIn.kept h3.1 (fun k hk hl => hg.block k hl (fun e => by have := hr k e.symm; have := hk.2; omega)), h3.2⟩, h4⟩
theorem R3.row {w w' : World} {q B : Nat} {a b c : Value} {r : Option Nat} (h : R3 w q a b c) (hg : w.grownBy w' r) (hr : ∀ g, r = some g → B ≤ g) (hq : q < B) : R3 w' q a b c := by
  have hb := hg.block q h.lt (fun e => by have := hr q e.symm; omega)
  exact ⟨(World.cell?_of_block (a := ⟨q, 0, none⟩) hb).trans h.1, (World.cell?_of_block (a := ⟨q, 1, none⟩) hb).trans h.2.1, (World.cell?_of_block (a := ⟨q, 2, none⟩) hb).trans h.2.2⟩
/-- the first pieces' owners, as they were told -/
def Told9 (lk : List Pc) (keys : List (List UInt8)) (k : Nat) (was : List Pc) : Prop := was.length = k ∧ ∀ (j : Nat) s y, keys[j]? = some s → was[j]? = some y → OwnIs lk s y
theorem told9_nil (lk : List Pc) (keys : List (List UInt8)) : Told9 lk keys 0 [] := ⟨rfl, fun j s y _ hy => by simp at hy⟩
theorem told9_snoc {lk : List Pc} {keys : List (List UInt8)} {was : List Pc} {k : Nat} {key : List UInt8} {x : Pc} (h : Told9 lk keys k was) (hk : keys[k]? = some key) (hx : OwnIs lk key x) : Told9 lk keys (k + 1) (was ++ [x]) := by
  refine ⟨by simp [h.1], fun j s y hs hy => ?_⟩
  by_cases hj : j < was.length
  · rw [List.getElem?_append_left hj] at hy
    exact h.2 j s y hs hy
  · rw [List.getElem?_append_right (by omega)] at hy
    have h0 : j - was.length = 0 := by
      have := (List.getElem?_eq_some_iff.1 hy).1; simp at this; omega
    rw [h0] at hy
    simp at hy
    subst hy
    obtain rfl : j = k := by have := h.1; omega
    rw [hk] at hs; cases hs
    exact hx
theorem told9_at {lk : List Pc} {keys : List (List UInt8)} {was : List Pc} {k : Nat} {key : List UInt8} (h : Told9 lk keys keys.length was) (hk : keys[k]? = some key) : ∃ y, was[k]? = some y ∧ OwnIs lk key y := by
  have hl := (List.getElem?_eq_some_iff.1 hk).1
  have hw : k < was.length := by rw [h.1]; exact hl
  exact ⟨was[k], List.getElem?_eq_getElem hw, h.2 k key _ hk (List.getElem?_eq_getElem hw)⟩
theorem KeysIn.low {w0 w : World} {v : Value} {l : List (List UInt8)} (h : KeysIn w0 (· < w0.heap.size) v l) (hb : Below w0.heap.size w0 w) : KeysIn w (· < w0.heap.size) v l := RowIn.kept h (Kept.of_below hb (fun _ h _ => h))
end Go.Proofs.YtohlepbfjgehgaaGreatDoor
