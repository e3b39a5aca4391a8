/-
  What is proved here: merkle's top: the digest of a part of the tree over entries; over this program.
-/
import Derived.Test.YtmhbfplaglipnaaGreatDoorME
import Derived.Test.YtmhbfplaglipnaaGreatDoorMP
namespace Go.Proofs.YtmhbfplaglipnaaGreatDoor
open Go.RowKit Go.Extern.Stop Go.Stop Go.Extern

/-- a Book at p, whose blocks are there -/
def Bk (w : World) (p : Nat) (O : Nat → Prop) (T : List (List UInt8)) : Prop := BookSt w p O T ∧ ∀ k, O k → k < w.heap.size
theorem Bk.next {w w' : World} {p : Nat} {O : Nat → Prop} {T : List (List UInt8)} (h : Bk w p O T) (hb : Below w.heap.size w w') : Bk w' p O T :=
  ⟨h.1.kept (Kept.of_all hb), fun k hk => Nat.lt_of_lt_of_le (h.2 k hk) hb.size⟩
theorem Bk.once {w : World} {p : Nat} {O : Nat → Prop} {T : List (List UInt8)} (h : Bk w p O T) : Once T := fun _ _ _ hi hj => h.1.once hi hj
/-- what became of the world and its Book: c texts more at most -/
structure Goes (w : World) (O : Nat → Prop) (T : List (List UInt8)) (w' : World) (O' : Nat → Prop) (T' : List (List UInt8)) (c : Nat) : Prop where
  turn : Turn O w w'
  own : ∀ k, O' k → O k ∨ w.heap.size ≤ k
  exts : Exts T T'
  len : T'.length ≤ T.length + c
theorem Goes.of_below {w w' : World} {O : Nat → Prop} {T : List (List UInt8)} (h : Below w.heap.size w w') : Goes w O T w' O T 0 := ⟨Turn.of_below h, fun _ h => Or.inl h, Exts.refl _, Nat.le_refl _⟩
theorem Goes.trans {w w1 w2 : World} {O O1 O2 : Nat → Prop} {T T1 T2 : List (List UInt8)} {c c1 : Nat} (h : Goes w O T w1 O1 T1 c) (h1 : Goes w1 O1 T1 w2 O2 T2 c1) : Goes w O T w2 O2 T2 (c + c1) :=
  ⟨h.turn.trans h1.turn h.own, fun k hk => by
    rcases h1.own k hk with e | e
    · exact h.own k e
    · exact Or.inr (Nat.le_trans h.turn.size e), h.exts.trans h1.exts, by have := h.len; have := h1.len; omega⟩
theorem Goes.more {w w' : World} {O O' : Nat → Prop} {T T' : List (List UInt8)} {c c' : Nat} (h : Goes w O T w' O' T' c) (hc : c ≤ c') : Goes w O T w' O' T' c' := ⟨h.turn, h.own, h.exts, Nat.le_trans h.len (by omega)⟩
theorem Goes.pre {w w1 w' : World} {O O' : Nat → Prop} {T T' : List (List UInt8)} {c : Nat} (hb : Below w.heap.size w w1) (h : Goes w1 O T w' O' T' c) : Goes w O T w' O' T' c := by
  have := (Goes.of_below (O := O) (T := T) hb).trans h
  rwa [Nat.zero_add] at this
theorem Goes.below {w w' : World} {O O' : Nat → Prop} {T T' : List (List UInt8)} {c B : Nat} (h : Goes w O T w' O' T' c) (hO : ∀ k, O k → B ≤ k) (hB : B ≤ w.heap.size) : Below B w w' := h.turn.below hO hB
theorem Goes.cell {w w' : World} {O O' : Nat → Prop} {T T' : List (List UInt8)} {c : Nat} (h : Goes w O T w' O' T' c) {a : Addr} {v : Value} (hc : w.cell? a = some v) (hn : ¬ O a.block) : w'.cell? a = some v := turn_cell h.turn hc hn
theorem Goes.not {w w' : World} {O O' : Nat → Prop} {T T' : List (List UInt8)} {c : Nat} (h : Goes w O T w' O' T' c) {k : Nat} (hk : k < w.heap.size) (hn : ¬ O k) : ¬ O' k := fun o => by
  rcases h.own k o with e | e
  · exact hn e
  · omega
theorem exts_comes (T : List (List UInt8)) (s : List UInt8) : Exts T (comes T s) := fun _ _ h => comes_old h
theorem Asked.goes {w w' : World} {p : Nat} {O : Nat → Prop} {T : List (List UInt8)} {s : List UInt8} {e : Ending} (h : Asked w p O T s e w') :
    ∃ (d : Nat) (O' : Nat → Prop), e = .returned (.tuple #[.int .i64 d, .nilIface]) ∧ Bk w' p O' (comes T s) ∧ Goes w O T w' O' (comes T s) 1 ∧ Dig (comes T s) s d ∧ d ≤ 65536 := by
  obtain ⟨d, O', h1, h2, h3, h4, h5⟩ := h
  have := (List.getElem?_eq_some_iff.1 h2).1
  have := h3.short
  exact ⟨d, O', h1, ⟨h3, fun k hk => (h5 k hk).2⟩, ⟨h4, fun k hk => (h5 k hk).1, exts_comes T s, comes_le T s⟩, Dig.nat h2, by omega⟩

/-- how many texts a part of n leaves may ask for -/
def cost (n : Nat) : Nat := if n = 0 then 1 else 2 * n - 1
theorem cost_halves {n : Nat} (h : 2 ≤ n) : cost (pw n) + cost (n - pw n) + 1 = cost n := by
  have := pw_lt h
  have := pw_pos n
  unfold cost
  rw [if_neg (by omega), if_neg (by omega), if_neg (by omega)]; omega
theorem cost_one : cost 1 = 1 := rfl
theorem cost_pos (n : Nat) : 1 ≤ cost n := by unfold cost; split <;> omega

/-- the part of n entries from lo on -/
def part (l : List Ent) (lo n : Nat) : List Ent := (l.drop lo).take n
theorem part_length {l : List Ent} {lo n : Nat} (h : lo + n ≤ l.length) : (part l lo n).length = n := by simp [part]; omega
theorem part_first {l : List Ent} {lo n k : Nat} (h : k ≤ n) : (part l lo n).take k = part l lo k := by simp [part, List.take_take, Nat.min_eq_left h]
theorem part_other {l : List Ent} {lo n k : Nat} : (part l lo n).drop k = part l (lo + k) (n - k) := by simp [part, List.drop_take, List.drop_drop]
theorem part_one {l : List Ent} {lo : Nat} {e : Ent} (h : l[lo]? = some e) : part l lo 1 = [e] := by
  obtain ⟨hl, rfl⟩ := List.getElem?_eq_some_iff.1 h
  simp [part, List.take_one, List.head?_drop, hl]
theorem part_all (l : List Ent) : part l 0 l.length = l := by simp [part]
theorem part_mem {l : List Ent} {lo n : Nat} {e : Ent} (h : e ∈ part l lo n) : e ∈ l := List.mem_of_mem_drop (List.mem_of_mem_take h)

/-- what top's functions lean on: the Book at p, its pointer at qb and at qn, the entries' slice v at ql -/
def TopI (p qb qn ql : Nat) (A : Nat → Prop) (v : Value) (l : List Ent) (w : World) (t : (Nat → Prop) × List (List UInt8)) : Prop :=
  Bk w p t.1 t.2 ∧ (w.cell? ⟨qb, 0, none⟩ = some (.pointer (some ⟨p, 0, none⟩)) ∧ ¬ t.1 qb) ∧ (w.cell? ⟨qn, 0, none⟩ = some (.pointer (some ⟨p, 0, none⟩)) ∧ ¬ t.1 qn) ∧ (w.cell? ⟨ql, 0, none⟩ = some v ∧ ¬ t.1 ql) ∧ EntsIn w (fun k => A k ∧ k < w.heap.size ∧ ¬ t.1 k) v l
theorem TopI.next {p qb qn ql : Nat} {A : Nat → Prop} {v : Value} {l : List Ent} {w w' : World} {t : (Nat → Prop) × List (List UInt8)} (h : TopI p qb qn ql A v l w t) (hb : Below w.heap.size w w') : TopI p qb qn ql A v l w' t := by
  obtain ⟨h1, ⟨h2, n2⟩, ⟨h3, n3⟩, ⟨h4, n4⟩, h5⟩ := h
  exact ⟨h1.next hb, ⟨(hb.cell (lt_of_cell h2)).trans h2, n2⟩, ⟨(hb.cell (lt_of_cell h3)).trans h3, n3⟩, ⟨(hb.cell (lt_of_cell h4)).trans h4, n4⟩, RowIn.mono (RowIn.kept h5 (Kept.of_all hb)) (fun k hk hl => ⟨hk.1, hl, hk.2.2⟩)⟩
theorem TopI.goes {p qb qn ql : Nat} {A : Nat → Prop} {v : Value} {l : List Ent} {w w' : World} {t t' : (Nat → Prop) × List (List UInt8)} {c : Nat} (h : TopI p qb qn ql A v l w t) (hb : Bk w' p t'.1 t'.2) (hg : Goes w t.1 t.2 w' t'.1 t'.2 c) : TopI p qb qn ql A v l w' t' := by
  obtain ⟨h1, ⟨h2, n2⟩, ⟨h3, n3⟩, ⟨h4, n4⟩, h5⟩ := h
  refine ⟨hb, ⟨hg.cell h2 n2, hg.not (lt_of_cell h2) n2⟩, ⟨hg.cell h3 n3, hg.not (lt_of_cell h3) n3⟩, ⟨hg.cell h4 n4, hg.not (lt_of_cell h4) n4⟩, ?_⟩
  exact RowIn.mono (RowIn.kept h5 (hg.turn.kept (fun k hk _ => hk.2.2))) (fun k hk hl => ⟨hk.1, hl, hg.not hk.2.1 hk.2.2⟩)
/-- what top's functions say of a part -/
def TopP (p qb qn ql : Nat) (A : Nat → Prop) (v : Value) (l : List Ent) (lo n : Nat) (w : World) (t : (Nat → Prop) × List (List UInt8)) (x : Value) (w' : World) (t' : (Nat → Prop) × List (List UInt8)) : Prop :=
  TopI p qb qn ql A v l w' t' ∧ Goes w t.1 t.2 w' t'.1 t'.2 (cost n) ∧ ∃ (f : Nat) (d : Nat), x = .int .i64 d ∧ d ≤ 65536 ∧ TopIs t'.2 f (part l lo n) d
theorem fits_small {d : Nat} (h : d ≤ 65536) : fits (d : Int) := by unfold fits; omega

set_option maxRecDepth 100000 in
set_option maxHeartbeats 8000000 in
theorem mtopA_any (w : World) (p qb qn ql : Nat) (A : Nat → Prop) (v : Value) (l : List Ent) (t : (Nat → Prop) × List (List UInt8)) (lo : Nat) (h : TopI p qb qn ql A v l w t) (hok : ∀ e ∈ l, okE e) (hlo : lo < l.length) (hT : t.2.length + 1 ≤ 65536) :
    Calls Tryz.prog 44 #[.int .i64 lo, .pointer (some ⟨qb, 0, none⟩), .pointer (some ⟨ql, 0, none⟩)] w fun e w' => ∃ x t', e = .returned (.tuple #[x, .nilIface]) ∧ TopP p qb qn ql A v l lo 1 w t x w' t' := by
  have H := hideIt h
  have HK := hideIt hok
  have HT := hideIt hT
  obtain ⟨_, ⟨cb, _⟩, _, ⟨cl, _⟩, hv⟩ := h
  obtain ⟨a, cap, rfl⟩ := hv.form
  obtain ⟨e, he⟩ : ∃ e, l[lo]? = some e := ⟨l[lo], by simp [hlo]⟩
  obtain ⟨b, off, rfl, _, c0, c1, c2⟩ := EntsIn.at hv he
  have HE := hideIt he
  have h1 : (lo : Int) < (l.length : Int) := by omega
  have HBD : Hid (BookSt w.drew p t.1 t.2) := hideIt (H.out.1.1.kept (Kept.of_all (below_drew w)))
  clear hv hok hT he
  go_enter Tryz.func44, Tryz.ntmps44
  go_wp2_with fail
  go_region_with (go_at_call 45
                  refine (mleafD_any _ p t.1 t.2 e HBD.out (HK.out e (List.mem_of_getElem? HE.out)) (by have := HT.out; omega)).mono ?_
                  rintro e1 w1 hA
                  obtain ⟨d, O', rfl, hA2⟩ := (Asked.back (below_drew w) hA).goes
                  have HA := hideIt hA2
                  clear hA hA2)
  all_goals
    go_wp2
    go_ret2
    obtain ⟨g1, g2, g3, g4⟩ := HA.out
    exact ⟨_, (O', comes t.2 (leafT e)), rfl, H.out.goes g1 g2, g2, 1, d, rfl, g4, by rw [part_one HE.out]; exact Or.inr (Or.inl ⟨e, rfl, HK.out e (List.mem_of_getElem? HE.out), g3⟩)⟩

set_option maxRecDepth 100000 in
set_option maxHeartbeats 8000000 in
theorem mtopB_any (w : World) (p qb qn ql : Nat) (A : Nat → Prop) (v : Value) (l : List Ent) (t : (Nat → Prop) × List (List UInt8)) (u0 u1 : Int) (h : TopI p qb qn ql A v l w t) (hT : t.2.length + 1 ≤ 65536) (lo : Nat) :
    Calls Tryz.prog 46 #[.agg #[.int .i64 u0, .int .i64 u1], .pointer (some ⟨qb, 0, none⟩)] w fun e w' => ∃ x t', e = .returned (.tuple #[x, .nilIface]) ∧ TopP p qb qn ql A v l lo 0 w t x w' t' := by
  have H := hideIt h
  have HT := hideIt hT
  obtain ⟨_, ⟨cb, _⟩, _⟩ := h
  have HBK := hideIt H.out.1.1
  have HN : Hid (textB sNone ++ [].flatMap numB = noneT) := hideIt (by simp [noneT])
  have HC : Hid (∀ w', Below w.heap.size w w' → w'.cell? ⟨qb, 0, none⟩ = some (.pointer (some ⟨p, 0, none⟩))) := hideIt (fun w' hb => (hb.cell (lt_of_cell cb)).trans cb)
  have HLN : Hid (noneT.length ≤ 65536) := hideIt (by decide)
  clear hT
  go_enter Tryz.func46, Tryz.ntmps46
  go_wp2_with fail
  obtain ⟨W, hW, hwb⟩ : ∃ W, W = w.alloc (.cells #[.int .i64 u0, .int .i64 u1] 61) ∧ Below w.heap.size w W := ⟨_, rfl, (Below.refl _ _).alloc (Nat.le_refl _) _⟩
  rw [← hW]
  have hc1 := HC.out W hwb
  have HBD : Hid (Below w.heap.size w W.drew) := hideIt (hwb.drew)
  have HND := hideIt (nums_none W.drew (fun _ => True))
  clear hW hwb
  go_region_with (first
    | (go_at_call 48
       refine (begun_book HBK.out HBD.out sNone _ _ [] HND.out (by decide) (by simp)).mono ?_
       rintro e w1 ⟨qq, rfl, hqq, hst, _, hb, hbk⟩
       rw [HN.out] at hst
       have hc2 := HC.out w1 hb.out)
    | (go_at_call 47
       refine (ask_back hbk.out hb.out hst.out HLN.out (by have := HT.out; omega)).mono ?_
       rintro e w2 ⟨⟨d0, rfl⟩, hA⟩))
  all_goals
    go_wp2
    go_ret2
    obtain ⟨d, O', he, g1, g2, g3, g4⟩ := hA.out.goes
    simp only [Ending.returned.injEq, Value.tuple.injEq] at he
    have he2 : (d0 : Int) = d := by simpa using he
    exact ⟨_, (O', comes t.2 noneT), rfl, H.out.goes g1 g2, g2, 1, d, by rw [← he2]; rfl, g4, Or.inl ⟨by simp [part], g3⟩⟩
end Go.Proofs.YtmhbfplaglipnaaGreatDoor
