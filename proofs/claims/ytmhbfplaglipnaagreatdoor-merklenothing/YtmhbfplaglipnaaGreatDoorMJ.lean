/-
  What is proved here: merkle's beside: the tops of the parts that lie beside what is proven; over this program.
-/
import Derived.Test.YtmhbfplaglipnaaGreatDoorMI
import Derived.Test.YtmhbfplaglipnaaGreatDoorMF
import Derived.Test.YtmhbfplaglipnaaGreatDoorStepN
namespace Go.Proofs.YtmhbfplaglipnaaGreatDoor
open Go.RowKit Go.Extern.Stop Go.Stop Go.Extern

/-- a row of ints of one's own, apart from the Book's blocks, in blocks from B on -/
def Mine (w : World) (O : Nat → Prop) (B : Nat) (x : Value) (ds : List Int) : Prop :=
  w.ownsRow 0 3 1 x ds.length (numCells ds) ∧ ∀ g, x.ownBlock = some g → B ≤ g ∧ g < w.heap.size ∧ ¬ O g
theorem Mine.goes {w w' : World} {O O' : Nat → Prop} {T T' : List (List UInt8)} {c B : Nat} {x : Value} {ds : List Int} (h : Mine w O B x ds) (hg : Goes w O T w' O' T' c) : Mine w' O' B x ds :=
  ⟨ownsRow_of_block h.1 (fun g e => hg.turn.block g (h.2 g e).2.1 (h.2 g e).2.2), fun g e => ⟨(h.2 g e).1, Nat.lt_of_lt_of_le (h.2 g e).2.1 hg.turn.size, hg.not (h.2 g e).2.1 (h.2 g e).2.2⟩⟩
theorem Mine.nums {w : World} {O : Nat → Prop} {B : Nat} {x : Value} {ds : List Int} (h : Mine w O B x ds) : NumsIn w (fun _ => True) x ds := RowIn.of_own h.1 (fun _ _ => trivial)
theorem Mine.none (w : World) (O : Nat → Prop) (B : Nat) : Mine w O B (.slice none 0 0) [] := ⟨World.ownsRow_nil _ _ _ _, fun g e => by cases e⟩
theorem Mine.form {w : World} {O : Nat → Prop} {B : Nat} {x : Value} {ds : List Int} (h : Mine w O B x ds) : ∃ a cap, x = .slice a ds.length cap := own_form h.1

/-- what beside's functions lean on: the Book at p, its pointer at qb, the entries' slice v at ql -/
def BesI (p qb ql : Nat) (v : Value) (l : List Ent) (w : World) (t : (Nat → Prop) × List (List UInt8)) : Prop :=
  Bk w p t.1 t.2 ∧ (w.cell? ⟨qb, 0, none⟩ = some (.pointer (some ⟨p, 0, none⟩)) ∧ ¬ t.1 qb) ∧ (w.cell? ⟨ql, 0, none⟩ = some v ∧ ¬ t.1 ql) ∧ EntsAp w t.1 v l
theorem BesI.next {p qb ql : Nat} {v : Value} {l : List Ent} {w w' : World} {t : (Nat → Prop) × List (List UInt8)} (h : BesI p qb ql v l w t) (hb : Below w.heap.size w w') : BesI p qb ql v l w' t := by
  obtain ⟨h1, ⟨h2, n2⟩, ⟨h4, n4⟩, h5⟩ := h
  exact ⟨h1.next hb, ⟨(hb.cell (lt_of_cell h2)).trans h2, n2⟩, ⟨(hb.cell (lt_of_cell h4)).trans h4, n4⟩, h5.next hb⟩
theorem BesI.goes {p qb ql : Nat} {v : Value} {l : List Ent} {w w' : World} {t t' : (Nat → Prop) × List (List UInt8)} {c : Nat} (h : BesI p qb ql v l w t) (hb : Bk w' p t'.1 t'.2) (hg : Goes w t.1 t.2 w' t'.1 t'.2 c) : BesI p qb ql v l w' t' := by
  obtain ⟨_, ⟨h2, n2⟩, ⟨h4, n4⟩, h5⟩ := h
  exact ⟨hb, ⟨hg.cell h2 n2, hg.not (lt_of_cell h2) n2⟩, ⟨hg.cell h4 n4, hg.not (lt_of_cell h4) n4⟩, h5.goes hg⟩
/-- what beside's functions say of a part -/
def BesP (p qb ql F m : Nat) (v : Value) (l : List Ent) (lo n : Nat) (w : World) (t : (Nat → Prop) × List (List UInt8)) (x : Value) (w' : World) (t' : (Nat → Prop) × List (List UInt8)) : Prop :=
  BesI p qb ql v l w' t' ∧ Goes w t.1 t.2 w' t'.1 t'.2 (cost n) ∧ ∃ (f : Nat) (ds : List Int), Mine w' t'.1 w.heap.size x ds ∧ ((∀ d ∈ ds, 0 ≤ d ∧ d ≤ 65536) ∧ ds.length ≤ max 1 n) ∧ ProvIs t'.2 F m f lo (part l lo n) ds []

theorem mbesA_any (w : World) (u : Value) : Calls Tryz.prog 56 #[u] w fun e w' => e = .returned (.tuple #[.slice none 0 0, .nilIface]) ∧ w' = w := by
  go_enter Tryz.func56, Tryz.ntmps56
  go_wp2
  go_ret2
  exact ⟨rfl, rfl⟩

theorem one_int (w : World) (d : Int) : (w.alloc (.cells #[.int .i64 d] 3)).ownsRow 0 3 1 (.slice (some ⟨w.heap.size, 0, none⟩) 1 1) 1 (numCells [d]) := by
  refine ⟨rfl, Or.inr ⟨w.heap.size, 1, #[.int .i64 d], rfl, Nat.zero_le _, ?_, Nat.le_refl _, by unfold maxLen; decide, rfl, rfl⟩⟩
  exact heap_alloc_new w _

theorem mine_one (w : World) (O : Nat → Prop) (B : Nat) (d : Int) (hB : B ≤ w.heap.size) (hO : ∀ k, O k → k < w.heap.size) : Mine (w.alloc (.cells #[.int .i64 d] 3)) O B (.slice (some ⟨w.heap.size, 0, none⟩) 1 1) [d] := by
  refine ⟨one_int w d, fun g hg => ?_⟩
  have e : w.heap.size = g := by simpa [Value.ownBlock] using hg
  subst e
  exact ⟨hB, by simp, fun ho => by have := hO _ ho; omega⟩

set_option maxRecDepth 100000 in
set_option maxHeartbeats 8000000 in
theorem mbesB_any (w : World) (p qb ql F m : Nat) (v : Value) (l : List Ent) (t : (Nat → Prop) × List (List UInt8)) (lo n : Nat) (h : BesI p qb ql v l w t) (hok : ∀ e ∈ l, okE e) (hl : l.length ≤ 1024) (h0 : lo + n ≤ l.length) (hn : 1 ≤ n ∨ lo = 0) (hT : t.2.length + cost n ≤ 65536) (ho : Out F m lo n) :
    Calls Tryz.prog 57 #[.agg #[.int .i64 lo, .int .i64 n], .pointer (some ⟨qb, 0, none⟩), .pointer (some ⟨ql, 0, none⟩)] w fun e w' => ∃ x t', e = .returned (.tuple #[x, .nilIface]) ∧ BesP p qb ql F m v l lo n w t x w' t' := by
  have H := hideIt h
  have HX := hideIt (And.intro hok (And.intro hl (And.intro h0 (And.intro hn (And.intro hT ho)))))
  obtain ⟨_, ⟨cb, _⟩, ⟨cl, _⟩, hv⟩ := h
  obtain ⟨a, cap, rfl⟩ := hv.form
  obtain ⟨W, hW, hwb⟩ : ∃ W, W = w.alloc (.cells #[.int .i64 lo, .int .i64 n] 61) ∧ Below w.heap.size w W := ⟨_, rfl, (Below.refl _ _).alloc (Nat.le_refl _) _⟩
  have cb1 := (hwb.cell (lt_of_cell cb)).trans cb
  have cl1 := (hwb.cell (lt_of_cell cl)).trans cl
  have HWB := hideIt hwb
  have HI := hideIt (H.out.next hwb)
  clear hv hok hl h0 hn hT ho hwb cb cl
  subst hW
  go_enter Tryz.func57, Tryz.ntmps57
  go_wp2_with fail
  generalize w.alloc (.cells #[.int .i64 lo, .int .i64 n] 61) = W at HWB HI cb1 cl1 ⊢
  refine (mtop_any W p t.1 _ t.2 _ l lo n HI.out.1 HI.out.2.2.2 (fun k hk _ => hk.2) HX.out.1 HX.out.2.1 HX.out.2.2.1 HX.out.2.2.2.1 HX.out.2.2.2.2.1).mono ?_
  rintro e w2 ⟨f, d, O1, T1, rfl, k1, k2, k3, k4⟩
  have HK := hideIt (And.intro k1 (And.intro k2 (And.intro k3 k4)))
  clear k1 k2 k3 k4
  go_wp2
  go_ret2
  obtain ⟨k1, k2, k3, k4⟩ := HK.out
  have hb : Below w2.heap.size w2 (w2.alloc (.cells #[.int .i64 (d : Int)] 3)) := (Below.refl _ _).alloc (Nat.le_refl _) _
  have hg := k2.trans (Goes.of_below (O := O1) (T := T1) hb)
  have hsz : w.heap.size ≤ w2.heap.size := Nat.le_trans HWB.out.size k2.turn.size
  refine ⟨_, (O1, T1), rfl, HI.out.goes (k1.next hb) hg, Goes.pre HWB.out hg, f + 1, [(d : Int)], mine_one w2 O1 _ d hsz k1.2, ⟨?_, by simp; omega⟩, ?_⟩
  · intro x hx
    simp only [List.mem_singleton] at hx
    subst hx
    omega
  · refine Or.inl ⟨?_, f, d, k4, rfl⟩
    rw [part_length HX.out.2.2.1]; exact HX.out.2.2.2.2.2

set_option maxRecDepth 100000 in
set_option maxHeartbeats 8000000 in
theorem mbesC_any (w : World) (O : Nat → Prop) (B : Nat) (x y : Value) (ds es : List Int) (hx : Mine w O B x ds) (hy : NumsIn w (fun _ => True) y es) (hl : ds.length + es.length ≤ 100000) :
    Calls Tryz.prog 58 #[x, y] w fun e w' => ∃ z, e = .returned (.tuple #[z, .nilIface]) ∧ w'.ownsRow 0 3 1 z (ds ++ es).length (numCells (ds ++ es)) ∧ w.grownBy w' x.ownBlock ∧ (z.ownBlock = x.ownBlock ∨ z.ownBlock = some w.heap.size) := by
  have HX := hideIt hx
  have HY := hideIt hy
  obtain ⟨a, cap, rfl⟩ := hx.form
  obtain ⟨a2, cap2, rfl⟩ := NumsIn.form hy
  obtain ⟨i0, hi, hi2⟩ := Option.map_eq_some_iff.1 infoI
  obtain ⟨hz0, hz1, hz2⟩ : i0.zero = some (.int .i64 0) ∧ i0.size = 1 ∧ i0.bytes = 8 := by
    simp only [Prod.mk.injEq] at hi2; exact hi2
  have HI := hideIt (And.intro hi (And.intro hz0 (And.intro hz1 hz2)))
  clear hx hy hi2 hi hz0 hz1 hz2
  go_enter Tryz.func58, Tryz.ntmps58
  go_wp2_with (at_builtin; refine wpList_append_nums rfl _ _ 23 rfl 0 3 i0 (.int .i64 0) Tryz.underlying23 HI.out.1 HI.out.2.1 HI.out.2.2.1 HI.out.2.2.2 rfl _ _ _ rfl HX.out.1 _ _ es rfl HY.out ?k1 (Nat.zero_le _) ?_)
  case k1 => omega
  intro z w2 h1 h2 h3
  have HZ := hideIt (And.intro h1 (And.intro h2 h3))
  obtain ⟨az, capz, rfl⟩ := own_form h1
  clear h1 h2 h3
  go_wp2
  go_ret2
  obtain ⟨h1, h2, h3⟩ := HZ.out
  refine ⟨_, rfl, ?_, h2, h3⟩
  rw [List.length_append]
  simpa [numCells] using h1
end Go.Proofs.YtmhbfplaglipnaaGreatDoor
