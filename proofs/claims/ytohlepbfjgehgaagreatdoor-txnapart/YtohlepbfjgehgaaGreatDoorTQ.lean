/-
  What is proved here: two stores side by side; plain facts of two transactions without a key in common; over this program.
-/
import Derived.Test.YtohlepbfjgehgaaGreatDoorTP
namespace Go.Proofs.YtohlepbfjgehgaaGreatDoor
open Go.RowKit Go.Extern.Stop Go.Stop Go.Extern

theorem Sto.apart {w w' : World} {p : Nat} {O O2 : Nat → Prop} {l : List Ent} (h : Sto w p O l) (ht : Turn O2 w w') (hd : ∀ k, O k → ¬ O2 k) : Sto w' p O l := by
  obtain ⟨v, h1, h2, h3, h4, h5, h6⟩ := h
  have hblk := ht.block p (h4 p h3) (hd p h3)
  exact ⟨v, (World.cell?_of_block (a := ⟨p, 0, none⟩) hblk).trans h1, (World.frozen?_of_block (a := ⟨p, 0, none⟩) hblk).trans h2, h3, fun k hk => Nat.lt_of_lt_of_le (h4 k hk) ht.size, ownsRow_of_block h5 (fun g hgg => ht.block g (h4 g (h6 g hgg).1) (hd g (h6 g hgg).1)), h6⟩
theorem Sto.low {w : World} {p : Nat} {O : Nat → Prop} {l : List Ent} (h : Sto w p O l) : ∀ k, O k → k < w.heap.size := by
  obtain ⟨v, h1, h2, h3, h4, h5, h6⟩ := h
  exact h4
/-- a world behind w0, with two stores -/
structure Two (w0 w : World) (pa : Nat) (Oa : Nat → Prop) (la : List Ent) (pb : Nat) (Ob : Nat → Prop) (lb : List Ent) : Prop where
  env : Env w0 w
  a : Sto w pa Oa la
  b : Sto w pb Ob lb
  lowA : ∀ k, Oa k → w0.heap.size ≤ k
  lowB : ∀ k, Ob k → w0.heap.size ≤ k
  apart : ∀ k, Oa k → ¬ Ob k
theorem Two.next {w0 w w' : World} {pa pb : Nat} {Oa Ob : Nat → Prop} {la lb : List Ent} (h : Two w0 w pa Oa la pb Ob lb) (hb : Below w.heap.size w w') : Two w0 w' pa Oa la pb Ob lb :=
  ⟨h.env.next hb, h.a.next hb, h.b.next hb, h.lowA, h.lowB, h.apart⟩
theorem Two.moveA {w0 w w' : World} {pa pb : Nat} {Oa Oa' Ob : Nat → Prop} {la la' lb : List Ent} (h : Two w0 w pa Oa la pb Ob lb) (hs : Sto w' pa Oa' la') (hg : Move w Oa w' Oa') : Two w0 w' pa Oa' la' pb Ob lb :=
  have hd : ∀ k, Ob k → ¬ Oa k := fun k hb ha => h.apart k ha hb
  ⟨h.env.turned hg.turn h.lowA, hs, h.b.apart hg.turn hd, fun k hk => by
    rcases hg.own k hk with e | e
    · exact h.lowA k e
    · exact Nat.le_trans h.env.1.size e, h.lowB, fun k ha hb => hg.not (h.b.low k hb) (hd k hb) ha⟩
theorem Two.moveB {w0 w w' : World} {pa pb : Nat} {Oa Ob Ob' : Nat → Prop} {la lb lb' : List Ent} (h : Two w0 w pa Oa la pb Ob lb) (hs : Sto w' pb Ob' lb') (hg : Move w Ob w' Ob') : Two w0 w' pa Oa la pb Ob' lb' :=
  ⟨h.env.turned hg.turn h.lowB, h.a.apart hg.turn h.apart, hs, h.lowA, fun k hk => by
    rcases hg.own k hk with e | e
    · exact h.lowB k e
    · exact Nat.le_trans h.env.1.size e, fun k ha => hg.not (h.a.low k ha) (h.apart k ha)⟩

/-- apart from both stores -/
def Off (w : World) (Oa Ob : Nat → Prop) (k : Nat) : Prop := k < w.heap.size ∧ ¬ Oa k ∧ ¬ Ob k
theorem Off.own {w0 w w' : World} {pa pb : Nat} {Oa Ob : Nat → Prop} {la lb : List Ent} {v : Value} {T : List (List UInt8)} (h : Two w0 w pa Oa la pb Ob lb) (ho : w'.ownsRow w.heap.size 9 1 v T.length (keyCells T)) : SIn w' (Off w' Oa Ob) v T :=
  RowIn.mono (RowIn.of_own (A := fun k => w.heap.size ≤ k) ho (fun _ hk => hk)) (fun k hk hl => ⟨hl, fun o => by have := h.a.low k o; omega, fun o => by have := h.b.low k o; omega⟩)
theorem Off.next {w w' : World} {Oa Ob : Nat → Prop} {v : Value} {n : Nat} {cs : List Value} (h : RowIn w (Off w Oa Ob) v n cs) (hb : Below w.heap.size w w') : RowIn w' (Off w' Oa Ob) v n cs :=
  RowIn.mono (RowIn.kept h (Kept.of_all hb)) (fun _ hk hl => ⟨hl, hk.2⟩)
theorem Off.moveA {w w' : World} {Oa Oa' Ob : Nat → Prop} {v : Value} {n : Nat} {cs : List Value} (h : RowIn w (Off w Oa Ob) v n cs) (hg : Move w Oa w' Oa') : RowIn w' (Off w' Oa' Ob) v n cs :=
  RowIn.over h (hg.turn.kept (fun _ hk _ => hk.2.1)) (fun _ hk hl => ⟨Nat.lt_of_lt_of_le hl hg.turn.size, hg.not hl hk.2.1, hk.2.2⟩)
theorem Off.moveB {w w' : World} {Oa Ob Ob' : Nat → Prop} {v : Value} {n : Nat} {cs : List Value} (h : RowIn w (Off w Oa Ob) v n cs) (hg : Move w Ob w' Ob') : RowIn w' (Off w' Oa Ob') v n cs :=
  RowIn.over h (hg.turn.kept (fun _ hk _ => hk.2.2)) (fun _ hk hl => ⟨Nat.lt_of_lt_of_le hl hg.turn.size, hk.2.1, hg.not hl hk.2.2⟩)
theorem all_same {α : Type} {p q : α → Bool} {l : List α} (h : ∀ x ∈ l, p x = q x) : l.all p = l.all q := by
  induction l with
  | nil => rfl
  | cons x r ih => rw [List.all_cons, List.all_cons, h x (by simp), ih (fun y hy => h y (List.mem_cons_of_mem _ hy))]
theorem two_same {l la1 la2 lb1 lb2 : List Ent} {xs zs : List Wr} (hf : Fit l) (ux : Unlike xs) (uz : Unlike zs) (hd : ∀ x ∈ xs, ∀ z ∈ zs, x.1 ≠ z.1)
    (h1 : Wrote l xs la1) (h2 : Wrote la1 zs la2) (h3 : Wrote l zs lb1) (h4 : Wrote lb1 xs lb2) : la2 = lb2 := by
  have g1 := h1.got hf ux
  have g2 := h2.got g1.1 uz
  have g3 := h3.got hf uz
  have g4 := h4.got g3.1 ux
  refine got_ext g2.1.rising g4.1.rising fun k => ?_
  by_cases hx : ∃ x ∈ xs, x.1 = k
  · obtain ⟨x, hx, rfl⟩ := hx
    rw [g2.2.2.1 x.1 (fun z hz e => hd x hx z hz e.symm), g1.2.1 x hx, g4.2.1 x hx, g3.2.2.1 x.1 (fun z hz e => hd x hx z hz e.symm)]
  · have hx' : ∀ x ∈ xs, x.1 ≠ k := fun x h e => hx ⟨x, h, e⟩
    rw [g4.2.2.1 k hx']
    by_cases hz : ∃ z ∈ zs, z.1 = k
    · obtain ⟨z, hz, rfl⟩ := hz
      rw [g2.2.1 z hz, g3.2.1 z hz, g1.2.2.1 z.1 hx']
    · have hz' : ∀ z ∈ zs, z.1 ≠ k := fun z h e => hz ⟨z, h, e⟩
      rw [g2.2.2.1 k hz', g1.2.2.1 k hx', g3.2.2.1 k hz']
theorem fits_still {l la : List Ent} {xs zs : List Wr} {rs : List Rd} (hf : Fit l) (ux : Unlike xs) (hl : l.length ≤ 90) (hx : xs.length ≤ 8) (hz : zs.length ≤ 8)
    (hr : ∀ x ∈ xs, ∀ z ∈ rs, x.1 ≠ z.1) (h : Wrote l xs la) : fitsB la rs zs (txK rs zs) = fitsB l rs zs (txK rs zs) := by
  have g := h.got hf ux
  have hla : la.length ≤ 98 := by
    have h1 := g.2.2.2
    have h2 : (xs.filter fun x => !(got l x.1).2).length ≤ xs.length := List.length_filter_le _ _
    omega
  unfold fitsB
  rw [chosen_allR, chosen_allW]
  have hn : ∀ L : List Ent, newN L zs ≤ 8 := fun L => Nat.le_trans (List.length_filter_le _ _) hz
  have e1 : decide ((newN la zs : Int) ≤ 128 - (la.length : Int)) = true := decide_eq_true (by have := hn la; omega)
  have e2 : decide ((newN l zs : Int) ≤ 128 - (l.length : Int)) = true := decide_eq_true (by have := hn l; omega)
  rw [e1, e2, Bool.and_true, Bool.and_true]
  unfold readsB
  exact all_same fun z hz => by rw [g.2.2.1 z.1 (fun x hx => hr x hx z hz)]
theorem keys_apart {rs rs2 : List Rd} {ws ws2 : List Wr} (h : ∀ k ∈ txK rs ws, isIn (txK rs2 ws2) k = false) :
    (∀ x ∈ ws, ∀ z ∈ rs2, x.1 ≠ z.1) ∧ (∀ x ∈ ws, ∀ z ∈ ws2, x.1 ≠ z.1) := by
  have hk : ∀ x ∈ ws, x.1 ∉ txK rs2 ws2 := fun x hx hm => by
    have := h x.1 ((txK_mem _ _ _).2 (Or.inr ⟨x, hx, rfl⟩))
    unfold isIn at this
    simp [hm] at this
  exact ⟨fun x hx z hz e => hk x hx ((txK_mem _ _ _).2 (Or.inl ⟨z, hz, e.symm⟩)), fun x hx z hz e => hk x hx ((txK_mem _ _ _).2 (Or.inr ⟨z, hz, e.symm⟩))⟩
end Go.Proofs.YtohlepbfjgehgaaGreatDoor
