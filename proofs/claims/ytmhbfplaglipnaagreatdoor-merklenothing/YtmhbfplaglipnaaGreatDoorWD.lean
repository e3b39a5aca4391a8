/-
  What is proved here: wire's Writer in memory, its add and refuse, over this program.
-/
import Derived.Test.YtmhbfplaglipnaaGreatDoorWC
import Derived.Test.YtmhbfplaglipnaaGreatDoorBasic
import Derived.Deep.RegionLaw
import Derived.Laws.CopyOwn
namespace Go.Proofs.YtmhbfplaglipnaaGreatDoor
open Go.RowKit Go.Extern.Stop Go.Stop Go.Extern

/-- a chain of parts, the last one first -/
def Parts (w : World) (A : Nat → Prop) : Option Addr → List (List UInt8) → Prop
  | q, [] => q = none
  | q, c :: cs => ∃ b q' v, q = some ⟨b, 0, none⟩ ∧ A b ∧ w.cell? ⟨b, 0, none⟩ = some (.pointer q') ∧ w.cell? ⟨b, 1, none⟩ = some v ∧ BytesIn w A v c ∧ Parts w A q' cs
theorem Parts.kept {w w' : World} {A : Nat → Prop} {q : Option Addr} {cs : List (List UInt8)} (h : Parts w A q cs) (hk : Kept A w w') : Parts w' A q cs := by
  induction cs generalizing q with
  | nil => exact h
  | cons c r ih =>
    obtain ⟨b, q', v, h1, h2, h3, h4, h5, h6⟩ := h
    exact ⟨b, q', v, h1, h2, hk.cell (a := ⟨b, 0, none⟩) h2 h3, hk.cell (a := ⟨b, 1, none⟩) h2 h4, h5.kept hk, ih h6⟩
theorem Parts.mono {w : World} {A A' : Nat → Prop} {q : Option Addr} {cs : List (List UInt8)} (h : Parts w A q cs) (hA : ∀ k, A k → k < w.heap.size → A' k) : Parts w A' q cs := by
  induction cs generalizing q with
  | nil => exact h
  | cons c r ih =>
    obtain ⟨b, q', v, h1, h2, h3, h4, h5, h6⟩ := h
    exact ⟨b, q', v, h1, hA b h2 (lt_of_cell h3), h3, h4, h5.mono hA, ih h6⟩

/-- a Writer at p that has the bytes bs -/
def WOk (w : World) (p : Nat) (A : Nat → Prop) (bs : List UInt8) : Prop :=
  (∀ j, w.frozen? ⟨p, j, none⟩ = false) ∧ ∃ q cs, w.cell? ⟨p, 0, none⟩ = some (.pointer q) ∧ w.cell? ⟨p, 1, none⟩ = some (.int .i64 bs.length) ∧ w.cell? ⟨p, 2, none⟩ = some .nilIface ∧ Parts w A q cs ∧ bs = cs.reverse.flatten
/-- a Writer at p that refused something behind the bytes bs -/
def WBad (w : World) (p : Nat) (A : Nat → Prop) (bs : List UInt8) : Prop :=
  ∃ v, w.cell? ⟨p, 2, none⟩ = some v ∧ One w A v 2 ⟨#[119, 114, 105, 116, 101]⟩ bs.length
theorem WOk.kept {w w' : World} {p : Nat} {A : Nat → Prop} {bs : List UInt8} (h : WOk w p A bs) (hp : w'.heap[p]? = w.heap[p]?) (hk : Kept A w w') : WOk w' p A bs := by
  obtain ⟨h0, q, cs, h1, h2, h3, h4, h5⟩ := h
  exact ⟨fun j => (World.frozen?_of_block (w := w) (a := ⟨p, j, none⟩) hp).trans (h0 j), q, cs, (World.cell?_of_block (a := ⟨p, 0, none⟩) hp).trans h1, (World.cell?_of_block (a := ⟨p, 1, none⟩) hp).trans h2, (World.cell?_of_block (a := ⟨p, 2, none⟩) hp).trans h3, h4.kept hk, h5⟩
theorem WBad.kept {w w' : World} {p : Nat} {A : Nat → Prop} {bs : List UInt8} (h : WBad w p A bs) (hp : w'.heap[p]? = w.heap[p]?) (hk : Kept A w w') : WBad w' p A bs := by
  obtain ⟨v, h1, h2⟩ := h
  exact ⟨v, (World.cell?_of_block (a := ⟨p, 2, none⟩) hp).trans h1, h2.kept hk⟩

set_option maxHeartbeats 4000000 in
theorem add_ok (p : Nat) (A : Nat → Prop) (bs c : List UInt8) (v : Value) (w : World) (hw : WOk w p A bs) (hv : BytesIn w A v c) (hA : ∀ k, w.heap.size ≤ k → A k) (hp : ¬ A p) (hl : bs.length + c.length ≤ 1000000000000) :
    Calls Tryz.prog 88 #[.pointer (some ⟨p, 0, none⟩), v] w fun e w' => e = .returned (.tuple #[]) ∧ WOk w' p A (bs ++ c) ∧ w.grownBy w' (some p) := by
  obtain ⟨hf, q, cs, h0, h1, h2, hps, hbs⟩ := hw
  have HV := hideIt hv
  have HP := hideIt (And.intro hps hbs)
  have hpl := lt_of_cell h0
  obtain ⟨a, cap, rfl, _⟩ := hv.form
  have hf0 := hf 0
  have hf1 := hf 1
  have hne : p ≠ w.heap.size := by simp at hpl; omega
  clear hv hps hbs
  have HG := hideIt (((grown_set (grown_set (grown_refl w (some p)) 0 (.pointer (some ⟨w.heap.size, 0, none⟩))) 1 (.int .i64 ((bs.length : Int) + (c.length : Int))))))
  have HF := hideIt hf
  clear hf
  go_enter Tryz.func88, Tryz.ntmps88
  go_wp2
  go_end0
  obtain ⟨hps, hbs⟩ := HP.out
  have hg2 := grown_trans HG.out (World.grownBy_alloc _ (.cells #[.pointer q, .slice a c.length cap] 153) (some p))
  have hsz : ((w.setCell ⟨p, 0, none⟩ (.pointer (some ⟨w.heap.size, 0, none⟩))).setCell ⟨p, 1, none⟩ (.int .i64 ((bs.length : Int) + (c.length : Int)))).heap.size = w.heap.size := by rw [size_set, size_set]
  have hk : Kept A w _ := Kept.of_grown hg2 hp
  refine ⟨rfl, ⟨fun j => ?_, some ⟨w.heap.size, 0, none⟩, c :: cs, ?_, ?_, ?_, ⟨w.heap.size, q, _, rfl, hA _ (Nat.le_refl _), ?_, ?_, HV.out.kept hk, hps.kept hk⟩, ?_⟩, hg2⟩
  · rw [World.frozen?_alloc_old _ _ _ (by rw [hsz]; exact hne), World.frozen?_setCell, World.frozen?_setCell]; exact HF.out j
  · rw [World.cell?_alloc_lt _ _ _ (by rw [hsz]; exact hpl), World.cell?_setCell_other _ _ _ _ (by simp)]; exact World.cell?_setCell_same _ _ _ h0
  · rw [World.cell?_alloc_lt _ _ _ (by rw [hsz]; exact hpl)]
    have := World.cell?_setCell_same (w.setCell ⟨p, 0, none⟩ (.pointer (some ⟨w.heap.size, 0, none⟩))) ⟨p, 1, none⟩ (.int .i64 ((bs.length : Int) + (c.length : Int))) (by rw [World.cell?_setCell_other _ _ _ _ (by simp)]; exact h1)
    rw [this, List.length_append]; simp
  · rw [World.cell?_alloc_lt _ _ _ (by rw [hsz]; exact hpl), World.cell?_setCell_other _ _ _ _ (by simp), World.cell?_setCell_other _ _ _ _ (by simp)]; exact h2
  · rw [World.cell?_alloc_at _ _ _ _ hsz.symm]; rfl
  · rw [World.cell?_alloc_at _ _ _ _ hsz.symm]; rfl
  · rw [hbs]; simp

theorem add_bad (p : Nat) (A : Nat → Prop) (bs : List UInt8) (v : Value) (w : World) (hw : WBad w p A bs) :
    Calls Tryz.prog 88 #[.pointer (some ⟨p, 0, none⟩), v] w fun e w' => e = .returned (.tuple #[]) ∧ w' = w := by
  obtain ⟨ev, h0, h1⟩ := hw
  obtain ⟨t, x, rfl⟩ := h1.iface
  clear h1
  go_enter Tryz.func88, Tryz.ntmps88
  go_wp2
  refine bodyPost_ret (results_none rfl _ _ _) rfl ?_
  exact ⟨rfl, rfl⟩

theorem refuse_bad (p : Nat) (A : Nat → Prop) (bs : List UInt8) (w : World) (hw : WBad w p A bs) :
    Calls Tryz.prog 87 #[.pointer (some ⟨p, 0, none⟩)] w fun e w' => e = .returned (.tuple #[]) ∧ w' = w := by
  obtain ⟨ev, h0, h1⟩ := hw
  obtain ⟨t, x, rfl⟩ := h1.iface
  clear h1
  go_enter Tryz.func87, Tryz.ntmps87
  go_wp2
  go_end0
  exact ⟨rfl, rfl⟩

set_option maxHeartbeats 4000000 in
theorem refuse_ok (p : Nat) (A : Nat → Prop) (bs : List UInt8) (w : World) (hw : WOk w p A bs) (hA : ∀ k, w.heap.size ≤ k → A k) :
    Calls Tryz.prog 87 #[.pointer (some ⟨p, 0, none⟩)] w fun e w' => e = .returned (.tuple #[]) ∧ WBad w' p A bs ∧ w.grownBy w' (some p) := by
  obtain ⟨hf, q, cs, h0, h1, h2, hps, hbs⟩ := hw
  have hpl := lt_of_cell h0
  have hf2 := hf 2
  simp only at hpl
  clear hps hbs hf h0
  go_enter Tryz.func87, Tryz.ntmps87
  go_wp2
  go_region_with (first | (go_at_call 42; refine (Of_err 2 (by decide) _).mono ?_; rintro e w1 ⟨rfl, rfl⟩) | (go_at_call 41; refine (Wrap_some 50 (.int .i64 2) _ _ _).mono ?_; rintro e w2 ⟨rfl, rfl⟩))
  all_goals
    go_wp2
    go_end0
    have hsz : (w.setCell ⟨p, 2, none⟩ (.iface 112 (.pointer (some ⟨w.heap.size, 0, none⟩)))).heap.size = w.heap.size := size_set ..
    have hg := grown_trans (grown_set (grown_refl w (some p)) 2 (.iface 112 (.pointer (some ⟨w.heap.size, 0, none⟩)))) (World.grownBy_alloc _ (.cells #[.string ⟨#[119, 114, 105, 116, 101]⟩, .int .i64 bs.length, .iface 50 (.int .i64 2)] 116) (some p))
    refine ⟨rfl, ⟨_, ?_, w.heap.size, rfl, hA _ (Nat.le_refl _), ?_, ?_, ?_⟩, ⟨hg.os, hg.tape, hg.output, hg.size, hg.block⟩⟩
    · show World.cell? (World.alloc _ _) _ = _
      rw [World.cell?_alloc_lt _ _ _ (by rw [hsz]; exact hpl)]; exact World.cell?_setCell_same _ _ _ h2
    · show World.cell? (World.alloc _ _) _ = _
      rw [World.cell?_alloc_at _ _ _ _ hsz.symm]; rfl
    · show World.cell? (World.alloc _ _) _ = _
      rw [World.cell?_alloc_at _ _ _ _ hsz.symm]; rfl
    · show World.cell? (World.alloc _ _) _ = _
      rw [World.cell?_alloc_at _ _ _ _ hsz.symm]; rfl
end Go.Proofs.YtmhbfplaglipnaaGreatDoor
