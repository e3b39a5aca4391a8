/-
  What is proved here: fault's unfold and Trail, over this program, at errors that package fault made: the steps in a new row, the outermost first, and the number in it. Condition: errors.errorType holds the handle of the type error; at most 1000000 steps.
-/
import Derived.Test.YtafhmbgnldmedaaDoorOut
import Derived.WalkLawsBesides
namespace Go.Proofs.YtafhmbgnldmedaaDoor
open Go.RowKit Go.Extern.Stop Go.Stop Go.Extern

theorem own_kept {w w' : World} {B e size n : Nat} {v : Value} {xs : List Value} (h : w.ownsRow B e size v n xs) (hb : Below w.heap.size w w') : w'.ownsRow B e size v n xs := by
  obtain ⟨h1, h2⟩ := h
  refine ⟨h1, ?_⟩
  rcases h2 with h2 | ⟨g, cap, cur, hv, hg, hh, r⟩
  · exact Or.inl h2
  · refine Or.inr ⟨g, cap, cur, hv, hg, ?_, r⟩
    rw [hb.block g ?_]; exact hh
    rcases Nat.lt_or_ge g w.heap.size with h3 | h3
    · exact h3
    · rw [Array.getElem?_eq_none h3] at hh; cases hh

/-- the cells of steps -/
def stepCells : List (ByteArray × Int) → List Value
  | [] => []
  | (s, k) :: l => .string s :: .int .i64 k :: stepCells l
theorem stepCells_append (a b : List (ByteArray × Int)) : stepCells (a ++ b) = stepCells a ++ stepCells b := by
  induction a with
  | nil => rfl
  | cons x r ih => obtain ⟨s, k⟩ := x; simp [stepCells, ih]

theorem infoStep : (Tryd.prog.info? 66).map (fun i => (i.zero, i.size, i.bytes)) = some (some (.agg #[.string ⟨#[]⟩, .int .i64 0]), 2, 24) := by kernel_rfl

set_option maxHeartbeats 4000000 in
theorem unfold_chain (B : Nat) (l : List (ByteArray × Int)) (v : Value) (n : Int) (w : World) (hc : Chain B w n v l) (hg : ET w) (hl : l.length ≤ 1000000) :
    Calls Tryd.prog 38 #[v] w fun e w' => ∃ sl, e = .returned (.tuple #[sl, .iface 32 (.int .i64 n)]) ∧ w'.ownsRow w.heap.size 66 2 sl l.length (stepCells l) ∧ Below w.heap.size w w' := by
  obtain ⟨i0, hi, hi2⟩ := Option.map_eq_some_iff.1 infoStep
  obtain ⟨hz0, hz1, hz2⟩ : i0.zero = some (.agg #[.string ⟨#[]⟩, .int .i64 0]) ∧ i0.size = 2 ∧ i0.bytes = 24 := by
    simp only [Prod.mk.injEq] at hi2; exact hi2
  clear hi2
  have HI := hideIt (And.intro hi (And.intro hz0 (And.intro hz1 hz2)))
  clear hi hz0 hz1 hz2
  go_enter Tryd.func38, Tryd.ntmps38
  go_wp2
  go_loopg [0, 4] l.length (fun k x s wr => ∃ done rest, Hid (l = done ++ rest) ∧ rest.length = k ∧ Chain B w n x rest ∧ wr.ownsRow w.heap.size 66 2 s done.length (stepCells done) ∧ Below w.heap.size w wr)
  case atStart => exact ⟨[], l, rfl, rfl, hc, World.ownsRow_nil _ _ _ _, Below.refl _ _⟩
  case round =>
    obtain ⟨done, rest, HL, hk, hch, hown, hnx⟩ := hrel
    have hgr : ET wr := hg.kept hnx hg.lt
    have HG := hideIt hgr
    have HO := hideIt hown
    have HB := hideIt hnx
    clear hgr hown hnx hg hc
    rcases hch.parts with ⟨rfl, rfl⟩ | ⟨b, s, k, x, l2, rfl, rfl, h1, h2, h3, h4, h5⟩
    · clear hch
      go_wp2_with (go_at_call 53; refine (outermost_errno n wr HG.out).mono ?_; rintro e w' ⟨rfl, hb⟩)
      go_ret2
      have e1 : l = done := by have := HL.out; simpa using this
      subst e1
      exact ⟨_, rfl, own_kept HO.out hb, HB.out.trans (hb.mono HB.out.size)⟩
    · clear hch
      obtain ⟨ty, y, rfl⟩ := h5.iface
      have HC := hideIt h5
      have hbw : b < w.heap.size := lt_of_cell h2
      have hlen : done.length + 1 + l2.length ≤ 1000000 := by have := congrArg List.length HL.out; simp at this; omega
      have HQ := hideIt (And.intro h2 (And.intro h3 h4))
      clear h5 h2 h3 h4
      go_wp2_with fail
      refine (outermost_wrapped ⟨b, 0, none⟩ wr HG.out).mono ?_
      rintro e w1 ⟨rfl, hb1⟩
      have HO1 := hideIt (own_kept HO.out hb1)
      have HB1 := hideIt (HB.out.trans (hb1.mono HB.out.size))
      have q0 : w1.cell? ⟨b, 0, none⟩ = some (.string s) := (HB1.out.cell (p := ⟨b, 0, none⟩) hbw).trans HQ.out.1
      have q1 : w1.cell? ⟨b, 1, none⟩ = some (.int .i64 k) := (HB1.out.cell (p := ⟨b, 1, none⟩) hbw).trans HQ.out.2.1
      clear hb1 HO HB HG
      go_wp2_with (at_builtin; refine wpList_append_own _ rfl _ _ 63 rfl w.heap.size 66 i0 (.agg #[.string ⟨#[]⟩, .int .i64 0]) 2 24 Tryd.underlying63 HI.out.1 HI.out.2.1 HI.out.2.2.1 HI.out.2.2.2 rfl (by decide) _ _ _ rfl (HO1.out.alloc _) ⟨w1.heap.size, 0, none⟩ 1 1 [.string s, .int .i64 k] rfl rfl ?c1 ?c2 ?c3 ?c4 ?c5 ?_)
      case c1 => exact cell_two_new _ _ _ _
      case c2 => intro u hu; simp at hu; rcases hu with rfl | rfl <;> rfl
      case c3 => unfold maxLen; omega
      case c4 => omega
      case c5 => have := HB1.out.size; simp; omega
      · intro v' w2 hown' hgrow _
        have HB2 := hideIt ((HB1.out.alloc (HB1.out.size) _).grown hgrow (by have := HB1.out.size; simp; omega) (fun k hk => (HO1.out.lt k hk).1))
        have HO2 := hideIt hown'
        have q2 : w2.cell? ⟨b, 2, none⟩ = some (.iface ty y) := (HB2.out.cell (p := ⟨b, 2, none⟩) hbw).trans HQ.out.2.2
        clear q0 q1 hgrow hown' HO1 HB1
        go_wp2
        go_roundg l2.length
        case rel =>
          refine ⟨done ++ [(s, k)], l2, ?_, rfl, HC.out, ?_, HB2.out⟩
          · have := HL.out; simpa [Hid] using this
          · have := HO2.out; simpa [stepCells_append, stepCells] using this
        case measure => simp at hk; omega

theorem unfold_nil (w : World) : Calls Tryd.prog 38 #[.nilIface] w fun e w' => e = .returned (.tuple #[.slice none 0 0, .nilIface]) ∧ Below w.heap.size w w' := by
  go_enter Tryd.func38, Tryd.ntmps38
  go_wp2
  refine wp_loop_rounds 1 ?_
  rw [rounds_succ]
  go_wp2_with (go_at_call 53; refine (outermost_nil w).mono ?_; rintro e w' ⟨rfl, hb⟩)
  go_ret2
  exact ⟨rfl, hb⟩

/-- Trail of an error that package fault made: its steps, the outermost first, in new memory. -/
theorem Trail_chain (B : Nat) (l : List (ByteArray × Int)) (v : Value) (n : Int) (w : World) (hc : Chain B w n v l) (hg : ET w) (hl : l.length ≤ 1000000) :
    Calls Tryd.prog 27 #[v] w fun e w' => ∃ sl, e = .returned sl ∧ w'.ownsRow w.heap.size 66 2 sl l.length (stepCells l) ∧ Below w.heap.size w w' := by
  have HU := hideIt (unfold_chain B l v n w hc hg hl)
  obtain ⟨ty, y, rfl⟩ := hc.iface
  clear hc hg
  go_enter Tryd.func27, Tryd.ntmps27
  go_wp2_with (go_at_call 38; refine HU.out.mono ?_; rintro e w' ⟨sl, rfl, ho, hb⟩)
  go_ret
  exact ⟨_, rfl, ho, hb⟩
theorem Trail_nil (w : World) : Calls Tryd.prog 27 #[.nilIface] w fun e w' => e = .returned (.slice none 0 0) ∧ Below w.heap.size w w' := by
  go_enter Tryd.func27, Tryd.ntmps27
  go_wp2_with (go_at_call 38; refine (unfold_nil w).mono ?_; rintro e w' ⟨rfl, hb⟩)
  go_ret
  exact ⟨rfl, hb⟩
end Go.Proofs.YtafhmbgnldmedaaDoor
