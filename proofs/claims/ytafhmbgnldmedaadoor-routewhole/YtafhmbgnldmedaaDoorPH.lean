/-
  What is proved here: route's cut; over this program.
-/
import Derived.Test.YtafhmbgnldmedaaDoorPG
namespace Go.Proofs.YtafhmbgnldmedaaDoor
open Go.RowKit Go.Extern.Stop Go.Stop Go.Extern

/-- what cut comes to: pieces that are owned, cut -/
def CutPost (w : World) (B : Nat) (v : Value) (l : List Pc) (key : List UInt8) (e : Ending) (w' : World) : Prop :=
  ∃ v' l', e = .returned v' ∧ CutIs l key l' ∧ w'.ownsRow B 39 3 v' l'.length (pcsCells l') ∧ w.grownBy w' v.ownBlock
theorem own_grownB {w w' : World} {B e n : Nat} {v : Value} {xs : List Value} (h : w.ownsRow B e 3 v n xs) (hb : Below w.heap.size w w') : w'.ownsRow B e 3 v n xs := ownsRow_of_block h (fun g hg => hb.block g (ownsRow_lt h hg))

set_option maxRecDepth 100000 in
set_option maxHeartbeats 4000000 in
theorem rqcut_any (w : World) (B : Nat) (v : Value) (l : List Pc) (key : List UInt8) (hown : w.ownsRow B 39 3 v l.length (pcsCells l)) (hB : B ≤ w.heap.size) (hlin : Lin l) (hl : l.length ≤ 1000) :
    Calls Tryd.prog 33 #[v, .string ⟨key.toArray⟩] w (CutPost w B v l key) := by
  have HO := hideIt hown
  have HLIN := hideIt hlin
  have HC := hideIt (rqholder_any w _ v l key (own_in hown) hlin (by omega))
  obtain ⟨a, cap, rfl⟩ := own_form hown
  clear hown hlin
  go_enter Tryd.func33, Tryd.ntmps33
  go_wp2_with fail
  refine HC.out.mono ?_
  rintro e w1 ⟨i, rfl, hi, hb1⟩
  have HI := hideIt (And.intro hi hb1)
  obtain ⟨x, hx⟩ : ∃ x, l[i]? = some x := ⟨l[i]'hi.1, by simp [hi.1]⟩
  have HX := hideIt hx
  have hil : (i : Int) < (l.length : Int) := by have := hi.1; omega
  obtain ⟨g, off, rfl, _, c0, c1, c2⟩ := PcsIn.at (own_in (own_grownB HO.out hb1)) hx
  have HO1 := hideIt (own_grownB HO.out hb1)
  clear hi hb1 hx
  cases hk : (x.1 == key) with
  | true =>
    have HK : Hid (x.1 = key) := hideIt (eq_of_beq hk)
    obtain ⟨W, hW, hwb, hws, z0, z1, z2⟩ := room3 w1 39 (.string ⟨x.1.toArray⟩) (.int .i64 x.2.1) (.int .i64 x.2.2)
    have HB := hideIt hwb
    have HWW := hideIt hW
    rw [hW] at z0 z1 z2
    clear hwb hW hws
    go_wp2
    go_ret
    refine ⟨_, l, rfl, ⟨i, x, HI.out.1, HX.out, Or.inl ⟨HK.out, rfl⟩⟩, ?_, ?_⟩
    · have h := own_grownB HO1.out HB.out
      rw [HWW.out] at h
      exact h
    · have h := HB.out
      rw [HWW.out] at h
      exact grown_below (HI.out.2.trans (h.mono HI.out.2.size)) _
  | false =>
    have HK : Hid (x.1 ≠ key) := hideIt (by simpa using hk)
    obtain ⟨W, hW, hwb, hws, z0, z1, z2⟩ := room3 w1 39 (.string ⟨x.1.toArray⟩) (.int .i64 x.2.1) (.int .i64 x.2.2)
    have zf : W.frozen? ⟨w1.heap.size, 0, none⟩ = false := by rw [hW]; exact World.frozen?_alloc_at _ _ _ _ rfl
    have y0 : (W.setCell ⟨w1.heap.size, 0, none⟩ (.string ⟨key.toArray⟩)).cell? ⟨w1.heap.size, 0, none⟩ = some (.string ⟨key.toArray⟩) := World.cell?_setCell_same _ _ _ z0
    have y1 : (W.setCell ⟨w1.heap.size, 0, none⟩ (.string ⟨key.toArray⟩)).cell? ⟨w1.heap.size, 1, none⟩ = some (.int .i64 x.2.1) := by rw [World.cell?_setCell_other _ _ _ _ (by simp)]; exact z1
    have y2 : (W.setCell ⟨w1.heap.size, 0, none⟩ (.string ⟨key.toArray⟩)).cell? ⟨w1.heap.size, 2, none⟩ = some (.int .i64 x.2.2) := by rw [World.cell?_setCell_other _ _ _ _ (by simp)]; exact z2
    have hwi : IntKind.i64.wrap ((i : Int) + 1) = ((i + 1 : Nat) : Int) := by rw [show (i : Int) + 1 = ((i + 1 : Nat) : Int) by omega]; simp [IntKind.wrap, IntKind.bits, IntKind.signed]; omega
    rw [hW] at z0 z1 z2 zf y0 y1 y2
    clear hwb hW hws
    have hbb : Below w1.heap.size w1 ((w1.alloc (.cells #[.string ⟨key.toArray⟩, .int .i64 x.2.1, .int .i64 x.2.2] 39)).alloc (.cells #[.string ⟨key.toArray⟩, .int .i64 x.2.1, .int .i64 x.2.2] 39)) := ((Below.refl _ _).alloc (Nat.le_refl _) _).alloc (by simp) _
    have hins := insP_any _ B _ l (key, x.2) (i + 1) (w1.heap.size + 1) (own_grownB HO1.out hbb) (Nat.le_trans hB (Nat.le_trans HI.out.2.size hbb.size)) HI.out.1.1 hl (by
      have h := heap_alloc_new (w1.alloc (.cells #[.string ⟨key.toArray⟩, .int .i64 x.2.1, .int .i64 x.2.2] 39)) (.cells #[.string ⟨key.toArray⟩, .int .i64 x.2.1, .int .i64 x.2.2] 39)
      rwa [World.size_alloc] at h) (fun e => by have := ownsRow_lt HO1.out e; omega)
    rw [Int.natCast_add, Int.natCast_one] at hins
    have HINS := hideIt (And.intro hins hbb)
    clear hins hbb
    go_wp2_with fail
    refine HINS.out.1.mono ?_
    rintro e w4 ⟨v', rfl, h1, h2, h3⟩
    have hl2 : (l.take (i + 1) ++ [(key, x.2)] ++ l.drop (i + 1)).length = l.length + 1 := by
      have := HI.out.1.1
      simp only [List.length_append, List.length_take, List.length_drop, List.length_cons, List.length_nil]; omega
    have HR := hideIt (And.intro h1 (And.intro h2 hl2))
    obtain ⟨av, cv, rfl⟩ := own_form h1
    clear h1 h2 h3 hl2
    go_wp2
    go_ret
    refine ⟨_, _, rfl, ⟨i, x, HI.out.1, HX.out, Or.inr ⟨HK.out, rfl⟩⟩, ?_, ?_⟩
    · rw [HR.out.2.2]; exact HR.out.1
    · exact World.grownBy.trans (grown_below (HI.out.2.trans (HINS.out.2.mono HI.out.2.size)) _) HR.out.2.1
end Go.Proofs.YtafhmbgnldmedaaDoor
