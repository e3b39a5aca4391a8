/-
  What is proved here: book's add and Digest, over this program.
-/
import Derived.Test.YtmhbfplaglipnaaGreatDoorBA
import Derived.BigQuiet
import Derived.Deep.QuietTactic
import Derived.Deep.RegionWith
namespace Go.Proofs.YtmhbfplaglipnaaGreatDoor
open Go.RowKit Go.Extern.Stop Go.Stop Go.Extern

theorem wf_small {n : Nat} (h : n ≤ 65536) : (Lit.int .i64 (n : Int)).wf = true := by
  simp [Lit.wf, IntKind.min, IntKind.max, IntKind.signed, IntKind.bits]
  omega

set_option maxRecDepth 100000 in
set_option maxHeartbeats 8000000 in
theorem badd_any (w : World) (p : Nat) (O : Nat → Prop) (T : List (List UInt8)) (s : List UInt8) (h : BookSt w p O T) (hs : s ∉ T) (hl : T.length < 65536) (hsl : s.length ≤ 65536) :
    Calls Tryz.prog 93 #[.pointer (some ⟨p, 0, none⟩), .string ⟨s.toArray⟩] w fun e w' => e = .returned (.int .i64 T.length) ∧ ∃ O', BookSt w' p O' (T ++ [s]) ∧ Turn O w w' ∧ ∀ k, O' k → O k ∨ w.heap.size ≤ k := by
  have H := hideIt h
  have hplt := h.lt
  obtain ⟨i0, hi, hi2⟩ := Option.map_eq_some_iff.1 infoStr
  obtain ⟨hz0, hz1, hz2⟩ : i0.zero = some (.string ⟨#[]⟩) ∧ i0.size = 1 ∧ i0.bytes = 16 := by
    simp only [Prod.mk.injEq] at hi2; exact hi2
  have HI := hideIt (And.intro hi (And.intro hz0 (And.intro hz1 hz2)))
  clear hi2 hi hz0 hz1 hz2
  obtain ⟨v, m, D, c0, c1, f0, hr, hm, ht, ⟨o1, o2, o3⟩, _, hsh⟩ := h
  have HR := hideIt hr
  have HM := hideIt hm
  have HT := hideIt ht
  have HO := hideIt (And.intro o1 (And.intro o2 o3))
  have HSH := hideIt hsh
  have hpm : p ≠ m := fun e => by
    obtain ⟨es, clock, hb, _⟩ := hm
    subst e
    simp [World.cell?, hb] at c0
  have hgm : ∀ g, v.ownBlock = some g → g ≠ m := fun g hg e => by
    obtain ⟨es, clock, hb, _⟩ := hm
    subst e
    rcases hr.2 with ⟨rfl, _⟩ | ⟨g', cap, cur, rfl, _, hgg, _⟩
    · cases hg
    · cases hg; rw [hb] at hgg; cases hgg
  have HPG := hideIt hgm
  have hml := hm.lt
  clear hr hm ht o1 o2 o3 hsh hgm
  have hkey := WideMaps.keyOf_string_mk (s := ⟨s.toArray⟩) Tryz.underlying9 (by show s.toArray.size ≤ maxLen; unfold maxLen; simp; omega)
  go_enter Tryz.func93, Tryz.ntmps93
  go_wp2_with fail
  refine (bMany_any w p O T H.out).mono ?_
  rintro e w1 ⟨rfl, rfl⟩
  go_wp2_with (at_builtin; refine wpList_append_own_at _ rfl _ _ 55 rfl 0 9 i0 (.string ⟨#[]⟩) 1 16 Tryz.underlying55 HI.out.1 HI.out.2.1 HI.out.2.2.1 HI.out.2.2.2 rfl (by decide) _ _ _ rfl (HR.out.alloc _) ⟨w1.heap.size, 0, none⟩ 1 1 [.string ⟨s.toArray⟩] rfl rfl ?k1 ?k2 ?k3 ?k4 ?k5 ?_)
  case k1 => exact cell_one_new _ _ _
  case k2 => intro u hu; simp at hu; subst hu; rfl
  case k3 => unfold maxLen; omega
  case k4 => omega
  case k5 => omega
  · intro v' w2 hown' hgrow _ hat
    have hgr := hgrow.size
    simp at hgr
    have hpb : w2.heap[p]? = w1.heap[p]? := by
      rw [hgrow.block p (by simp; omega) (fun e => (HO.out.2.2 p e.symm).2 rfl)]
      exact ((Below.refl w1.heap.size w1).alloc (Nat.le_refl _) _).block p hplt
    have hmb : w2.heap[m]? = w1.heap[m]? := by
      rw [hgrow.block m (by simp; omega) (fun e => HPG.out m e.symm rfl)]
      exact ((Below.refl w1.heap.size w1).alloc (Nat.le_refl _) _).block m hml
    have d0 : w2.cell? ⟨p, 0, none⟩ = some v := (World.cell?_of_block (a := ⟨p, 0, none⟩) hpb).trans c0
    have d1 : w2.cell? ⟨p, 1, none⟩ = some (.map (some m)) := (World.cell?_of_block (a := ⟨p, 1, none⟩) hpb).trans c1
    have g0 : w2.frozen? ⟨p, 0, none⟩ = false := (World.frozen?_of_block (a := ⟨p, 0, none⟩) hpb).trans f0
    have hpl2 : p < w2.heap.size := by omega
    have HM2 : Hid (w2.ownsMap Tryz.prog 9 (plainElem Tryz.prog 3) m T.length D) := by
      obtain ⟨es, clock, hb, F⟩ := HM.out
      exact ⟨es, clock, hmb.trans hb, F⟩
    have HT2 : Hid (Turn O w1 w2) := by
      refine Turn.trans (O1 := O) (Turn.of_below ((Below.refl _ _).alloc (Nat.le_refl _) _)) (Turn.of_grown hgrow (fun g hg _ => (HO.out.2.2 g hg).1)) (fun k hk => Or.inl hk)
    have HW2 := hideIt hown'
    have HAT : Hid (∀ g, v'.ownBlock = some g → (v.ownBlock = some g ∨ g = w1.heap.size + 1)) := by
      intro g hg
      rcases hat with e | e
      · exact Or.inl (by rw [← e]; exact hg)
      · rw [e] at hg; simp at hg; exact Or.inr hg.symm
    obtain ⟨a', cap', hv'⟩ := own_form hown'
    clear hown' hgrow hat c0 c1 f0 hpb hmb
    subst hv'
    go_wp2_with (at_mapUpdate; refine wpList_mapUpdate_own _ rfl _ _ _ 54 rfl 9 3 keyLaw Tryz.underlying54 _ m T.length D rfl (HM2.out.setCell (a := ⟨p, 0, none⟩) (Ne.symm hpm) _) ?k6 _ _ _ rfl rfl hkey _ [] (plainElem_int Tryz.underlying3 (wf_small (Nat.le_of_lt hl))) ?_)
    case k6 => unfold maxLen; omega
    intro w3 hown3 hgrow3
    have HG3 := hideIt hgrow3
    have HW3 := hideIt hown3
    clear hgrow3 hown3
    go_wp2
    go_ret
    have hgr3 := HG3.out.size
    rw [size_set] at hgr3
    have hpb : w3.heap[p]? = (w2.setCell ⟨p, 0, none⟩ (.slice a' (T.length + 1) cap')).heap[p]? := HG3.out.block p (by rw [size_set]; exact hpl2) (fun e => hpm (by injection e))
    have hrb : ∀ g, (Value.slice a' (T.length + 1) cap').ownBlock = some g → w3.heap[g]? = w2.heap[g]? ∧ g ≠ p := fun g hg => by
      have hgl := ownsRow_lt HW2.out hg
      have hgp : g ≠ p := by
        rcases HAT.out g hg with e | e
        · exact (HO.out.2.2 g e).2
        · omega
      have hgm : g ≠ m := by
        rcases HAT.out g hg with e | e
        · exact HPG.out g e
        · omega
      refine ⟨?_, hgp⟩
      rw [HG3.out.block g (by rw [size_set]; exact hgl) (fun e => hgm (by injection e))]
      exact Below.heap_setCell w2 ⟨p, 0, none⟩ (.slice a' (T.length + 1) cap') g hgp
    refine ⟨rfl, fun k => O k ∨ w1.heap.size ≤ k, ⟨.slice a' (T.length + 1) cap', m, _, ?_, ?_, ?_, ?_, by simpa using HW3.out, Tab.put HT.out hs, ⟨Or.inl HO.out.1, Or.inl HO.out.2.1, fun g hg => ⟨?_, (hrb g hg).2⟩⟩, by simp; omega, ?_⟩, ?_, fun k hk => hk⟩
    · rw [World.cell?_of_block (a := ⟨p, 0, none⟩) hpb]; exact World.cell?_setCell_same _ _ _ d0
    · rw [World.cell?_of_block (a := ⟨p, 1, none⟩) hpb, World.cell?_setCell_other _ _ _ _ (by simp)]; exact d1
    · rw [World.frozen?_of_block (a := ⟨p, 0, none⟩) hpb, World.frozen?_setCell]; exact g0
    · have := ownsRow_of_block HW2.out (fun g hg => (hrb g hg).1)
      simpa [strCells] using this
    · rcases HAT.out g hg with e | e
      · exact Or.inl (HO.out.2.2 g e).1
      · exact Or.inr (by omega)
    · intro x hx
      simp only [List.mem_append, List.mem_singleton] at hx
      rcases hx with hx | rfl
      · exact HSH.out x hx
      · exact hsl
    · have t1 : Turn O w2 (w2.setCell ⟨p, 0, none⟩ (.slice a' (T.length + 1) cap')) := ⟨rfl, rfl, rfl, by rw [size_set]; exact Nat.le_refl _, fun k hk ho => Below.heap_setCell w2 ⟨p, 0, none⟩ (.slice a' (T.length + 1) cap') k (fun e => ho (by rw [e]; exact HO.out.1))⟩
      have t2 : Turn O (w2.setCell ⟨p, 0, none⟩ (.slice a' (T.length + 1) cap')) w3 := Turn.of_grown HG3.out (fun g hg _ => by cases hg; exact HO.out.2.1)
      exact (HT2.out.trans t1 (fun k hk => Or.inl hk)).trans t2 (fun k hk => Or.inl hk)
end Go.Proofs.YtmhbfplaglipnaaGreatDoor
