/-
  What is proved here: cert's numbers, through, and Put, over this program.
-/
import Derived.Test.YtpgahjnjkihmhaaGreatDoorWM
import Derived.Test.YtpgahjnjkihmhaaGreatDoorWP
import Derived.Test.YtpgahjnjkihmhaaGreatDoorTurn
import Derived.Test.YtpgahjnjkihmhaaGreatDoorCB
namespace Go.Proofs.YtpgahjnjkihmhaaGreatDoor
open Go.RowKit Go.Extern.Stop Go.Stop Go.Extern

theorem infoInt64 : (Tryz.prog.info? 2).map (fun i => (i.zero, i.size, i.bytes)) = some (some (.int .i64 0), 1, 8) := by kernel_rfl

set_option maxRecDepth 100000 in
set_option maxHeartbeats 8000000 in
theorem cnumN_any (A : Nat → Prop) (v : Value) (l : List Int) (w : World) (hv : NumsIn w A v l) (hl : l.length ≤ 1000000000000) :
    Calls Tryz.prog 14 #[v] w fun e w' => ∃ v', e = .returned v' ∧ w'.ownsRow w.heap.size 2 1 v' l.length (numCells l) ∧ Below w.heap.size w w' := by
  obtain ⟨i0, hi, hi2⟩ := Option.map_eq_some_iff.1 infoInt64
  obtain ⟨hz0, hz1, hz2⟩ : i0.zero = some (.int .i64 0) ∧ i0.size = 1 ∧ i0.bytes = 8 := by
    simp only [Prod.mk.injEq] at hi2; exact hi2
  have HI := hideIt (And.intro hi (And.intro hz0 (And.intro hz1 hz2)))
  have HV : Hid (NumsIn w (· < w.heap.size) v l) := RowIn.mono (A' := (· < w.heap.size)) hv (fun _ _ h => h)
  obtain ⟨a, cap, rfl⟩ := hv.form
  clear hi hi2 hz0 hz1 hz2 hv
  go_enter Tryz.func14, Tryz.ntmps14
  go_wp2
  go_loopw [3, 8] (fun ov i wr => ∃ (k : Nat) (aa : Option Addr) (ac : Nat), k ≤ l.length ∧ i = .int .i64 k ∧ ov = .slice aa k ac ∧ Hid (wr.ownsRow w.heap.size 2 1 (.slice aa k ac) k (numCells (l.take k))) ∧ Hid (Below w.heap.size w wr)) (fun _ i _ => l.length - (intOf i).toNat)
  case atStart => exact ⟨0, none, 0, Nat.zero_le _, rfl, rfl, World.ownsRow_nil _ _ _ _, Below.refl _ _⟩
  case round =>
    obtain ⟨k, aa, ac, hk, rfl, rfl, HR, HB⟩ := hrel
    by_cases hlt : k < l.length
    · obtain ⟨x, hx⟩ : ∃ x, l[k]? = some x := ⟨l[k], by simp [hlt]⟩
      have HVr : Hid (NumsIn wr (· < w.heap.size) (.slice a l.length cap) l) := RowIn.kept HV.out (Kept.of_below HB.out (fun _ h _ => h))
      obtain ⟨b, off, rfl, _, cx⟩ := NumsIn.at HVr.out hx
      have HT : Hid (numCells (l.take (k + 1)) = numCells (l.take k) ++ [.int .i64 x]) := hideIt (by
        rw [List.take_succ_eq_append_getElem hlt, (List.getElem?_eq_some_iff.1 hx).2]; simp [numCells])
      clear hx HVr
      go_wp2_with (at_builtin; refine wpList_append_own_at _ rfl _ _ 51 rfl w.heap.size 2 i0 (.int .i64 0) 1 8 Tryz.underlying51 HI.out.1 HI.out.2.1 HI.out.2.2.1 HI.out.2.2.2 rfl (by decide) _ _ _ rfl (HR.out.alloc _) ⟨wr.heap.size, 0, none⟩ 1 1 [.int .i64 x] rfl rfl ?k1 ?k2 ?k3 ?k4 ?k5 ?_)
      case k1 => exact cell_one_new _ _ _
      case k2 => intro u hu; simp at hu; subst hu; rfl
      case k3 => unfold maxLen; omega
      case k4 => omega
      case k5 => have := HB.out.size; simp; omega
      intro v' w5 hown' hgrow _ _
      have HG5 := hideIt (grown_trans (World.grownBy_alloc wr _ _) hgrow)
      have HO5 : Hid (w5.ownsRow w.heap.size 2 1 v' (k + 1) (numCells (l.take (k + 1)))) := hideIt (by rw [HT.out]; simpa using hown')
      obtain ⟨a', cap', hv'⟩ := own_form hown'
      subst hv'
      clear hown' hgrow cx
      go_wp2
      refine ⟨⟨k + 1, a', cap', by omega, by go_num, rfl, HO5.out, ?_⟩, by simp [intOf]; omega⟩
      exact HB.out.trans ⟨HG5.out.os, HG5.out.tape, HG5.out.output, HG5.out.size, fun j hj => HG5.out.block j (by have := HB.out.size; omega) (fun e => by have := (HR.out.lt j e.symm).1; omega)⟩
    · have ek : k = l.length := by omega
      have HR2 : Hid (wr.ownsRow w.heap.size 2 1 (.slice aa k ac) l.length (numCells l)) := by
        have := HR.out
        rw [ek, List.take_length] at this
        rw [ek]
        exact this
      clear HR
      go_wp2
      go_ret
      exact ⟨_, rfl, HR2.out, HB.out⟩

set_option maxRecDepth 100000 in
set_option maxHeartbeats 8000000 in
theorem cnumI_any (A : Nat → Prop) (v : Value) (l : List Int) (w : World) (hv : NumsIn w A v l) (hl : l.length ≤ 1000000000000) :
    Calls Tryz.prog 24 #[v] w fun e w' => ∃ v', e = .returned v' ∧ w'.ownsRow w.heap.size 3 1 v' l.length (numCells l) ∧ Below w.heap.size w w' := by
  obtain ⟨i0, hi, hi2⟩ := Option.map_eq_some_iff.1 infoI
  obtain ⟨hz0, hz1, hz2⟩ : i0.zero = some (.int .i64 0) ∧ i0.size = 1 ∧ i0.bytes = 8 := by
    simp only [Prod.mk.injEq] at hi2; exact hi2
  have HI := hideIt (And.intro hi (And.intro hz0 (And.intro hz1 hz2)))
  have HV : Hid (NumsIn w (· < w.heap.size) v l) := RowIn.mono (A' := (· < w.heap.size)) hv (fun _ _ h => h)
  obtain ⟨a, cap, rfl⟩ := hv.form
  clear hi hi2 hz0 hz1 hz2 hv
  go_enter Tryz.func24, Tryz.ntmps24
  go_wp2
  go_loopw [3, 8] (fun ov i wr => ∃ (k : Nat) (aa : Option Addr) (ac : Nat), k ≤ l.length ∧ i = .int .i64 k ∧ ov = .slice aa k ac ∧ Hid (wr.ownsRow w.heap.size 3 1 (.slice aa k ac) k (numCells (l.take k))) ∧ Hid (Below w.heap.size w wr)) (fun _ i _ => l.length - (intOf i).toNat)
  case atStart => exact ⟨0, none, 0, Nat.zero_le _, rfl, rfl, World.ownsRow_nil _ _ _ _, Below.refl _ _⟩
  case round =>
    obtain ⟨k, aa, ac, hk, rfl, rfl, HR, HB⟩ := hrel
    by_cases hlt : k < l.length
    · obtain ⟨x, hx⟩ : ∃ x, l[k]? = some x := ⟨l[k], by simp [hlt]⟩
      have HVr : Hid (NumsIn wr (· < w.heap.size) (.slice a l.length cap) l) := RowIn.kept HV.out (Kept.of_below HB.out (fun _ h _ => h))
      obtain ⟨b, off, rfl, _, cx⟩ := NumsIn.at HVr.out hx
      have HT : Hid (numCells (l.take (k + 1)) = numCells (l.take k) ++ [.int .i64 x]) := hideIt (by
        rw [List.take_succ_eq_append_getElem hlt, (List.getElem?_eq_some_iff.1 hx).2]; simp [numCells])
      clear hx HVr
      go_wp2_with (at_builtin; refine wpList_append_own_at _ rfl _ _ 22 rfl w.heap.size 3 i0 (.int .i64 0) 1 8 Tryz.underlying22 HI.out.1 HI.out.2.1 HI.out.2.2.1 HI.out.2.2.2 rfl (by decide) _ _ _ rfl (HR.out.alloc _) ⟨wr.heap.size, 0, none⟩ 1 1 [.int .i64 x] rfl rfl ?k1 ?k2 ?k3 ?k4 ?k5 ?_)
      case k1 => exact cell_one_new _ _ _
      case k2 => intro u hu; simp at hu; subst hu; rfl
      case k3 => unfold maxLen; omega
      case k4 => omega
      case k5 => have := HB.out.size; simp; omega
      intro v' w5 hown' hgrow _ _
      have HG5 := hideIt (grown_trans (World.grownBy_alloc wr _ _) hgrow)
      have HO5 : Hid (w5.ownsRow w.heap.size 3 1 v' (k + 1) (numCells (l.take (k + 1)))) := hideIt (by rw [HT.out]; simpa using hown')
      obtain ⟨a', cap', hv'⟩ := own_form hown'
      subst hv'
      clear hown' hgrow cx
      go_wp2
      refine ⟨⟨k + 1, a', cap', by omega, by go_num, rfl, HO5.out, ?_⟩, by simp [intOf]; omega⟩
      exact HB.out.trans ⟨HG5.out.os, HG5.out.tape, HG5.out.output, HG5.out.size, fun j hj => HG5.out.block j (by have := HB.out.size; omega) (fun e => by have := (HR.out.lt j e.symm).1; omega)⟩
    · have ek : k = l.length := by omega
      have HR2 : Hid (wr.ownsRow w.heap.size 3 1 (.slice aa k ac) l.length (numCells l)) := by
        have := HR.out
        rw [ek, List.take_length] at this
        rw [ek]
        exact this
      clear HR
      go_wp2
      go_ret
      exact ⟨_, rfl, HR2.out, HB.out⟩

theorem through_nil (w : World) : Calls Tryz.prog 16 #[.nilIface] w fun e w' => e = .returned .nilIface ∧ w' = w := by
  go_enter Tryz.func16, Tryz.ntmps16
  go_wp2_with fail
  refine (Wrap_nil _ _ w).mono ?_
  rintro e w1 ⟨rfl, rfl⟩
  go_wp2
  go_ret
  exact ⟨rfl, rfl⟩
theorem through_some (t : TypeId) (x : Value) (w : World) : Calls Tryz.prog 16 #[.iface t x] w fun e w' => ∃ t' x', e = .returned (.iface t' x') ∧ Below w.heap.size w w' := by
  go_enter Tryz.func16, Tryz.ntmps16
  go_wp2_with fail
  refine (Wrap_some t x _ _ w).mono ?_
  rintro e w1 ⟨rfl, rfl⟩
  go_wp2
  go_ret
  exact ⟨_, _, rfl, (Below.refl _ _).alloc (Nat.le_refl _) _⟩
end Go.Proofs.YtpgahjnjkihmhaaGreatDoor
