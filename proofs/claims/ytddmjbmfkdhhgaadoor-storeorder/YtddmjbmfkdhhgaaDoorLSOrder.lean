/-
  What is proved here: the walk of cohortlaw07.StoreOrder, over this program.
-/
import Derived.Test.YtddmjbmfkdhhgaaDoorEN
import Derived.Test.YtddmjbmfkdhhgaaDoorLSLays
import Derived.Deep.RegionWith
namespace Go.Proofs.YtddmjbmfkdhhgaaDoor
open Go.RowKit Go.Extern.Stop Go.Stop Go.Extern

theorem PutIs.fit {w' : World} {B : Nat} {er : Value} {l l' : List Ent} {key val : List UInt8} (h : PutIs l key val w' B er l') (hf : Fit l) : Fit l' := by
  rcases h with ⟨_, _, rfl, _⟩ | ⟨_, h, _⟩
  · exact hf
  · exact h

set_option maxRecDepth 100000 in
set_option maxHeartbeats 16000000 in
theorem sorder_true (v : Value) (l0 : List Ent) (vo : Value) (l : List Op7) (w : World) (hv : EntsIn w (· < w.heap.size) v l0) (hn : l0.length ≤ maxLen) (ho : Ops7In w (· < w.heap.size) vo l) (hon : l.length ≤ maxLen) (hok : ∀ o ∈ l, Op7Ok o) (hg : ET w) (ht : PT w) :
    Calls Tryd.prog 5 #[v, vo] w fun e w' => e = .returned (.bool true) ∧ Below w.heap.size w w' := by
  have HV0 : Hid (Env w w) := ⟨Below.refl _ _, hg, ht⟩
  have HH := hideIt (head07_true w hg ht)
  have HA := hideIt (And.intro hv hn)
  have HO := hideIt ho
  have HZ := hideIt hok
  have HN := hideIt hon
  obtain ⟨a, cap, rfl⟩ := hv.form
  obtain ⟨ao, co, rfl⟩ := ho.form
  unfold maxLen at hon
  clear hg ht hv hn ho hok
  go_enter Tryd.func5, Tryd.ntmps5
  go_wp2_with fail
  refine HH.out.mono ?_
  rintro e w1 ⟨rfl, hb1⟩
  have HV1 := hideIt (HV0.out.next hb1)
  have HA1 := hideIt (HA.out.1.kept (Kept.of_below hb1 (fun _ h _ => h)))
  clear hb1 HH
  go_wp2_with fail
  refine (stof_any w1 _ _ l0 HA1.out HA.out.2).mono ?_
  rintro e w2 (⟨hf, p, rfl, hns⟩ | ⟨_, rfl, hb2⟩)
  case inr =>
    have HV2 := hideIt (HV1.out.next hb2)
    clear hb2
    go_wp2
    go_ret
    exact ⟨rfl, HV2.out.1⟩
  have HS2 := hideIt (Ss.new HV1.out hns)
  obtain ⟨O2, hO2⟩ : ∃ O2 : Nat → Prop, O2 = fun k => w1.heap.size ≤ k ∧ k < w2.heap.size := ⟨_, rfl⟩
  rw [← hO2] at HS2
  have HF := hideIt hf
  clear hns hf hO2 HA HA1 HV0 HV1
  go_wp2_with fail
  refine (great07_any _ l0 w2 a cap rfl).mono ?_
  rintro e w3 ⟨⟨g, rfl, _⟩, hb3⟩
  have HS3 := hideIt (HS2.out.next hb3)
  clear hb3 HS2
  cases g with
  | true =>
    go_wp2
    go_ret
    exact ⟨rfl, HS3.out.env.1⟩
  | false =>
  have HO3 := hideIt (HO.out.kept (Kept.of_below HS3.out.env.1 (fun _ h _ => h)))
  go_wp2_with fail
  refine (Great07_any _ _ l w3 HO3.out HN.out HZ.out).mono ?_
  rintro e w4 ⟨⟨g, rfl⟩, rfl⟩
  clear HO3
  cases g with
  | true =>
    go_wp2
    go_ret
    exact ⟨rfl, HS3.out.env.1⟩
  | false =>
  go_wp2
  go_loopw [7] (fun iv wr => ∃ (k : Nat) (L : List Ent) (O : Nat → Prop), k ≤ l.length ∧ iv = .int .i64 k ∧ Hid (Fit L) ∧ Hid (Ss w wr p O L)) (fun iv _ => l.length - (intOf iv).toNat)
  case atStart => exact ⟨0, l0, O2, Nat.zero_le _, rfl, HF, HS3⟩
  case round =>
    clear HF HS3
    obtain ⟨k, L, O, hk, rfl, HF, HS⟩ := hrel
    by_cases hlt : k < l.length
    case neg =>
      go_wp2
      go_ret
      exact ⟨rfl, HS.out.env.1⟩
    case pos =>
      obtain ⟨o, hx⟩ : ∃ o, l[k]? = some o := ⟨l[k], by simp [hlt]⟩
      obtain ⟨b, off, u, rfl, hbw, c0, c1, c2, c3, hu, hcap⟩ := (HO.out.kept (Kept.of_below HS.out.env.1 (fun _ h _ => h))).at hx
      have hos := HZ.out o (List.mem_of_getElem? hx)
      obtain ⟨au, cu, rfl⟩ := EntsIn.form hu
      have HU := hideIt hu
      have HC := hideIt hcap
      have HOS := hideIt hos
      clear hx hu hcap hos hbw
      cases hz : (Go.bits BinOp.and IntKind.i64 o.1 1 == 0) with
      | true =>
        have HSd := hideIt (HS.out.next (below_drew wr))
        go_wp2
        go_region_with (go_at_call 13; refine (stput_any _ p O L o.2.1 o.2.2.1 HSd.out.sto HF.out).mono ?_; rintro e w5 ⟨er, l', O5, rfl, g1, g2, g3⟩; have HS5 := hideIt (HSd.out.move g1 g2); have HF5 := hideIt (g3.fit HF.out); clear g1 g2 g3)
        all_goals
          have HL5 := hideIt (show l'.length ≤ 128 by have := HF5.out.1; omega)
          clear HSd HS HF c0 c1 c2 c3 HU
          go_wp2_with fail
          refine (strange_any w5 p O5 l' [] [] HS5.out.sto HF5.out.rising (by have := HF5.out.1; omega)).mono ?_
          rintro e w6 ⟨vr, rfl, hrow, hb6⟩
          rw [all_in] at hrow
          have HR6 : Hid (EntsIn w6 _ vr l') := hideIt (own_in hrow)
          obtain ⟨ar, cr, rfl⟩ := own_form hrow
          have HS6 := hideIt (HS5.out.next hb6)
          clear hrow hb6 HS5
          have hl5 := HL5.out
          go_wp2_with fail
          refine (stof_any w6 _ _ l' HR6.out (by unfold maxLen; omega)).mono ?_
          rintro e w7 (⟨_, p7, rfl, hns⟩ | ⟨hnf, _, _⟩)
          case inr => exact absurd HF5.out hnf
          have HS7 := hideIt (HS6.out.next hns.2)
          clear hns HS6 HR6
          go_wp2
          exact ⟨⟨k + 1, l', O5, by omega, by go_num, HF5, HS7⟩, by simp [intOf]; omega⟩
      | false =>
        go_wp2_with fail
        refine (stlay_any wr p O _ L o.2.2.2 _ HS.out.sto HF.out HU.out HOS.out.2.2 HC.out).mono ?_
        rintro e w5 ⟨er, l', O5, rfl, g1, g2, g3⟩
        have HS5 := hideIt (HS.out.move g1 g2)
        have HF5 := hideIt (g3.fit HF.out)
        have HL5 := hideIt (show l'.length ≤ 128 by have := HF5.out.1; omega)
        clear g1 g2 g3 HS HF c0 c1 c2 c3 HU
        go_wp2_with fail
        refine (strange_any w5 p O5 l' [] [] HS5.out.sto HF5.out.rising (by have := HF5.out.1; omega)).mono ?_
        rintro e w6 ⟨vr, rfl, hrow, hb6⟩
        rw [all_in] at hrow
        have HR6 : Hid (EntsIn w6 _ vr l') := hideIt (own_in hrow)
        obtain ⟨ar, cr, rfl⟩ := own_form hrow
        have HS6 := hideIt (HS5.out.next hb6)
        clear hrow hb6 HS5
        have hl5 := HL5.out
        go_wp2_with fail
        refine (stof_any w6 _ _ l' HR6.out (by unfold maxLen; omega)).mono ?_
        rintro e w7 (⟨_, p7, rfl, hns⟩ | ⟨hnf, _, _⟩)
        case inr => exact absurd HF5.out hnf
        have HS7 := hideIt (HS6.out.next hns.2)
        clear hns HS6 HR6
        go_wp2
        exact ⟨⟨k + 1, l', O5, by omega, by go_num, HF5, HS7⟩, by simp [intOf]; omega⟩
end Go.Proofs.YtddmjbmfkdhhgaaDoor
