/-
  What is proved here: the walk of cohortlaw05.CertStays, over this program.
-/
import Derived.Test.YtpgahjnjkihmhaaDoorCE
import Derived.Test.YtpgahjnjkihmhaaDoorStep
import Derived.Deep.RegionWith
namespace Go.Proofs.YtpgahjnjkihmhaaDoor
open Go.RowKit Go.Extern.Stop Go.Stop Go.Extern

set_option maxRecDepth 100000 in
set_option maxHeartbeats 16000000 in
theorem cstays_true (v : Value) (l : List Op4) (v2 : Value) (l2 : List Op4) (g d : Int) (u : Value) (S : List Int) (need : Int) (w : World) (hv : Ops4In w (· < w.heap.size) v l) (hll : l.length ≤ maxLen) (hok : ∀ y ∈ l, Op4Ok y) (hv2 : Ops4In w (· < w.heap.size) v2 l2) (_ : l2.length ≤ maxLen) (hok2 : ∀ y ∈ l2, Op4Ok y) (f4 : fits d) (hu : NumsIn w (· < w.heap.size) u S) (hul : S.length ≤ maxLen) (f5 : fits need) (hg : ET w) (ht : PT w) :
    Calls Tryd.prog 5 #[v, v2, .agg #[.int .i64 g, .int .i64 d, u], .int .i64 need] w fun e w' => e = .returned (.bool true) ∧ Below w.heap.size w w' := by
  have HV0 : Hid (Env w w) := ⟨Below.refl _ _, hg, ht⟩
  have HH := hideIt (fun (w' : World) (h : Env w w') => head05_true w' h.et h.pt)
  have HY := hideIt hv
  have HY2 := hideIt hv2
  have HU := hideIt hu
  have HLL := hideIt hll
  have HUL := hideIt hul
  have HF := hideIt (And.intro f4 f5)
  have HK := hideIt hok
  have HK2 := hideIt hok2
  obtain ⟨a, cap, rfl⟩ := hu.form
  obtain ⟨a2, cap2, rfl⟩ := hv2.form
  unfold maxLen at hul
  clear hg ht hv f4 f5 hok hu hll hv2 hok2
  go_enter Tryd.func5, Tryd.ntmps5
  go_wp2_with fail
  obtain ⟨W, hW, hwb, hws, c0, c1, c2, _, _, _⟩ := room_new w 25 (.int .i64 g) (.int .i64 d) (.slice a S.length cap)
  rw [← hW]
  have HVW := hideIt (HV0.out.next hwb)
  have HE : Hid (Env W W) := ⟨Below.refl _ _, HVW.out.et, HVW.out.pt⟩
  have HWB := hideIt hwb
  have HUW := hideIt (RowIn.mono (A' := (· < W.heap.size)) (RowIn.kept HU.out (Kept.of_all hwb)) (fun _ _ h => h))
  have HY2W := hideIt (Ops4In.mono (A' := (· < W.heap.size)) (HY2.out.kept (Kept.of_all hwb)) (fun _ _ h => h))
  have HYW := hideIt (Ops4In.mono (A' := (· < W.heap.size)) (HY.out.kept (Kept.of_all hwb)) (fun _ _ h => h))
  clear hW hwb HV0 HU HY HY2
  refine (HH.out W HVW.out).mono ?_
  rintro e w1 ⟨rfl, hb1⟩
  have HV1 := hideIt (HE.out.next hb1)
  clear hb1 HH HVW hws HE
  go_wp2_with fail
  refine (signed_any v l w1 (Ops4In.mono (HYW.out.kept (Kept.of_all HV1.out.1)) (fun _ _ h => h)) HLL.out HK.out).mono ?_
  obtain ⟨L, hL⟩ : ∃ L, sealedTo [] l (min l.length 200) = L := ⟨_, rfl⟩
  have hL2 : L.length ≤ 200 := by have := sealedTo_le [] l (min l.length 200); rw [hL] at this; simp at this; omega
  rw [hL]
  clear hL
  rintro e w2 ⟨p, q, rfl, C, O, O2, hs, -, hO, -, -, -, hb⟩
  have HV2 := hideIt (HV1.out.next hb)
  have HS2 := hideIt hs
  have HO : Hid (∀ k, O k → W.heap.size ≤ k) := hideIt (fun k hk => Nat.le_trans HV1.out.1.size (hO k hk).1)
  have e0 := (HV2.out.1.cell (lt_of_cell c0)).trans c0
  have e1 := (HV2.out.1.cell (lt_of_cell c1)).trans c1
  have e2 := (HV2.out.1.cell (lt_of_cell c2)).trans c2
  clear hs hb hO HV1 HYW
  by_cases h200 : (200 : Int) < (S.length : Int)
  · go_wp2
    go_ret
    exact ⟨rfl, HWB.out.trans (HV2.out.1.mono HWB.out.size)⟩
  · go_wp2_with fail
    refine (cCheck_any w2 p O _ L g d _ S need HS2.out (RowIn.kept HUW.out (Kept.of_below HV2.out.1 (fun _ h _ => h))) HF.out.1 HUL.out).mono ?_
    rintro e w3 ⟨er, rfl, he, hb3⟩
    have HV3 := hideIt (HV2.out.next hb3)
    have HS3 := hideIt (HS2.out.kept (Kept.of_all hb3))
    have HC := hideIt he
    clear hb3 HV2 HS2 e0 e1 e2
    rcases he.form with ⟨hn, rfl⟩ | ⟨hn, ty, y, rfl⟩
    · have HN := hideIt hn
      have hneed := (chk_none.1 hn).2
      clear he hn HC
      go_wp2
      go_loopw [12] (fun i wr => ∃ (k : Nat), k ≤ l2.length ∧ k ≤ 200 ∧ i = .int .i64 k ∧ Hid (SealSt wr p O (sealedTo L l2 k)) ∧ Hid (Env W wr)) (fun i _ => l2.length - (intOf i).toNat)
      case atStart => exact ⟨0, Nat.zero_le _, by omega, rfl, HS3.out, HV3.out⟩
      case round =>
        clear HS3 HV3
        obtain ⟨k, hk, hk2, rfl, HS, HV⟩ := hrel
        by_cases hlt : k < l2.length ∧ k < 200
        · obtain ⟨hlt, h200⟩ := hlt
          obtain ⟨x, hx⟩ : ∃ x, l2[k]? = some x := ⟨l2[k], by simp [hlt]⟩
          obtain ⟨b, off, rfl, hbw, c0, c1, c2⟩ := (HY2W.out.kept (Kept.of_below HV.out.1 (fun _ h _ => h))).at hx
          have HX := hideIt (HK2.out x (List.mem_of_getElem? hx))
          have HXS := hideIt (sealedTo_succ (L := L) hx)
          obtain ⟨L1, hL1⟩ : ∃ L1, sealedTo L l2 k = L1 := ⟨_, rfl⟩
          have HL1 : Hid (L1.length < 131072) := hideIt (by have := sealedTo_le L l2 k; rw [hL1] at this; omega)
          rw [hL1] at HS HXS
          clear hx hbw hL1
          obtain ⟨m, hm⟩ : ∃ m, memb x.1 x.2.1 = m := ⟨_, rfl⟩
          have HM := hideIt (fits_memb x.1 x.2.1)
          rw [hm] at HM HXS
          have HMM : Hid (∀ w : World, Calls Tryd.prog 20 #[.int .i64 x.1, .int .i64 x.2.1] w fun e w' => e = .returned (.int .i64 m) ∧ w' = w) := hideIt (fun w => (dsMember_any x.1 x.2.1 w).mono (fun e w' h => ⟨by rw [h.1, hm], h.2⟩))
          have h200' : (k : Int) < 200 := by omega
          clear hm
          have HSd := hideIt HS.out.drew
          go_wp2_with fail
          go_region_with (first | (go_at_call 20; refine (HMM.out _).mono ?_; rintro e w4 ⟨rfl, rfl⟩) | (go_at_call 19; refine (sSign_any _ p O L1 m _ HSd.out HM.out HX.out.2.2 HL1.out).mono ?_; rintro e w4 ⟨er, rfl, -, hs4, ht4⟩; have HS4 := hideIt hs4; have HV4 := hideIt (HV.out.turned ht4.drew HO.out); clear hs4 ht4))
          all_goals
            go_wp2
            exact ⟨⟨k + 1, by omega, by omega, by go_num, by rw [HXS.out]; exact HS4.out, HV4.out⟩, by simp [intOf]; omega⟩
        · obtain ⟨L1, hL1⟩ : ∃ L1, sealedTo L l2 k = L1 := ⟨_, rfl⟩
          have HSUB : Hid (∀ n, chk L g d S n = none → chk L1 g d S n = none) := hideIt (fun n h => chk_sub h (fun x hx => by rw [← hL1]; exact sealedTo_sub hx l2 k))
          rw [hL1] at HS
          have HLN : Hid (∀ n, 1 ≤ n → n ≤ (S.length : Int) → chk L1 g d S n = none) := hideIt (fun n h1 h2 => HSUB.out n (chk_none.2 ⟨(chk_none.1 HN.out).1, h1, h2⟩))
          have HLE : Hid (chk L1 g d S ((S.length : Int) + 1) ≠ none) := hideIt (fun h => by have := (chk_none.1 h).2.2; omega)
          clear hL1 HSUB HN
          have hend : ¬ k < l2.length ∨ (k < l2.length ∧ ¬ (k : Int) < 200) := by omega
          have e0 := (HV.out.1.cell (lt_of_cell c0)).trans c0
          have e1 := (HV.out.1.cell (lt_of_cell c1)).trans c1
          have e2 := (HV.out.1.cell (lt_of_cell c2)).trans c2
          clear hlt
          rcases hend with hend | ⟨hend, hend2⟩
          all_goals
            go_wp2_with fail
            refine (cCheck_any wr p O _ L1 g d _ S need HS.out (RowIn.kept HUW.out (Kept.of_below HV.out.1 (fun _ h _ => h))) HF.out.1 HUL.out).mono ?_
            rintro e w4 ⟨er, rfl, he, hb4⟩
            have hnil := chk_nil he (HLN.out need hneed.1 hneed.2)
            subst hnil
            have HV4 := hideIt (HV.out.next hb4)
            have HS4 := hideIt (HS.out.kept (Kept.of_all hb4))
            have d0 := (hb4.cell (lt_of_cell e0)).trans e0
            have d1 := (hb4.cell (lt_of_cell e1)).trans e1
            have d2 := (hb4.cell (lt_of_cell e2)).trans e2
            clear he hb4 e0 e1 e2
            by_cases hn2 : need < 2
            · go_wp2_with fail
              refine (cCheck_any w4 p O _ L1 g d _ S (S.length : Int) HS4.out (RowIn.kept HUW.out (Kept.of_below HV4.out.1 (fun _ h _ => h))) HF.out.1 HUL.out).mono ?_
              rintro e w6 ⟨er, rfl, he, hb6⟩
              have hnil := chk_nil he (HLN.out _ (by omega) (Int.le_refl _))
              subst hnil
              have HV6 := hideIt (HV4.out.next hb6)
              have HS6 := hideIt (HS4.out.kept (Kept.of_all hb6))
              have e0 := (hb6.cell (lt_of_cell d0)).trans d0
              have e1 := (hb6.cell (lt_of_cell d1)).trans d1
              have e2 := (hb6.cell (lt_of_cell d2)).trans d2
              clear he hb6 d0 d1 d2
              go_wp2_with fail
              refine (cCheck_any w6 p O _ L1 g d _ S ((S.length : Int) + 1) HS6.out (RowIn.kept HUW.out (Kept.of_below HV6.out.1 (fun _ h _ => h))) HF.out.1 HUL.out).mono ?_
              rintro e w7 ⟨er, rfl, he, hb7⟩
              obtain ⟨ty2, z2, rfl⟩ := chk_iface he HLE.out
              have HV7 := hideIt (HV6.out.next hb7)
              clear he hb7 e0 e1 e2
              go_wp2
              go_ret
              exact ⟨rfl, HWB.out.trans (HV7.out.1.mono HWB.out.size)⟩
            · go_wp2_with fail
              refine (cCheck_any w4 p O _ L1 g d _ S (need - 1) HS4.out (RowIn.kept HUW.out (Kept.of_below HV4.out.1 (fun _ h _ => h))) HF.out.1 HUL.out).mono ?_
              rintro e w6 ⟨er, rfl, he, hb6⟩
              have hnil := chk_nil he (HLN.out _ (by omega) (by omega))
              subst hnil
              have HV6 := hideIt (HV4.out.next hb6)
              have HS6 := hideIt (HS4.out.kept (Kept.of_all hb6))
              have e0 := (hb6.cell (lt_of_cell d0)).trans d0
              have e1 := (hb6.cell (lt_of_cell d1)).trans d1
              have e2 := (hb6.cell (lt_of_cell d2)).trans d2
              clear he hb6 d0 d1 d2
              go_wp2_with fail
              refine (cCheck_any w6 p O _ L1 g d _ S (S.length : Int) HS6.out (RowIn.kept HUW.out (Kept.of_below HV6.out.1 (fun _ h _ => h))) HF.out.1 HUL.out).mono ?_
              rintro e w7 ⟨er, rfl, he, hb7⟩
              have hnil := chk_nil he (HLN.out _ (by omega) (Int.le_refl _))
              subst hnil
              have HV7 := hideIt (HV6.out.next hb7)
              have HS7 := hideIt (HS6.out.kept (Kept.of_all hb7))
              have d0 := (hb7.cell (lt_of_cell e0)).trans e0
              have d1 := (hb7.cell (lt_of_cell e1)).trans e1
              have d2 := (hb7.cell (lt_of_cell e2)).trans e2
              clear he hb7 e0 e1 e2
              go_wp2_with fail
              refine (cCheck_any w7 p O _ L1 g d _ S ((S.length : Int) + 1) HS7.out (RowIn.kept HUW.out (Kept.of_below HV7.out.1 (fun _ h _ => h))) HF.out.1 HUL.out).mono ?_
              rintro e w8 ⟨er, rfl, he, hb8⟩
              obtain ⟨ty2, z2, rfl⟩ := chk_iface he HLE.out
              have HV8 := hideIt (HV7.out.next hb8)
              clear he hb8 d0 d1 d2
              go_wp2
              go_ret
              exact ⟨rfl, HWB.out.trans (HV8.out.1.mono HWB.out.size)⟩
    · clear he hn HC
      go_wp2
      go_ret
      exact ⟨rfl, HWB.out.trans (HV3.out.1.mono HWB.out.size)⟩
end Go.Proofs.YtpgahjnjkihmhaaDoor
