/-
  What is proved here: the walk of cohortlaw05.CertRight, over this program.
-/
import Derived.Test.YtpgahjnjkihmhaaDoorCG
import Derived.Test.YtpgahjnjkihmhaaDoorStep
import Derived.Deep.RegionWith
namespace Go.Proofs.YtpgahjnjkihmhaaDoor
open Go.RowKit Go.Extern.Stop Go.Stop Go.Extern

set_option maxRecDepth 100000 in
set_option maxHeartbeats 16000000 in
theorem cright_true (v : Value) (l : List Op4) (group digest need : Int) (g d : Int) (u : Value) (S : List Int) (w : World) (hv : Ops4In w (· < w.heap.size) v l) (hll : l.length ≤ maxLen) (hok : ∀ y ∈ l, Op4Ok y) (f2 : fits digest) (f4 : fits d) (hu : NumsIn w (· < w.heap.size) u S) (hul : S.length ≤ maxLen) (hg : ET w) (ht : PT w) :
    Calls Tryd.prog 4 #[v, .int .i64 group, .int .i64 digest, .int .i64 need, .agg #[.int .i64 g, .int .i64 d, u]] w fun e w' => e = .returned (.bool true) ∧ Below w.heap.size w w' := by
  have HV0 : Hid (Env w w) := ⟨Below.refl _ _, hg, ht⟩
  have HH := hideIt (fun (w' : World) (h : Env w w') => head05_true w' h.et h.pt)
  have HY := hideIt hv
  have HU := hideIt hu
  have HLL := hideIt hll
  have HUL := hideIt hul
  have HF := hideIt (And.intro f4 f2)
  have HK := hideIt hok
  obtain ⟨a, cap, rfl⟩ := hu.form
  unfold maxLen at hul
  clear hg ht hv f4 f2 hok hu hll
  go_enter Tryd.func4, Tryd.ntmps4
  go_wp2_with fail
  obtain ⟨W, hW, hwb, hws, c0, c1, c2, _, _, _⟩ := room_new w 25 (.int .i64 g) (.int .i64 d) (.slice a S.length cap)
  rw [← hW]
  have HVW := hideIt (HV0.out.next hwb)
  have HE : Hid (Env W W) := ⟨Below.refl _ _, HVW.out.et, HVW.out.pt⟩
  have HWB := hideIt hwb
  have HUW : Hid (NumsIn W (· < W.heap.size) (.slice a S.length cap) S) := RowIn.mono (A' := (· < W.heap.size)) (RowIn.kept HU.out (Kept.of_all hwb)) (fun _ _ h => h)
  have HYW := hideIt (Ops4In.mono (A' := (· < W.heap.size)) (HY.out.kept (Kept.of_all hwb)) (fun _ _ h => h))
  clear hW hwb HV0 HU HY
  refine (HH.out W HVW.out).mono ?_
  rintro e w1 ⟨rfl, hb1⟩
  have HV1 := hideIt (HE.out.next hb1)
  clear hb1 HH HVW hws HE
  go_wp2_with fail
  refine (signed_any v l w1 (Ops4In.mono (HYW.out.kept (Kept.of_all HV1.out.1)) (fun _ _ h => h)) HLL.out HK.out).mono ?_
  generalize sealedTo [] l (min l.length 200) = L
  rintro e w2 ⟨p, q, rfl, C, O, O2, hs, -, -, -, -, -, hb⟩
  have HV2 := hideIt (HV1.out.next hb)
  have HS2 := hideIt hs
  have e0 := (HV2.out.1.cell (lt_of_cell c0)).trans c0
  have e1 := (HV2.out.1.cell (lt_of_cell c1)).trans c1
  have e2 := (HV2.out.1.cell (lt_of_cell c2)).trans c2
  clear hs hb HV1 HYW
  by_cases h200 : (200 : Int) < (S.length : Int)
  · go_wp2
    go_ret
    exact ⟨rfl, HWB.out.trans (HV2.out.1.mono HWB.out.size)⟩
  · have HOK := hideIt HS2.out.ok
    obtain ⟨M, hM⟩ : ∃ M, (whoTo L group digest 10).length = M := ⟨_, rfl⟩
    have hM10 : M ≤ 10 := by rw [← hM]; exact whoTo_le _ _ _ _
    have HM := hideIt hM
    clear hM
    by_cases hmk : 1 ≤ need ∧ need ≤ (M : Int)
    · obtain ⟨N, rfl⟩ : ∃ N : Nat, need = N := ⟨need.toNat, by omega⟩
      have hN1 : 1 ≤ N := by omega
      have hN2 : N ≤ M := by omega
      have HMK := hideIt (cMake_ok w2 p O L group digest N HS2.out HF.out.2 hN1 (by rw [HM.out]; exact hN2))
      have HCM := hideIt (chk_made (g := group) (d := digest) HOK.out hN1 (by rw [HM.out]; exact hN2))
      have HTL : Hid (((whoTo L group digest 10).take N).length = N) := hideIt (by rw [List.length_take, HM.out]; omega)
      generalize (whoTo L group digest 10).take N = X at HMK HCM HTL
      clear hmk
      go_wp2_with fail
      refine HMK.out.mono ?_
      rintro e w3 ⟨ax, capx, rfl, hn3, hb3⟩
      have HV3 := hideIt (HV2.out.next hb3)
      have HS3 := hideIt (HS2.out.kept (Kept.of_all hb3))
      have HN3 := hideIt hn3
      have d0 := (hb3.cell (lt_of_cell e0)).trans e0
      have d1 := (hb3.cell (lt_of_cell e1)).trans e1
      have d2 := (hb3.cell (lt_of_cell e2)).trans e2
      clear hn3 hb3 HMK HS2 HV2 e0 e1 e2
      go_wp2_with fail
      obtain ⟨W4, hW4, hwb4, hws4, r0, r1, r2, _, _, _⟩ := room_new w3 25 (.int .i64 group) (.int .i64 digest) (.slice ax N capx)
      rw [← hW4]
      have HV4 := hideIt (HV3.out.next hwb4)
      have HS4 := hideIt (HS3.out.kept (Kept.of_all hwb4))
      have HN4 : Hid (NumsIn W4 _ (.slice ax N capx) X) := RowIn.kept HN3.out (Kept.of_all hwb4)
      have e0 := (hwb4.cell (lt_of_cell d0)).trans d0
      have e1 := (hwb4.cell (lt_of_cell d1)).trans d1
      have e2 := (hwb4.cell (lt_of_cell d2)).trans d2
      clear hW4 hwb4 hws4 d0 d1 d2 HV3 HS3 HN3
      refine (cCheck_any W4 p O _ L group digest _ X (N : Int) HS4.out HN4.out HF.out.2 (by rw [HTL.out]; unfold maxLen; omega)).mono ?_
      rintro e wT ⟨er, rfl, he, hbT⟩
      have hnil := chk_nil he HCM.out
      subst hnil
      have HVT := hideIt (HV4.out.next hbT)
      have HST := hideIt (HS4.out.kept (Kept.of_all hbT))
      have T0 := (hbT.cell (lt_of_cell e0)).trans e0
      have T1 := (hbT.cell (lt_of_cell e1)).trans e1
      have T2 := (hbT.cell (lt_of_cell e2)).trans e2
      have x0 := (hbT.cell (lt_of_cell r0)).trans r0
      have x1 := (hbT.cell (lt_of_cell r1)).trans r1
      have x2 := (hbT.cell (lt_of_cell r2)).trans r2
      clear he hbT e0 e1 e2 r0 r1 r2 HV4 HS4 HN4 HCM HTL
      go_wp2_with fail
      clear x0 x1 x2
      refine (cCheck_any wT p O _ L g d _ S (N : Int) HST.out (RowIn.kept HUW.out (Kept.of_below HVT.out.1 (fun _ h _ => h))) HF.out.1 HUL.out).mono ?_
      rintro e w5 ⟨er, rfl, he, hb5⟩
      have HV5 := hideIt (HVT.out.next hb5)
      have HS5 := hideIt (HST.out.kept (Kept.of_all hb5))
      clear hb5 T0 T1 T2 HVT HST
      rcases he.form with ⟨hn, rfl⟩ | ⟨hn, ty, y, rfl⟩
      · have HN := hideIt hn
        have hneed := (chk_none.1 hn).2
        clear he hn
        go_wp2
        go_loopw [16] (fun i wr => ∃ k : Nat, k ≤ S.length ∧ i = .int .i64 k ∧ Hid (SealSt wr p O L) ∧ Hid (Env W wr)) (fun i _ => S.length - (intOf i).toNat)
        case atStart => exact ⟨0, Nat.zero_le _, rfl, HS5.out, HV5.out⟩
        case round =>
          clear HS5 HV5
          obtain ⟨k, hk, rfl, HS, HV⟩ := hrel
          have t0 := (HV.out.1.cell (lt_of_cell c0)).trans c0
          have t1 := (HV.out.1.cell (lt_of_cell c1)).trans c1
          have t2 := (HV.out.1.cell (lt_of_cell c2)).trans c2
          by_cases hlt : k < S.length
          · obtain ⟨x, hx⟩ : ∃ x, S[k]? = some x := ⟨S[k], by simp [hlt]⟩
            have HR0 : Hid (NumsIn wr (· < W.heap.size) (.slice a S.length cap) S) := RowIn.kept HUW.out (Kept.of_below HV.out.1 (fun _ h _ => h))
            obtain ⟨b, off, rfl, _, cx⟩ := NumsIn.at HR0.out hx
            have HX := hideIt hx
            have HIN := hideIt (chk_signed HN.out hx)
            obtain ⟨m, hm⟩ : ∃ m, memb g x = m := ⟨_, rfl⟩
            rw [hm] at HIN
            have HFM : Hid (fits m) := hideIt (by rw [← hm]; exact fits_memb _ _)
            have HMM : Hid (∀ w : World, Calls Tryd.prog 18 #[.int .i64 g, .int .i64 x] w fun e w' => e = .returned (.int .i64 m) ∧ Below w.heap.size w w') := hideIt (fun w => (sMember_any g x w).mono (fun e w' h => ⟨by rw [h.1, hm], by rw [h.2]; exact Below.refl _ _⟩))
            clear hx hm
            go_wp2
            refine wp_region_quiet_grow (by kernel_rfl) (by kernel_rfl) ?_
            intro ι _ f hf hn
            have q0 := fun i => ((hf i).cell (lt_of_cell t0)).trans t0
            have q1 := fun i => ((hf i).cell (lt_of_cell t1)).trans t1
            have q2 := fun i => ((hf i).cell (lt_of_cell t2)).trans t2
            have qx := fun i => ((hf i).cell (lt_of_cell cx)).trans cx
            have HSF := hideIt (fun i => HS.out.kept (Kept.of_all (hf i)))
            have HFF := hideIt hf
            have HNN := hideIt hn
            have HA := hideIt (fun i => sSigned_any (f i) p O L m d (HSF.out i) HFM.out HF.out.1)
            rw [show decide ((m, d) ∈ L) = true by simp [HIN.out]] at HA
            clear hf hn
            repeat (go_big_quiet_step (first | (go_at_call 18; exact Calls.grow HNN.out (HMM.out _)) | (go_at_call 17; exact Calls.grow HNN.out (HA.out _))))
            refine wpQuiet_nil ?_
            rintro w8 ⟨i, rfl⟩
            have HV8 := hideIt (HV.out.next (HFF.out i))
            have HS8 := hideIt (HSF.out i)
            have s0 := q0 i
            have s1 := q1 i
            have s2 := q2 i
            have sx := qx i
            clear q0 q1 q2 qx HFF HNN HSF HA HMM t0 t1 t2 cx HS HV HR0
            generalize f i = w8 at HV8 HS8 s0 s1 s2 sx ⊢
            clear f
            go_wp2
            go_loopw [17] (fun jv wq => ∃ j : Nat, j ≤ k ∧ jv = .int .i64 j ∧ Hid (SealSt wq p O L) ∧ Hid (Env W wq)) (fun jv _ => k - (intOf jv).toNat)
            case atStart => exact ⟨0, Nat.zero_le _, rfl, HS8.out, HV8.out⟩
            case round =>
              clear HS8 HV8 s0 s1 s2 sx
              obtain ⟨j, hj, rfl, HS, HV⟩ := hrel
              have t0 := (HV.out.1.cell (lt_of_cell c0)).trans c0
              have t1 := (HV.out.1.cell (lt_of_cell c1)).trans c1
              have t2 := (HV.out.1.cell (lt_of_cell c2)).trans c2
              by_cases hjk : j < k
              · obtain ⟨y, hy⟩ : ∃ y, S[j]? = some y := ⟨S[j], by simp⟩
                have HR0 : Hid (NumsIn wr (· < W.heap.size) (.slice (some ⟨b, off, none⟩) S.length cap) S) := RowIn.kept HUW.out (Kept.of_below HV.out.1 (fun _ h _ => h))
                obtain ⟨_, _, hbe, _, cx⟩ := NumsIn.at HR0.out HX.out
                cases hbe
                obtain ⟨_, _, hbe, _, cy⟩ := NumsIn.at HR0.out hy
                cases hbe
                have hxy := chk_unlike HN.out hjk hy HX.out
                clear hy HR0
                go_wp2
                refine wp_region_quiet_grow (by kernel_rfl) (by kernel_rfl) ?_
                intro ι _ f hf hn
                have q2 := fun i => ((hf i).cell (lt_of_cell t2)).trans t2
                have qx := fun i => ((hf i).cell (lt_of_cell cx)).trans cx
                have qy := fun i => ((hf i).cell (lt_of_cell cy)).trans cy
                have HFF := hideIt hf
                clear hf hn
                repeat (go_big_quiet_step (fail))
                refine wpQuiet_nil ?_
                rintro w8 ⟨i, rfl⟩
                have HV8 := hideIt (HV.out.next (HFF.out i))
                have HS8 := hideIt (HS.out.kept (Kept.of_all (HFF.out i)))
                clear q2 qx qy HFF t0 t1 t2 cx cy HS HV
                generalize f i = w8 at HV8 HS8 ⊢
                clear f
                go_wp2
                exact ⟨⟨j + 1, by omega, by go_num, HS8.out, HV8.out⟩, by simp [intOf]; omega⟩
              · go_wp2
                exact ⟨⟨k + 1, by omega, by go_num, HS.out, HV.out⟩, by simp [intOf]; omega⟩
          · go_wp2
            go_ret
            exact ⟨rfl, HWB.out.trans (HV.out.1.mono HWB.out.size)⟩
      · clear he hn
        go_wp2
        go_ret
        exact ⟨rfl, HWB.out.trans (HV5.out.1.mono HWB.out.size)⟩
    · have HMK := hideIt (cMake_few w2 p O L group digest need HS2.out HF.out.2 (by rw [HM.out]; omega))
      rw [HM.out] at HMK
      go_wp2_with fail
      refine HMK.out.mono ?_
      rintro e w3 ⟨er, rfl, ho, hb3⟩
      have HV3 := hideIt (HV2.out.next hb3)
      have HS3 := hideIt (HS2.out.kept (Kept.of_all hb3))
      have d0 := (hb3.cell (lt_of_cell e0)).trans e0
      have d1 := (hb3.cell (lt_of_cell e1)).trans e1
      have d2 := (hb3.cell (lt_of_cell e2)).trans e2
      obtain ⟨ty, y, rfl⟩ := ho.iface
      clear ho hb3 HMK HS2 HV2 e0 e1 e2
      go_wp2_with fail
      obtain ⟨W4, hW4, hwb4, hws4, r0, r1, r2, _, _, _⟩ := room_new w3 25 (.int .i64 0) (.int .i64 0) (.slice none 0 0)
      rw [← hW4]
      have HV4 := hideIt (HV3.out.next hwb4)
      have HS4 := hideIt (HS3.out.kept (Kept.of_all hwb4))
      have e0 := (hwb4.cell (lt_of_cell d0)).trans d0
      have e1 := (hwb4.cell (lt_of_cell d1)).trans d1
      have e2 := (hwb4.cell (lt_of_cell d2)).trans d2
      clear hW4 hwb4 hws4 d0 d1 d2 HV3 HS3
      refine (sWho_any W4 p O L group digest HS4.out HF.out.2).mono ?_
      rintro e wT ⟨vw, rfl, hr, hbT⟩
      rw [HM.out] at hr
      obtain ⟨aw, capw, rfl⟩ := own_form hr
      have HVT := hideIt (HV4.out.next hbT)
      have HST := hideIt (HS4.out.kept (Kept.of_all hbT))
      have T0 := (hbT.cell (lt_of_cell e0)).trans e0
      have T1 := (hbT.cell (lt_of_cell e1)).trans e1
      have T2 := (hbT.cell (lt_of_cell e2)).trans e2
      have x0 := (hbT.cell (lt_of_cell r0)).trans r0
      have x1 := (hbT.cell (lt_of_cell r1)).trans r1
      have x2 := (hbT.cell (lt_of_cell r2)).trans r2
      have hcs : ¬ need ≤ (M : Int) ∨ (need ≤ (M : Int) ∧ ¬ 1 ≤ need) := by omega
      clear hr hbT e0 e1 e2 r0 r1 r2 HV4 HS4 hmk
      rcases hcs with h1 | ⟨h1, h2⟩
      · go_wp2_with fail
        clear x0 x1 x2 h1
        refine (cCheck_any wT p O _ L g d _ S need HST.out (RowIn.kept HUW.out (Kept.of_below HVT.out.1 (fun _ h _ => h))) HF.out.1 HUL.out).mono ?_
        rintro e w5 ⟨er, rfl, he, hb5⟩
        have HV5 := hideIt (HVT.out.next hb5)
        have HS5 := hideIt (HST.out.kept (Kept.of_all hb5))
        clear hb5 T0 T1 T2 HVT HST
        rcases he.form with ⟨hn, rfl⟩ | ⟨hn, ty, y, rfl⟩
        · have HN := hideIt hn
          have hneed := (chk_none.1 hn).2
          clear he hn
          go_wp2
          go_loopw [16] (fun i wr => ∃ k : Nat, k ≤ S.length ∧ i = .int .i64 k ∧ Hid (SealSt wr p O L) ∧ Hid (Env W wr)) (fun i _ => S.length - (intOf i).toNat)
          case atStart => exact ⟨0, Nat.zero_le _, rfl, HS5.out, HV5.out⟩
          case round =>
            clear HS5 HV5
            obtain ⟨k, hk, rfl, HS, HV⟩ := hrel
            have t0 := (HV.out.1.cell (lt_of_cell c0)).trans c0
            have t1 := (HV.out.1.cell (lt_of_cell c1)).trans c1
            have t2 := (HV.out.1.cell (lt_of_cell c2)).trans c2
            by_cases hlt : k < S.length
            · obtain ⟨x, hx⟩ : ∃ x, S[k]? = some x := ⟨S[k], by simp [hlt]⟩
              have HR0 : Hid (NumsIn wr (· < W.heap.size) (.slice a S.length cap) S) := RowIn.kept HUW.out (Kept.of_below HV.out.1 (fun _ h _ => h))
              obtain ⟨b, off, rfl, _, cx⟩ := NumsIn.at HR0.out hx
              have HX := hideIt hx
              have HIN := hideIt (chk_signed HN.out hx)
              obtain ⟨m, hm⟩ : ∃ m, memb g x = m := ⟨_, rfl⟩
              rw [hm] at HIN
              have HFM : Hid (fits m) := hideIt (by rw [← hm]; exact fits_memb _ _)
              have HMM : Hid (∀ w : World, Calls Tryd.prog 18 #[.int .i64 g, .int .i64 x] w fun e w' => e = .returned (.int .i64 m) ∧ Below w.heap.size w w') := hideIt (fun w => (sMember_any g x w).mono (fun e w' h => ⟨by rw [h.1, hm], by rw [h.2]; exact Below.refl _ _⟩))
              clear hx hm
              go_wp2
              refine wp_region_quiet_grow (by kernel_rfl) (by kernel_rfl) ?_
              intro ι _ f hf hn
              have q0 := fun i => ((hf i).cell (lt_of_cell t0)).trans t0
              have q1 := fun i => ((hf i).cell (lt_of_cell t1)).trans t1
              have q2 := fun i => ((hf i).cell (lt_of_cell t2)).trans t2
              have qx := fun i => ((hf i).cell (lt_of_cell cx)).trans cx
              have HSF := hideIt (fun i => HS.out.kept (Kept.of_all (hf i)))
              have HFF := hideIt hf
              have HNN := hideIt hn
              have HA := hideIt (fun i => sSigned_any (f i) p O L m d (HSF.out i) HFM.out HF.out.1)
              rw [show decide ((m, d) ∈ L) = true by simp [HIN.out]] at HA
              clear hf hn
              repeat (go_big_quiet_step (first | (go_at_call 18; exact Calls.grow HNN.out (HMM.out _)) | (go_at_call 17; exact Calls.grow HNN.out (HA.out _))))
              refine wpQuiet_nil ?_
              rintro w8 ⟨i, rfl⟩
              have HV8 := hideIt (HV.out.next (HFF.out i))
              have HS8 := hideIt (HSF.out i)
              have s0 := q0 i
              have s1 := q1 i
              have s2 := q2 i
              have sx := qx i
              clear q0 q1 q2 qx HFF HNN HSF HA HMM t0 t1 t2 cx HS HV HR0
              generalize f i = w8 at HV8 HS8 s0 s1 s2 sx ⊢
              clear f
              go_wp2
              go_loopw [17] (fun jv wq => ∃ j : Nat, j ≤ k ∧ jv = .int .i64 j ∧ Hid (SealSt wq p O L) ∧ Hid (Env W wq)) (fun jv _ => k - (intOf jv).toNat)
              case atStart => exact ⟨0, Nat.zero_le _, rfl, HS8.out, HV8.out⟩
              case round =>
                clear HS8 HV8 s0 s1 s2 sx
                obtain ⟨j, hj, rfl, HS, HV⟩ := hrel
                have t0 := (HV.out.1.cell (lt_of_cell c0)).trans c0
                have t1 := (HV.out.1.cell (lt_of_cell c1)).trans c1
                have t2 := (HV.out.1.cell (lt_of_cell c2)).trans c2
                by_cases hjk : j < k
                · obtain ⟨y, hy⟩ : ∃ y, S[j]? = some y := ⟨S[j], by simp⟩
                  have HR0 : Hid (NumsIn wr (· < W.heap.size) (.slice (some ⟨b, off, none⟩) S.length cap) S) := RowIn.kept HUW.out (Kept.of_below HV.out.1 (fun _ h _ => h))
                  obtain ⟨_, _, hbe, _, cx⟩ := NumsIn.at HR0.out HX.out
                  cases hbe
                  obtain ⟨_, _, hbe, _, cy⟩ := NumsIn.at HR0.out hy
                  cases hbe
                  have hxy := chk_unlike HN.out hjk hy HX.out
                  clear hy HR0
                  go_wp2
                  refine wp_region_quiet_grow (by kernel_rfl) (by kernel_rfl) ?_
                  intro ι _ f hf hn
                  have q2 := fun i => ((hf i).cell (lt_of_cell t2)).trans t2
                  have qx := fun i => ((hf i).cell (lt_of_cell cx)).trans cx
                  have qy := fun i => ((hf i).cell (lt_of_cell cy)).trans cy
                  have HFF := hideIt hf
                  clear hf hn
                  repeat (go_big_quiet_step (fail))
                  refine wpQuiet_nil ?_
                  rintro w8 ⟨i, rfl⟩
                  have HV8 := hideIt (HV.out.next (HFF.out i))
                  have HS8 := hideIt (HS.out.kept (Kept.of_all (HFF.out i)))
                  clear q2 qx qy HFF t0 t1 t2 cx cy HS HV
                  generalize f i = w8 at HV8 HS8 ⊢
                  clear f
                  go_wp2
                  exact ⟨⟨j + 1, by omega, by go_num, HS8.out, HV8.out⟩, by simp [intOf]; omega⟩
                · go_wp2
                  exact ⟨⟨k + 1, by omega, by go_num, HS.out, HV.out⟩, by simp [intOf]; omega⟩
            · go_wp2
              go_ret
              exact ⟨rfl, HWB.out.trans (HV.out.1.mono HWB.out.size)⟩
        · clear he hn
          go_wp2
          go_ret
          exact ⟨rfl, HWB.out.trans (HV5.out.1.mono HWB.out.size)⟩
      · go_wp2_with fail
        clear x0 x1 x2 h1
        refine (cCheck_any wT p O _ L g d _ S need HST.out (RowIn.kept HUW.out (Kept.of_below HVT.out.1 (fun _ h _ => h))) HF.out.1 HUL.out).mono ?_
        rintro e w5 ⟨er, rfl, he, hb5⟩
        have HV5 := hideIt (HVT.out.next hb5)
        have HS5 := hideIt (HST.out.kept (Kept.of_all hb5))
        clear hb5 T0 T1 T2 HVT HST
        rcases he.form with ⟨hn, rfl⟩ | ⟨hn, ty, y, rfl⟩
        · have hneed := (chk_none.1 hn).2
          exact absurd hneed.1 (by omega)
        · clear he hn
          go_wp2
          go_ret
          exact ⟨rfl, HWB.out.trans (HV5.out.1.mono HWB.out.size)⟩
end Go.Proofs.YtpgahjnjkihmhaaDoor
