/-
  What is proved here: the walk of cohortlaw05.CertBack, over this program.
-/
import Derived.Test.YtpgahjnjkihmhaaGreatDoorCN
import Derived.Test.YtpgahjnjkihmhaaGreatDoorDS
import Derived.Test.YtpgahjnjkihmhaaGreatDoorCD
import Derived.Test.YtpgahjnjkihmhaaGreatDoorStep
import Derived.Deep.RegionWith
namespace Go.Proofs.YtpgahjnjkihmhaaGreatDoor
open Go.RowKit Go.Extern.Stop Go.Stop Go.Extern

set_option maxRecDepth 100000 in
set_option maxHeartbeats 32000000 in
theorem cback_true (g d : Int) (u : Value) (S : List Int) (v : Value) (bs : List UInt8) (w : World) (f1 : fits g) (f2 : fits d) (hu : NumsIn w (· < w.heap.size) u S) (hf : ∀ x ∈ S, fits x) (hv : BytesIn w (· < w.heap.size) v bs) (hg : ET w) (ht : PT w) :
    Calls Tryz.prog 3 #[.agg #[.int .i64 g, .int .i64 d, u], v] w fun e w' => e = .returned (.bool true) ∧ Below w.heap.size w w' := by
  have HV0 : Hid (Env w w) := ⟨Below.refl _ _, hg, ht⟩
  have HH := hideIt (fun (w' : World) (h : Env w w') => head05_true w' h.et h.pt)
  have HU := hideIt hu
  have HX := hideIt hv
  have HF := hideIt (And.intro f1 (And.intro f2 hf))
  obtain ⟨a, cap, rfl⟩ := hu.form
  obtain ⟨a2, cap2, rfl, _⟩ := hv.form
  clear hg ht hv f1 f2 hf hu
  go_enter Tryz.func3, Tryz.ntmps3
  go_wp2_with fail
  obtain ⟨W, hW, hwb, hws, c0, c1, c2, _, _, _⟩ := room_new w 24 (.int .i64 g) (.int .i64 d) (.slice a S.length cap)
  rw [← hW]
  have HVW := hideIt (HV0.out.next hwb)
  have HE : Hid (Env W W) := ⟨Below.refl _ _, HVW.out.et, HVW.out.pt⟩
  have HWB := hideIt hwb
  have HUW : Hid (NumsIn W (· < W.heap.size) (.slice a S.length cap) S) := RowIn.mono (A' := (· < W.heap.size)) (RowIn.kept HU.out (Kept.of_all hwb)) (fun _ _ h => h)
  have HXW : Hid (BytesIn W (· < W.heap.size) (.slice a2 bs.length cap2) bs) := RowIn.mono (A' := (· < W.heap.size)) (RowIn.kept HX.out (Kept.of_all hwb)) (fun _ _ h => h)
  clear hW hwb HV0 HU HX
  refine (HH.out W HVW.out).mono ?_
  rintro e w1 ⟨rfl, hb1⟩
  have HV1 := hideIt (HE.out.next hb1)
  have e0 := (hb1.cell (lt_of_cell c0)).trans c0
  have e1 := (hb1.cell (lt_of_cell c1)).trans c1
  have e2 := (hb1.cell (lt_of_cell c2)).trans c2
  clear hb1 HH HVW hws HE
  by_cases h3000 : (3000 : Int) < (S.length : Int)
  · go_wp2
    go_ret
    exact ⟨rfl, HWB.out.trans (HV1.out.1.mono HWB.out.size)⟩
  by_cases h50000 : (50000 : Int) < (bs.length : Int)
  · go_wp2
    go_ret
    exact ⟨rfl, HWB.out.trans (HV1.out.1.mono HWB.out.size)⟩
  have hcs : g < 0 ∨ (¬ g < 0 ∧ ¬ g < 2147483648) ∨ (¬ g < 0 ∧ g < 2147483648 ∧ d < 0) ∨ (¬ g < 0 ∧ g < 2147483648 ∧ ¬ d < 0 ∧ ¬ d < 2147483648) ∨ (¬ g < 0 ∧ g < 2147483648 ∧ ¬ d < 0 ∧ d < 2147483648) := by omega
  rcases hcs with k1 | ⟨k1, k2⟩ | ⟨k1, k2, k3⟩ | ⟨k1, k2, k3, k4⟩ | ⟨k1, k2, k3, k4⟩
  all_goals
    go_wp2
    go_loopw [6, 7] (fun mv i wr => ∃ (k : Nat) (r : Bool), k ≤ S.length ∧ mv = .bool r ∧ i = .int .i64 k ∧ Hid (r = true ↔ certOk g d (S.take k)) ∧ Hid (Env W wr)) (fun _ i _ => S.length - (intOf i).toNat)
    case atStart =>
      refine ⟨0, _, Nat.zero_le _, rfl, rfl, ?_, HV1.out⟩
      refine hideIt ?_
      simp only [certOk, List.take_zero, List.not_mem_nil]
      simp
      try omega
    case round =>
      clear HV1 e0 e1 e2
      obtain ⟨k, r, hk, rfl, rfl, HR, HV⟩ := hrel
      have t0 := (HV.out.1.cell (lt_of_cell c0)).trans c0
      have t1 := (HV.out.1.cell (lt_of_cell c1)).trans c1
      have t2 := (HV.out.1.cell (lt_of_cell c2)).trans c2
      by_cases hlt : k < S.length
      · obtain ⟨x, hx⟩ : ∃ x, S[k]? = some x := ⟨S[k], by simp [hlt]⟩
        have HRr : Hid (NumsIn wr (· < W.heap.size) (.slice a S.length cap) S) := RowIn.kept HUW.out (Kept.of_below HV.out.1 (fun _ h _ => h))
        obtain ⟨b, off, rfl, _, cx⟩ := NumsIn.at HRr.out hx
        clear HRr
        have HT : Hid (certOk g d (S.take (k + 1)) ↔ certOk g d (S.take k) ∧ (0 ≤ x ∧ x < 2147483648)) := hideIt (by
          rw [List.take_succ_eq_append_getElem hlt, (List.getElem?_eq_some_iff.1 hx).2]
          unfold certOk
          simp only [List.mem_append, List.mem_singleton, or_imp, forall_and, forall_eq]
          constructor
          · rintro ⟨h1, h2, ⟨h3, h4⟩, h5, h6⟩; exact ⟨⟨h1, h2, h3, h5⟩, h4, h6⟩
          · rintro ⟨⟨h1, h2, h3, h5⟩, h4, h6⟩; exact ⟨h1, h2, ⟨h3, h4⟩, h5, h6⟩)
        clear hx
        cases r with
        | false =>
          go_wp2
          exact ⟨⟨k + 1, false, by omega, rfl, by go_num, hideIt ⟨(fun h => nomatch h), fun h => HR.out.2 (HT.out.1 h).1⟩, HV.out⟩, by simp [intOf]; omega⟩
        | true =>
          have hcx : x < 0 ∨ (¬ x < 0 ∧ ¬ x < 2147483648) ∨ (¬ x < 0 ∧ x < 2147483648) := by omega
          rcases hcx with x1 | ⟨x1, x2⟩ | ⟨x1, x2⟩
          · have HNN : Hid (¬ certOk g d (S.take (k + 1))) := hideIt (fun h => by have := (HT.out.1 h).2; omega)
            go_wp2
            exact ⟨⟨k + 1, false, by omega, rfl, by go_num, hideIt ⟨(fun h => nomatch h), fun h => absurd h HNN.out⟩, HV.out⟩, by simp [intOf]; omega⟩
          · have HNN : Hid (¬ certOk g d (S.take (k + 1))) := hideIt (fun h => by have := (HT.out.1 h).2; omega)
            go_wp2
            exact ⟨⟨k + 1, false, by omega, rfl, by go_num, hideIt ⟨(fun h => nomatch h), fun h => absurd h HNN.out⟩, HV.out⟩, by simp [intOf]; omega⟩
          · have HNN : Hid (certOk g d (S.take (k + 1))) := hideIt (HT.out.2 ⟨HR.out.1 rfl, by omega⟩)
            go_wp2
            exact ⟨⟨k + 1, true, by omega, rfl, by go_num, hideIt ⟨fun _ => HNN.out, fun _ => rfl⟩, HV.out⟩, by simp [intOf]; omega⟩
      · (try clear k4)
        (try clear k3)
        (try clear k2)
        clear k1
        have ek : k = S.length := by omega
        have HR2 : Hid (r = true ↔ certOk g d S) := hideIt (by have := HR.out; rw [ek, List.take_length] at this; exact this)
        clear HR ek
        go_wp2_with fail
        refine (cPut_any wr _ g d _ S (RowIn.kept HUW.out (Kept.of_below HV.out.1 (fun _ h _ => h))) (by omega)).mono ?_
        rintro e w4 ⟨x4, er4, rfl, hb4, hcs4⟩
        have HV4 := hideIt (HV.out.next hb4)
        have s0 := (hb4.cell (lt_of_cell t0)).trans t0
        have s1 := (hb4.cell (lt_of_cell t1)).trans t1
        have s2 := (hb4.cell (lt_of_cell t2)).trans t2
        clear hb4 HV t0 t1 t2
        rcases hcs4 with ⟨h1024, rfl, hx4⟩ | ⟨_, t4, y4, rfl⟩
        · have HX4 := hideIt hx4
          obtain ⟨ax, capx, rfl, _⟩ := hx4.form
          have HIFF := hideIt (gOk_iff HF.out.1 HF.out.2.1 HF.out.2.2 h1024)
          have HRD := hideIt (fun h => certB_reads HF.out.1 HF.out.2.1 HF.out.2.2 h1024 h)
          have HCL : Hid ((certB g d S).length ≤ 1000000000) := hideIt (by rw [certB_length]; omega)
          generalize (certB g d S) = cb at HX4 HIFF HRD HCL ⊢
          clear hx4 h1024
          go_wp2_with fail
          refine (cGet_any w4 _ _ cb HX4.out HCL.out).mono ?_
          rintro e w5 ⟨x5, er5, rfl, hb5, hcs5⟩
          have HV5 := hideIt (HV4.out.next hb5)
          have q0 := (hb5.cell (lt_of_cell s0)).trans s0
          have q1 := (hb5.cell (lt_of_cell s1)).trans s1
          have q2 := (hb5.cell (lt_of_cell s2)).trans s2
          clear hb5 HV4 s0 s1 s2 HX4
          rcases hcs5 with ⟨hok5, rfl, a5, cap5, rfl, hn5⟩ | ⟨hno5, rfl, t5, y5, rfl⟩
          · have hr : r = true := HR2.out.2 (HIFF.out.1 hok5)
            obtain ⟨p1, p2, p3⟩ := HRD.out (HIFF.out.1 hok5)
            have p1' : (gR1 cb).1 = g := by rw [p1]
            have p2' : (gR2 cb).1 = d := by rw [p2]
            have p3' : (gR3 cb).1 = S := by rw [p3]
            rw [p1', p2', p3']
            rw [p3'] at hn5
            subst hr
            have HN5 := hideIt hn5
            clear hn5 hok5 p1 p2 p3 p1' p2' p3' HIFF HRD HR2
            obtain ⟨W6, hW6, hwb6, hws6, z0, z1, z2, _, _, _⟩ := room_new w5 24 (.int .i64 g) (.int .i64 d) (.slice a5 S.length cap5)
            have m0 := (hwb6.cell (lt_of_cell q0)).trans q0
            have m1 := (hwb6.cell (lt_of_cell q1)).trans q1
            have m2 := (hwb6.cell (lt_of_cell q2)).trans q2
            have HV6 := hideIt (HV5.out.next hwb6)
            have HN6 : Hid (NumsIn W6 _ (.slice a5 S.length cap5) S) := RowIn.kept HN5.out (Kept.of_all hwb6)
            subst hW6
            clear hwb6 hws6 z0 z1 z2 HV5 HN5
            go_wp2_with fail
            refine (dcSame_true _ _ g d _ _ S _ HN6.out (RowIn.kept HUW.out (Kept.of_below HV6.out.1 (fun _ h _ => h))) (by omega)).mono ?_
            rintro e wT ⟨rfl, hbT⟩
            have HVT := hideIt (HV6.out.next hbT)
            clear hbT HV6 HN6 m0 m1 m2 q0 q1 q2
            go_wp2_with fail
            refine (cGet_any wT _ _ bs (RowIn.kept HXW.out (Kept.of_below HVT.out.1 (fun _ h _ => h))) (by omega)).mono ?_
            rintro e w8 ⟨x8, er8, rfl, hb8, hcs8⟩
            have HV8 := hideIt (HVT.out.next hb8)
            have hlen8 := gR3_len bs
            have hback := @gOk_back bs
            generalize (gR1 bs).1 = g8 at hcs8 hback
            generalize (gR2 bs).1 = d8 at hcs8 hback
            generalize (gR3 bs).1 = l8 at hcs8 hlen8 hback
            clear hb8 HVT
            rcases hcs8 with ⟨hok8, rfl, a8, cap8, rfl, hn8⟩ | ⟨hno8, rfl, t8, y8, rfl⟩
            · have HN8 := hideIt hn8
              have HBK := hideIt (hback hok8)
              have HL8 := hideIt hlen8
              clear hn8 hok8 hback
              go_wp2_with fail
              obtain ⟨W9, hW9, hwb9, hws9, z0, z1, z2, _, _, _⟩ := room_new w8 24 (.int .i64 g8) (.int .i64 d8) (.slice a8 l8.length cap8)
              rw [← hW9]
              have HV9 := hideIt (HV8.out.next hwb9)
              have HN9 : Hid (NumsIn W9 _ (.slice a8 l8.length cap8) l8) := RowIn.kept HN8.out (Kept.of_all hwb9)
              clear hW9 hwb9 hws9 z0 z1 z2 HV8 HN8
              refine (cPut_any W9 _ g8 d8 _ l8 HN9.out (by have := HL8.out; omega)).mono ?_
              rintro e w10 ⟨x10, er10, rfl, hb10, hcs10⟩
              rcases hcs10 with ⟨_, rfl, hx10⟩ | ⟨hbad, _⟩
              · rw [HBK.out] at hx10
                have HX10 := hideIt hx10
                have HV10 := hideIt (HV9.out.next hb10)
                have HXB : Hid (BytesIn w10 (· < W.heap.size) (.slice a2 bs.length cap2) bs) := RowIn.kept HXW.out (Kept.of_below HV10.out.1 (fun _ h _ => h))
                have hs1 := hx10.str
                obtain ⟨ax, capx, rfl, _⟩ := hx10.form
                have hs2 := HXB.out.str
                clear hx10 hb10 HV9 HN9
                go_wp2
                go_ret
                exact ⟨rfl, HWB.out.trans (HV10.out.1.mono HWB.out.size)⟩
              · exact absurd hbad (by have := HL8.out; omega)
            · clear hno8 hback hlen8
              go_wp2_with fail
              obtain ⟨W9, hW9, hwb9, hws9, z0, z1, z2, _, _, _⟩ := room_new w8 24 (.int .i64 0) (.int .i64 0) (.slice none 0 0)
              rw [← hW9]
              have HV9 := hideIt (HV8.out.next hwb9)
              clear hW9 hwb9 hws9 z0 z1 z2 HV8
              refine (dcSame_true (fun _ => True) (fun _ => True) 0 0 _ _ [] W9 (NumsIn.nil _ _) (NumsIn.nil _ _) (by simp)).mono ?_
              rintro e w10 ⟨rfl, hb10⟩
              have HV10 := hideIt (HV9.out.next hb10)
              clear hb10 HV9
              go_wp2
              go_ret
              exact ⟨rfl, HWB.out.trans (HV10.out.1.mono HWB.out.size)⟩
          · have hr : r = false := by
              cases r with
              | false => rfl
              | true => exact absurd (HIFF.out.2 (HR2.out.1 rfl)) hno5
            subst hr
            clear hno5 HIFF HRD HR2
            have hal : Below w5.heap.size w5 (w5.alloc (.cells #[.int .i64 0, .int .i64 0, .slice none 0 0] 24)) := (Below.refl _ _).alloc (Nat.le_refl _) _
            have HVT := hideIt (HV5.out.next hal)
            clear hal HV5 q0 q1 q2
            go_wp2_with fail
            generalize (w5.alloc (.cells #[.int .i64 0, .int .i64 0, .slice none 0 0] 24)) = wT at HVT ⊢
            refine (cGet_any wT _ _ bs (RowIn.kept HXW.out (Kept.of_below HVT.out.1 (fun _ h _ => h))) (by omega)).mono ?_
            rintro e w8 ⟨x8, er8, rfl, hb8, hcs8⟩
            have HV8 := hideIt (HVT.out.next hb8)
            have hlen8 := gR3_len bs
            have hback := @gOk_back bs
            generalize (gR1 bs).1 = g8 at hcs8 hback
            generalize (gR2 bs).1 = d8 at hcs8 hback
            generalize (gR3 bs).1 = l8 at hcs8 hlen8 hback
            clear hb8 HVT
            rcases hcs8 with ⟨hok8, rfl, a8, cap8, rfl, hn8⟩ | ⟨hno8, rfl, t8, y8, rfl⟩
            · have HN8 := hideIt hn8
              have HBK := hideIt (hback hok8)
              have HL8 := hideIt hlen8
              clear hn8 hok8 hback
              go_wp2_with fail
              obtain ⟨W9, hW9, hwb9, hws9, z0, z1, z2, _, _, _⟩ := room_new w8 24 (.int .i64 g8) (.int .i64 d8) (.slice a8 l8.length cap8)
              rw [← hW9]
              have HV9 := hideIt (HV8.out.next hwb9)
              have HN9 : Hid (NumsIn W9 _ (.slice a8 l8.length cap8) l8) := RowIn.kept HN8.out (Kept.of_all hwb9)
              clear hW9 hwb9 hws9 z0 z1 z2 HV8 HN8
              refine (cPut_any W9 _ g8 d8 _ l8 HN9.out (by have := HL8.out; omega)).mono ?_
              rintro e w10 ⟨x10, er10, rfl, hb10, hcs10⟩
              rcases hcs10 with ⟨_, rfl, hx10⟩ | ⟨hbad, _⟩
              · rw [HBK.out] at hx10
                have HX10 := hideIt hx10
                have HV10 := hideIt (HV9.out.next hb10)
                have HXB : Hid (BytesIn w10 (· < W.heap.size) (.slice a2 bs.length cap2) bs) := RowIn.kept HXW.out (Kept.of_below HV10.out.1 (fun _ h _ => h))
                have hs1 := hx10.str
                obtain ⟨ax, capx, rfl, _⟩ := hx10.form
                have hs2 := HXB.out.str
                clear hx10 hb10 HV9 HN9
                go_wp2
                go_ret
                exact ⟨rfl, HWB.out.trans (HV10.out.1.mono HWB.out.size)⟩
              · exact absurd hbad (by have := HL8.out; omega)
            · clear hno8 hback hlen8
              go_wp2_with fail
              obtain ⟨W9, hW9, hwb9, hws9, z0, z1, z2, _, _, _⟩ := room_new w8 24 (.int .i64 0) (.int .i64 0) (.slice none 0 0)
              rw [← hW9]
              have HV9 := hideIt (HV8.out.next hwb9)
              clear hW9 hwb9 hws9 z0 z1 z2 HV8
              refine (dcSame_true (fun _ => True) (fun _ => True) 0 0 _ _ [] W9 (NumsIn.nil _ _) (NumsIn.nil _ _) (by simp)).mono ?_
              rintro e w10 ⟨rfl, hb10⟩
              have HV10 := hideIt (HV9.out.next hb10)
              clear hb10 HV9
              go_wp2
              go_ret
              exact ⟨rfl, HWB.out.trans (HV10.out.1.mono HWB.out.size)⟩
        · clear HR2 s0 s1 s2
          obtain ⟨wT, hwT⟩ : ∃ wT, wT = w4 := ⟨_, rfl⟩
          have HVT : Hid (Env W wT) := by rw [hwT]; exact HV4
          rw [← hwT]
          clear hwT HV4
          go_wp2_with fail
          refine (cGet_any wT _ _ bs (RowIn.kept HXW.out (Kept.of_below HVT.out.1 (fun _ h _ => h))) (by omega)).mono ?_
          rintro e w8 ⟨x8, er8, rfl, hb8, hcs8⟩
          have HV8 := hideIt (HVT.out.next hb8)
          have hlen8 := gR3_len bs
          have hback := @gOk_back bs
          generalize (gR1 bs).1 = g8 at hcs8 hback
          generalize (gR2 bs).1 = d8 at hcs8 hback
          generalize (gR3 bs).1 = l8 at hcs8 hlen8 hback
          clear hb8 HVT
          rcases hcs8 with ⟨hok8, rfl, a8, cap8, rfl, hn8⟩ | ⟨hno8, rfl, t8, y8, rfl⟩
          · have HN8 := hideIt hn8
            have HBK := hideIt (hback hok8)
            have HL8 := hideIt hlen8
            clear hn8 hok8 hback
            go_wp2_with fail
            obtain ⟨W9, hW9, hwb9, hws9, z0, z1, z2, _, _, _⟩ := room_new w8 24 (.int .i64 g8) (.int .i64 d8) (.slice a8 l8.length cap8)
            rw [← hW9]
            have HV9 := hideIt (HV8.out.next hwb9)
            have HN9 : Hid (NumsIn W9 _ (.slice a8 l8.length cap8) l8) := RowIn.kept HN8.out (Kept.of_all hwb9)
            clear hW9 hwb9 hws9 z0 z1 z2 HV8 HN8
            refine (cPut_any W9 _ g8 d8 _ l8 HN9.out (by have := HL8.out; omega)).mono ?_
            rintro e w10 ⟨x10, er10, rfl, hb10, hcs10⟩
            rcases hcs10 with ⟨_, rfl, hx10⟩ | ⟨hbad, _⟩
            · rw [HBK.out] at hx10
              have HX10 := hideIt hx10
              have HV10 := hideIt (HV9.out.next hb10)
              have HXB : Hid (BytesIn w10 (· < W.heap.size) (.slice a2 bs.length cap2) bs) := RowIn.kept HXW.out (Kept.of_below HV10.out.1 (fun _ h _ => h))
              have hs1 := hx10.str
              obtain ⟨ax, capx, rfl, _⟩ := hx10.form
              have hs2 := HXB.out.str
              clear hx10 hb10 HV9 HN9
              go_wp2
              go_ret
              exact ⟨rfl, HWB.out.trans (HV10.out.1.mono HWB.out.size)⟩
            · exact absurd hbad (by have := HL8.out; omega)
          · clear hno8 hback hlen8
            go_wp2_with fail
            obtain ⟨W9, hW9, hwb9, hws9, z0, z1, z2, _, _, _⟩ := room_new w8 24 (.int .i64 0) (.int .i64 0) (.slice none 0 0)
            rw [← hW9]
            have HV9 := hideIt (HV8.out.next hwb9)
            clear hW9 hwb9 hws9 z0 z1 z2 HV8
            refine (dcSame_true (fun _ => True) (fun _ => True) 0 0 _ _ [] W9 (NumsIn.nil _ _) (NumsIn.nil _ _) (by simp)).mono ?_
            rintro e w10 ⟨rfl, hb10⟩
            have HV10 := hideIt (HV9.out.next hb10)
            clear hb10 HV9
            go_wp2
            go_ret
            exact ⟨rfl, HWB.out.trans (HV10.out.1.mono HWB.out.size)⟩
end Go.Proofs.YtpgahjnjkihmhaaGreatDoor
