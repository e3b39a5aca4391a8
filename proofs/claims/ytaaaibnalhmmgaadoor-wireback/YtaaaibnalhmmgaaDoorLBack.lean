/-
  What is proved here: the statement's function cohortlaw02.WireBack returns true, over this program. Conditions: the Ops lie in memory as slices of them do; the library's variables lie as they are laid.
-/
import Derived.Test.YtaaaibnalhmmgaaDoorWV
namespace Go.Proofs.YtaaaibnalhmmgaaDoor
open Go.RowKit Go.Extern.Stop Go.Stop Go.Extern

set_option maxRecDepth 100000 in
set_option maxHeartbeats 8000000 in
theorem law_back (sl : Value) (l : List OpD) (w : World) (hs : OpsIn w (· < w.heap.size) sl l) (hlen : l.length ≤ maxLen) (hok : ∀ x ∈ l, OpOk x) (hg : ET w) (ht : PT w) :
    Calls Tryd.prog 4 #[sl] w fun e w' => e = .returned (.bool true) ∧ Below w.heap.size w w' := by
  have HH := hideIt (head_true w hg ht)
  have HE := hideIt (And.intro hg ht)
  have HS := hideIt hs
  have HZ := hideIt (And.intro hlen hok)
  obtain ⟨a, cap, rfl, hs0⟩ := hs
  clear hs0
  unfold maxLen at hlen
  clear hg ht hok
  go_enter Tryd.func4, Tryd.ntmps4
  go_wp2_with fail
  refine HH.out.mono ?_
  rintro e w0 ⟨rfl, b0⟩
  have HV0 : Hid (Env w w0) := ⟨b0, HE.out⟩
  have HS0 := hideIt (HS.out.kept (Kept.of_all b0))
  clear b0 HH HE HS
  go_wp2_with fail
  refine (Great_any _ _ l w0 HS0.out HZ.out.1 HZ.out.2).mono ?_
  rintro e w1 ⟨⟨g, rfl, hgr⟩, b1⟩
  have HV1 := hideIt (HV0.out.next b1)
  have HS1 := hideIt (HS0.out.kept (Kept.of_all b1))
  clear b1 HV0 HS0
  cases g
  · have HWT : Hid (opsW l < 400000) := hgr rfl
    clear hgr
    go_wp2
    have hpw : w.heap.size ≤ w1.heap.size := HV1.out.1.size
    have hal : Below w1.heap.size w1 (w1.alloc (.cells #[.pointer none, .int .i64 0, .nilIface] 30)) := (Below.refl _ _).alloc (Nat.le_refl _) _
    have HW2 := hideIt (fresh_writer w1)
    have HV2 := hideIt (HV1.out.next hal)
    have HS2 := hideIt (HS1.out.kept (Kept.of_all hal))
    obtain ⟨p, hp⟩ : ∃ p, p = w1.heap.size := ⟨_, rfl⟩
    have hps : w.heap.size ≤ p := by omega
    have hpl2 : p < (w1.alloc (.cells #[.pointer none, .int .i64 0, .nilIface] 30)).heap.size := by rw [hp]; simp
    rw [← hp] at HW2 ⊢
    generalize w1.alloc (.cells #[.pointer none, .int .i64 0, .nilIface] 30) = w2 at HW2 HV2 HS2 hpl2 ⊢
    clear hal hpw HV1 HS1 hp
    have HRL := hideIt (run_len l HWT.out)
    have HWL := hideIt (fun k => opsW_le_of_take l k)
    go_loopw [5] (fun i wr => ∃ (k : Nat) (st : List UInt8 × Bool), k ≤ l.length ∧ i = .int .i64 k ∧ Hid (st = run (l.take k)) ∧ Hid (WSt wr p (fun k => k ≠ p) st) ∧ Hid (Env w wr) ∧ Hid (OpsIn wr (· < w.heap.size) (.slice a l.length cap) l) ∧ p < wr.heap.size) (fun i _ => l.length - (intOf i).toNat)
    case atStart => exact ⟨0, ([], false), Nat.zero_le _, rfl, rfl, HW2.out, HV2.out, HS2.out, hpl2⟩
    case round =>
      obtain ⟨k, st, hk, rfl, HST, HW, HV, HSr, hpl⟩ := hrel
      have hstl : st.1.length ≤ 400000 := by
        have h1 := HRL.out k; have h2 := HWL.out k; have h3 := HWT.out
        rw [← HST.out] at h1; omega
      by_cases hlt : k < l.length
      · obtain ⟨x, hx⟩ : ∃ x, l[k]? = some x := ⟨l[k], by simp [hlt]⟩
        obtain ⟨a', cap', e1, hst⟩ := HSr.out
        cases e1
        obtain ⟨b, off, vs, vl, vm, rfl, hbb, c0, c1, c2, c3, c4, y2, y3, y4⟩ := hst k x hx
        have HY2 := hideIt y2
        have HY3 := hideIt y3
        have HY4 := hideIt y4
        obtain ⟨a2, cap2, rfl, _⟩ := y2.form
        obtain ⟨a3, cap3, rfl⟩ := y3.form
        obtain ⟨a4, cap4, rfl⟩ := y4.form
        have HOK := hideIt (HZ.out.2 x (List.mem_of_getElem? hx))
        have HRT := hideIt (run_take l k x hx)
        clear hst hx y2 y3 y4
        rcases kinds x.1 with hk0 | hk1 | hk2 | hk3
        · have hand : Go.bits BinOp.and IntKind.i64 x.1 3 = 0 := by rw [and3]; exact hk0
          have HO := hideIt (opO_0 hk0)
          clear hk0
          go_wp2_with fail
          refine (wNum_any p _ st x.2.1 wr HW.out (fun k hk => by omega) (by simp) (by omega)).mono ?_
          rintro e w4 ⟨rfl, h1, h2⟩
          have HW4 : Hid (WSt w4 p (fun k => k ≠ p) (put st (opO x))) := by rw [HO.out]; exact h1
          have HV4 := hideIt (HV.out.grown h2 hps)
          have HS4 := hideIt (HSr.out.kept (Kept.of_grown h2 (fun h => by omega)))
          have hs4 := h2.size
          clear h1 h2 c0 c1 c2 c3 c4
          go_wp2
          exact ⟨⟨k + 1, _, by omega, by go_num, by rw [HRT.out, ← HST.out]; exact rfl, HW4.out, HV4.out, HS4.out, by omega⟩, by simp [intOf]; omega⟩
        · have hand : Go.bits BinOp.and IntKind.i64 x.1 3 = 1 := by rw [and3]; exact hk1
          have HO := hideIt (opO_1 hk1)
          clear hk1
          go_wp2_with fail
          refine (wText_any p _ _ st _ (OpD.s x) wr HW.out HY2.out HOK.out.2.2.1 (fun k hk => by omega) (by simp) (by omega)).mono ?_
          rintro e w4 ⟨rfl, h1, h2⟩
          have HW4 : Hid (WSt w4 p (fun k => k ≠ p) (put st (opO x))) := by rw [HO.out]; exact h1
          have HV4 := hideIt (HV.out.grown h2 hps)
          have HS4 := hideIt (HSr.out.kept (Kept.of_grown h2 (fun h => by omega)))
          have hs4 := h2.size
          clear h1 h2 c0 c1 c2 c3 c4
          go_wp2
          exact ⟨⟨k + 1, _, by omega, by go_num, by rw [HRT.out, ← HST.out]; exact rfl, HW4.out, HV4.out, HS4.out, by omega⟩, by simp [intOf]; omega⟩
        · have hand : Go.bits BinOp.and IntKind.i64 x.1 3 = 2 := by rw [and3]; exact hk2
          have HO := hideIt (opO_2 hk2)
          clear hk2
          go_wp2_with fail
          refine (wList_any p _ _ st _ (OpD.l x) wr HW.out HY3.out HOK.out.2.2.2.1.1 HOK.out.2.2.2.1.2 (fun k hk => by omega) (by simp) (by omega)).mono ?_
          rintro e w4 ⟨rfl, h1, h2⟩
          have HW4 : Hid (WSt w4 p (fun k => k ≠ p) (put st (opO x))) := by rw [HO.out]; exact h1
          have HV4 := hideIt (HV.out.grown h2 hps)
          have HS4 := hideIt (HSr.out.kept (Kept.of_grown h2 (fun h => by omega)))
          have hs4 := h2.size
          clear h1 h2 c0 c1 c2 c3 c4
          go_wp2
          exact ⟨⟨k + 1, _, by omega, by go_num, by rw [HRT.out, ← HST.out]; exact rfl, HW4.out, HV4.out, HS4.out, by omega⟩, by simp [intOf]; omega⟩
        · have hand : Go.bits BinOp.and IntKind.i64 x.1 3 = 3 := by rw [and3]; exact hk3
          have HO := hideIt (opO_3 hk3)
          clear hk3
          go_wp2_with fail
          refine (wNums_any p _ _ st _ (OpD.m x) wr HW.out HY4.out HOK.out.2.2.2.2.1 (fun k hk => by omega) (by simp) (by omega)).mono ?_
          rintro e w4 ⟨rfl, h1, h2⟩
          have HW4 : Hid (WSt w4 p (fun k => k ≠ p) (put st (opO x))) := by rw [HO.out]; exact h1
          have HV4 := hideIt (HV.out.grown h2 hps)
          have HS4 := hideIt (HSr.out.kept (Kept.of_grown h2 (fun h => by omega)))
          have hs4 := h2.size
          clear h1 h2 c0 c1 c2 c3 c4
          go_wp2
          exact ⟨⟨k + 1, _, by omega, by go_num, by rw [HRT.out, ← HST.out]; exact rfl, HW4.out, HV4.out, HS4.out, by omega⟩, by simp [intOf]; omega⟩
      · have ek : l.take k = l := List.take_of_length_le (by omega)
        have HRUN : Hid (st = run l) := by rw [← ek]; exact HST.out
        clear ek HST
        obtain ⟨bs, bad⟩ := st
        cases bad
        · have HGOOD : Hid (bs = l.flatMap opB ∧ ∀ (j : Nat) (x : OpD), l[j]? = some x → ∃ c, opO x = some c ∧ opB x = c) := by
            have h1 := run_good l l.length (by rw [List.take_length, ← HRUN.out])
            rw [List.take_length, ← HRUN.out] at h1
            exact ⟨h1.1, fun j x hx => h1.2 j x (List.getElem?_eq_some_iff.1 hx).1 hx⟩
          have HW5 : Hid (WOk wr p (fun k => k ≠ p) bs) := HW.out
          simp only at hstl
          go_wp2_with fail
          refine (wBytes_ok p _ bs wr HW5.out (by omega)).mono ?_
          rintro e w5 ⟨v5, rfl, ho5, hb5⟩
          have HV5 := hideIt (HV.out.next hb5)
          have HS5 := hideIt (HSr.out.kept (Kept.of_all hb5))
          have HY5 : Hid (BytesIn w5 (fun _ => True) v5 bs) := RowIn.of_own ho5 (fun _ _ => trivial)
          obtain ⟨a5, cap5, rfl⟩ := own_form ho5
          clear ho5 hb5 HW HW5 HV HSr
          go_wp2_with fail
          refine (new_any _ _ bs w5 HY5.out (by omega)).mono ?_
          rintro e w6 ⟨p2, rfl, hp1, hp2, hr, hb⟩
          have hps2 : w.heap.size ≤ p2 := by have := HV5.out.1.size; omega
          have HV6 := hideIt (HV5.out.next hb)
          have HS6 := hideIt (HS5.out.kept (Kept.of_all hb))
          have HR6 := hideIt hr
          have hpl6 : p2 < w6.heap.size := by omega
          clear hr hb HV5 HS5 HY5
          go_wp2
          go_loopw [9] (fun i wr => ∃ (k : Nat), k ≤ l.length ∧ i = .int .i64 k ∧ Hid (ROk wr p2 (fun k => k ≠ p2) bs ((l.take k).flatMap opB).length) ∧ Hid (Env w wr) ∧ Hid (OpsIn wr (· < w.heap.size) (.slice a l.length cap) l) ∧ p2 < wr.heap.size) (fun i _ => l.length - (intOf i).toNat)
          case atStart => exact ⟨0, Nat.zero_le _, rfl, HR6.out, HV6.out, HS6.out, hpl6⟩
          case round =>
            obtain ⟨k, hk, rfl, HR, HV, HSr, hpl⟩ := hrel
            by_cases hlt : k < l.length
            · obtain ⟨x, hx⟩ : ∃ x, l[k]? = some x := ⟨l[k], by simp [hlt]⟩
              obtain ⟨a', cap', e1, hst⟩ := HSr.out
              cases e1
              obtain ⟨b, off, vs, vl, vm, rfl, hbb, c0, c1, c2, c3, c4, y2, y3, y4⟩ := hst k x hx
              have HY2 := hideIt y2
              have HY3 := hideIt y3
              have HY4 := hideIt y4
              obtain ⟨a2, cap2, rfl, _⟩ := y2.form
              obtain ⟨a3, cap3, rfl⟩ := y3.form
              obtain ⟨a4, cap4, rfl⟩ := y4.form
              have HOK := hideIt (HZ.out.2 x (List.mem_of_getElem? hx))
              have HPOS := hideIt (flat_pos l k x hx)
              have HDR : Hid (bs.drop ((l.take k).flatMap opB).length = opB x ++ (l.drop (k + 1)).flatMap opB) := by
                rw [HGOOD.out.1]; exact flat_split l k x hx
              obtain ⟨c, hc, hBc⟩ := HGOOD.out.2 k x hx
              have HC := hideIt (And.intro hc hBc)
              generalize ((l.take k).flatMap opB).length = pos at HR HPOS HDR
              clear hst hx y2 y3 y4 hc hBc
              rcases kinds x.1 with hk0 | hk1 | hk2 | hk3
              · have hand : Go.bits BinOp.and IntKind.i64 x.1 3 = 0 := by rw [and3]; exact hk0
                have HSR : Hid (stepR (0 : Int) sNum rdNum bs (.ok pos) = (x.2.1, .ok (pos + (opB x).length))) := by
                  refine step_read HDR.out (fun r => ?_)
                  have e : opB x = numB x.2.1 := by have h := HC.out.1; rw [opO_0 hk0] at h; cases h; exact HC.out.2
                  rw [e, rdNum_numB _ HOK.out.2.1, numB_length]
                clear hk0
                go_wp2_with fail
                refine (rNum_any p2 (fun k => k ≠ p2) bs (.ok pos) wr HR.out (by simp) (fun k hk => by omega) (by omega)).mono ?_
                rintro e w7 ⟨v7, rfl, hv7, hr7, hg7⟩
                rw [HSR.out] at hv7 hr7
                have hv7' : v7 = .int .i64 x.2.1 := hv7
                subst hv7'
                have HR7 : Hid (ROk w7 p2 (fun k => k ≠ p2) bs (pos + (opB x).length)) := hr7
                have HV7 := hideIt (HV.out.grown hg7 hps2)
                have HS7 := hideIt (HSr.out.kept (Kept.of_grown hg7 (fun h => by omega)))
                have d1 : w7.cell? ⟨b, off + k * 5 + 1, none⟩ = some (.int .i64 x.2.1) := hg7.cell c1 (by simp; omega)
                have hs7 := hg7.size
                clear hv7 hr7 hg7 c0 c1 c2 c3 c4
                go_wp2
                exact ⟨⟨k + 1, by omega, by go_num, by rw [HPOS.out]; exact HR7, HV7.out, HS7.out, by omega⟩, by simp [intOf]; omega⟩
              · have hand : Go.bits BinOp.and IntKind.i64 x.1 3 = 1 := by rw [and3]; exact hk1
                have HSR : Hid (stepR [] sText rdText bs (.ok pos) = (OpD.s x, .ok (pos + (opB x).length))) := by
                  have h := HC.out.1; rw [opO_1 hk1] at h; obtain ⟨g1, rfl⟩ := textO_some h
                  have e := HC.out.2
                  refine step_read HDR.out (fun r => ?_)
                  rw [e, rdText_textB _ g1, textB_length]
                clear hk1
                go_wp2_with fail
                refine (rText_any p2 (fun k => k ≠ p2) bs (.ok pos) wr HR.out (by simp) (fun k hk => by omega) (by omega)).mono ?_
                rintro e w7 ⟨v7, rfl, hv7, hr7, hg7⟩
                rw [HSR.out] at hv7 hr7
                have hv7' : BytesIn w7 (fun k => k ≠ p2) v7 (OpD.s x) := hv7
                have hy7 : BytesIn w7 (· < w.heap.size) (.slice a2 (OpD.s x).length cap2) (OpD.s x) := RowIn.kept HY2.out (Kept.of_grown hg7 (fun h => by omega))
                have hst1 := fun m => BytesIn.str (RowIn.kept hv7' (Kept.of_all (below_drewN w7 m)))
                have hst2 := fun m => BytesIn.str (RowIn.kept hy7 (Kept.of_all (below_drewN w7 m)))
                obtain ⟨a7, cap7, rfl, _⟩ := hv7'.form
                have HR7 : Hid (ROk w7 p2 (fun k => k ≠ p2) bs (pos + (opB x).length)) := hr7
                have HV7 := hideIt (HV.out.grown hg7 hps2)
                have HS7 := hideIt (HSr.out.kept (Kept.of_grown hg7 (fun h => by omega)))
                have d2 : w7.cell? ⟨b, off + k * 5 + 2, none⟩ = some (.slice a2 (OpD.s x).length cap2) := hg7.cell c2 (by simp; omega)
                have hs7 := hg7.size
                clear hv7 hv7' hy7 hr7 hg7 c0 c1 c2 c3 c4
                go_wp2
                go_quiet (fail)
                have HR8 := hideIt (HR7.out.next (below_drewN w7 nq))
                have HV8 := hideIt (HV7.out.next (below_drewN w7 nq))
                have HS8 := hideIt (HS7.out.kept (Kept.of_all (below_drewN w7 nq)))
                have hs8 : w7.heap.size ≤ (w7.drewN nq).heap.size := (below_drewN w7 nq).size
                generalize w7.drewN nq = w8 at HR8 HV8 HS8 hs8 ⊢
                go_wp2
                exact ⟨⟨k + 1, by omega, by go_num, by rw [HPOS.out]; exact HR8, HV8.out, HS8.out, by omega⟩, by simp [intOf]; omega⟩
              · have hand : Go.bits BinOp.and IntKind.i64 x.1 3 = 2 := by rw [and3]; exact hk2
                have HSR : Hid (stepR [] sList (rdRow rdText) bs (.ok pos) = (OpD.l x, .ok (pos + (opB x).length)) ∧ (OpD.l x).length ≤ 1024) := by
                  have h := HC.out.1; rw [opO_2 hk2] at h; obtain ⟨g1, g2, rfl⟩ := listO_some h
                  have e := HC.out.2
                  refine ⟨step_read HDR.out (fun r => ?_), g1⟩
                  rw [e, rdRow_rowB _ g1 (fun y hy r => by rw [rdText_textB _ (g2 y hy), textB_length])]
                clear hk2
                go_wp2_with fail
                refine (rList_any p2 (fun k => k ≠ p2) bs (.ok pos) wr HR.out (by simp) (fun k hk => by omega) (by omega)).mono ?_
                rintro e w7 ⟨v7, rfl, hv7, hr7, hg7⟩
                rw [HSR.out.1] at hv7 hr7
                have HX7 : Hid (TextsIn w7 (fun k => k ≠ p2) v7 (OpD.l x)) := hv7
                have HY7 := hideIt (HY3.out.kept (Kept.of_grown hg7 (fun h => by omega)))
                obtain ⟨a7, cap7, rfl⟩ := HX7.out.form
                have HR7 : Hid (ROk w7 p2 (fun k => k ≠ p2) bs (pos + (opB x).length)) := hr7
                have HV7 := hideIt (HV.out.grown hg7 hps2)
                have HS7 := hideIt (HSr.out.kept (Kept.of_grown hg7 (fun h => by omega)))
                have d3 : w7.cell? ⟨b, off + k * 5 + 3, none⟩ = some (.slice a3 (OpD.l x).length cap3) := hg7.cell c3 (by simp; omega)
                have hs7 := hg7.size
                clear hv7 hr7 hg7 c0 c1 c2 c3 c4
                go_wp2_with fail
                refine (Same02_true _ _ _ _ (OpD.l x) w7 HX7.out HY7.out (by have := HSR.out.2; omega)).mono ?_
                rintro e w8 ⟨rfl, hb8⟩
                have HR8 := hideIt (HR7.out.next hb8)
                have HV8 := hideIt (HV7.out.next hb8)
                have HS8 := hideIt (HS7.out.kept (Kept.of_all hb8))
                have hs8 := hb8.size
                clear hb8
                go_wp2
                exact ⟨⟨k + 1, by omega, by go_num, by rw [HPOS.out]; exact HR8, HV8.out, HS8.out, by omega⟩, by simp [intOf]; omega⟩
              · have hand : Go.bits BinOp.and IntKind.i64 x.1 3 = 3 := by rw [and3]; exact hk3
                have HSR : Hid (stepR [] sNums (rdRow rdNum) bs (.ok pos) = (OpD.m x, .ok (pos + (opB x).length)) ∧ (OpD.m x).length ≤ 1024) := by
                  have h := HC.out.1; rw [opO_3 hk3] at h; obtain ⟨g1, rfl⟩ := numsO_some h
                  have e := HC.out.2
                  refine ⟨step_read HDR.out (fun r => ?_), g1⟩
                  rw [e, rdRow_rowB _ g1 (fun y hy r => by rw [rdNum_numB _ (HOK.out.2.2.2.2.2 y hy), numB_length])]
                clear hk3
                go_wp2_with fail
                refine (rNums_any p2 (fun k => k ≠ p2) bs (.ok pos) wr HR.out (by simp) (fun k hk => by omega) (by omega)).mono ?_
                rintro e w7 ⟨v7, rfl, hv7, hr7, hg7⟩
                rw [HSR.out.1] at hv7 hr7
                have HX7 : Hid (NumsIn w7 (fun k => k ≠ p2) v7 (OpD.m x)) := hv7
                have HY7 := hideIt (RowIn.kept HY4.out (Kept.of_grown hg7 (fun h => by omega)))
                obtain ⟨a7, cap7, rfl⟩ := HX7.out.form
                have HR7 : Hid (ROk w7 p2 (fun k => k ≠ p2) bs (pos + (opB x).length)) := hr7
                have HV7 := hideIt (HV.out.grown hg7 hps2)
                have HS7 := hideIt (HSr.out.kept (Kept.of_grown hg7 (fun h => by omega)))
                have d4 : w7.cell? ⟨b, off + k * 5 + 4, none⟩ = some (.slice a4 (OpD.m x).length cap4) := hg7.cell c4 (by simp; omega)
                have hs7 := hg7.size
                clear hv7 hr7 hg7 c0 c1 c2 c3 c4
                go_wp2_with fail
                refine (SameNums02_true _ _ _ _ (OpD.m x) w7 HX7.out HY7.out (by have := HSR.out.2; omega)).mono ?_
                rintro e w8 ⟨rfl, hb8⟩
                have HR8 := hideIt (HR7.out.next hb8)
                have HV8 := hideIt (HV7.out.next hb8)
                have HS8 := hideIt (HS7.out.kept (Kept.of_all hb8))
                have hs8 := hb8.size
                clear hb8
                go_wp2
                exact ⟨⟨k + 1, by omega, by go_num, by rw [HPOS.out]; exact HR8, HV8.out, HS8.out, by omega⟩, by simp [intOf]; omega⟩
            · have ek : l.take k = l := List.take_of_length_le (by omega)
              have HR7 : Hid (RSt wr p2 (fun k => k ≠ p2) bs (.ok bs.length)) := by
                have h := HR.out
                rw [ek, ← HGOOD.out.1] at h
                exact h
              clear ek HR
              go_wp2_with fail
              refine (rEnd_any p2 (fun k => k ≠ p2) bs (.ok bs.length) wr HR7.out (fun k hk => by omega) (by omega)).mono ?_
              rintro e w8 ⟨v8, rfl, he8, hb8⟩
              have hv8 : v8 = .nilIface := by
                have e : endOf bs (.ok bs.length) = none := if_neg (Nat.lt_irrefl _)
                rw [e] at he8; exact he8
              subst hv8
              have HV8 := hideIt (HV.out.next hb8)
              clear he8 hb8
              go_wp2
              go_ret
              exact ⟨rfl, HV8.out.1⟩
        · have HW5 : Hid (WBad wr p (fun k => k ≠ p) bs) := HW.out
          go_wp2_with fail
          refine (wBytes_bad p _ bs wr HW5.out).mono ?_
          rintro e w5 ⟨v5, rfl, ho5, hb5⟩
          have HV5 := hideIt (HV.out.next hb5)
          have HA5 := hideIt (HV5.out.at ho5)
          obtain ⟨ty, y5, rfl⟩ := ho5.iface
          clear ho5 hb5
          go_wp2_with fail
          refine HA5.out.code.mono ?_
          rintro e w6 ⟨rfl, H6, HB6⟩
          have HV6 := hideIt (HV5.out.next HB6.out)
          go_wp2
          go_ret
          exact ⟨rfl, HV6.out.1⟩
  · go_wp2
    go_ret
    exact ⟨rfl, HV1.out.1⟩
end Go.Proofs.YtaaaibnalhmmgaaDoor
