/-
  What is proved here: the walk of cohortlaw10.TxnApart, over this program.
-/
import Derived.Test.YtohlepbfjgehgaaGreatDoorTQ
namespace Go.Proofs.YtohlepbfjgehgaaGreatDoor
open Go.RowKit Go.Extern.Stop Go.Stop Go.Extern

set_option maxRecDepth 100000 in
set_option maxHeartbeats 32000000 in
theorem tapart_true (c n c' n' : Int) (rv wv rv' wv' v : Value) (rs rs' : List Rd) (ws ws' : List Wr) (l : List Ent) (w : World) (hr : RdsIn w (· < w.heap.size) rv rs) (hw : WrsIn w (· < w.heap.size) wv ws) (hrl : rs.length ≤ 140737488355328) (hwl : ws.length ≤ 140737488355328)
    (hr' : RdsIn w (· < w.heap.size) rv' rs') (hw' : WrsIn w (· < w.heap.size) wv' ws') (hrl' : rs'.length ≤ 140737488355328) (hwl' : ws'.length ≤ 140737488355328)
    (hv : EntsIn w (· < w.heap.size) v l) (hn : l.length ≤ maxLen) (hg : ET w) (ht : PT w) :
    Calls Tryz.prog 6 #[.agg #[.int .i64 c, .int .i64 n, rv, wv], .agg #[.int .i64 c', .int .i64 n', rv', wv'], v] w fun e w' => e = .returned (.bool true) ∧ Below w.heap.size w w' := by
  obtain ⟨ar, cr, rfl⟩ := hr.form
  obtain ⟨aw, cw, rfl⟩ := hw.form
  obtain ⟨ar', cr', rfl⟩ := hr'.form
  obtain ⟨aw', cw', rfl⟩ := hw'.form
  obtain ⟨a, cap, rfl⟩ := hv.form
  have HLN : Hid (rs.length ≤ 140737488355328 ∧ ws.length ≤ 140737488355328 ∧ rs'.length ≤ 140737488355328 ∧ ws'.length ≤ 140737488355328) := hideIt ⟨hrl, hwl, hrl', hwl'⟩
  obtain ⟨W, hW⟩ : ∃ W, W = (w.alloc (.cells #[.int .i64 c, .int .i64 n, .slice ar rs.length cr, .slice aw ws.length cw] 25)).alloc (.cells #[.int .i64 c', .int .i64 n', .slice ar' rs'.length cr', .slice aw' ws'.length cw'] 25) := ⟨_, rfl⟩
  have hT1 := T4.new w 25 (.int .i64 c) (.int .i64 n) (.slice ar rs.length cr) (.slice aw ws.length cw)
  have hT2 := T4.new (w.alloc (.cells #[.int .i64 c, .int .i64 n, .slice ar rs.length cr, .slice aw ws.length cw] 25)) 25 (.int .i64 c') (.int .i64 n') (.slice ar' rs'.length cr') (.slice aw' ws'.length cw')
  replace hT1 := hT1.next ((Below.refl _ _).alloc (Nat.le_refl _) (.cells #[.int .i64 c', .int .i64 n', .slice ar' rs'.length cr', .slice aw' ws'.length cw'] 25))
  rw [World.size_alloc, ← hW] at hT2
  rw [← hW] at hT1
  have hwb : Below w.heap.size w W := by
    rw [hW]
    exact ((Below.refl _ _).alloc (Nat.le_refl _) _).alloc (by rw [World.size_alloc]; omega) _
  have HTT := hideIt hT1
  have HTU := hideIt hT2
  have HEW : Hid (Env W W) := by
    have h0 : Env w w := ⟨Below.refl _ _, hg, ht⟩
    have h1 := h0.next hwb
    exact ⟨Below.refl _ _, h1.et, h1.pt⟩
  have HEND : Hid (∀ w', Env W w' → Below w.heap.size w w') := hideIt (fun w' h => hwb.trans (h.1.mono hwb.size))
  have HRV := hideIt (RowIn.lt (RowIn.low hr hwb))
  have HWV := hideIt (RowIn.lt (RowIn.low hw hwb))
  have HRU := hideIt (RowIn.lt (RowIn.low hr' hwb))
  have HWU := hideIt (RowIn.lt (RowIn.low hw' hwb))
  have HA := hideIt (And.intro (RowIn.lt (RowIn.low hv hwb)) hn)
  have HH := hideIt (head10_true W HEW.out.et HEW.out.pt)
  clear hr hw hr' hw' hv hn hrl hwl hrl' hwl' hg ht hwb hT1 hT2
  go_enter Tryz.func6, Tryz.ntmps6
  go_wp2_with fail
  rw [← hW]
  clear hW
  refine HH.out.mono ?_
  rintro e w1 ⟨rfl, hb1⟩
  have HE1 := hideIt (HEW.out.next hb1)
  clear hb1 HH
  go_wp2_with fail
  refine (stof_any w1 _ _ l (RowIn.low HA.out.1 HE1.out.1) HA.out.2).mono ?_
  rintro e w2 (⟨hf, p, rfl, hns⟩ | ⟨hnf, rfl, hb2⟩)
  case inr =>
    have HE2 := hideIt (HE1.out.next hb2)
    have HNF := hideIt hnf
    clear hb2 hnf HE1
    go_wp2_with fail
    refine (stof_any w2 _ _ l (RowIn.low HA.out.1 HE2.out.1) HA.out.2).mono ?_
    rintro e w3 (⟨hf, _⟩ | ⟨_, rfl, hb3⟩)
    · exact absurd hf HNF.out
    have HE3 := hideIt (HE2.out.next hb3)
    clear hb3 HE2
    go_wp2
    go_ret
    exact ⟨rfl, HEND.out _ HE3.out⟩
  have HF := hideIt hf
  have HNA := hideIt hns
  have HE2 := hideIt (HE1.out.next hns.2)
  clear hns hf
  go_wp2_with fail
  refine (stof_any w2 _ _ l (RowIn.low HA.out.1 HE2.out.1) HA.out.2).mono ?_
  rintro e w3 (⟨_, q, rfl, hns⟩ | ⟨hnf, _⟩)
  case inr => exact absurd HF.out hnf
  obtain ⟨Oa, hOa⟩ : ∃ O : Nat → Prop, O = fun k => w1.heap.size ≤ k ∧ k < w2.heap.size := ⟨_, rfl⟩
  obtain ⟨Ob, hOb⟩ : ∃ O : Nat → Prop, O = fun k => w2.heap.size ≤ k ∧ k < w3.heap.size := ⟨_, rfl⟩
  have HS3 : Hid (Two W w3 p Oa l q Ob l) := hideIt ⟨HE2.out.next hns.2, by rw [hOa]; exact HNA.out.1.next hns.2, by rw [hOb]; exact hns.1, fun k hk => by
    rw [hOa] at hk
    exact Nat.le_trans HE1.out.1.size hk.1, fun k hk => by
    rw [hOb] at hk
    exact Nat.le_trans HE2.out.1.size hk.1, fun k ha hb => by
    rw [hOa] at ha
    rw [hOb] at hb
    omega⟩
  clear hns hOa hOb HNA HE1 HE2 HEW
  have x0 := (HTT.out.next HS3.out.env.1).1.1
  have x1 := (HTT.out.next HS3.out.env.1).1.2.1
  have x2 := (HTT.out.next HS3.out.env.1).1.2.2.1
  have x3 := (HTT.out.next HS3.out.env.1).1.2.2.2
  go_wp2_with fail
  refine (Great10_any w3 _ c n _ _ rs ws (RowIn.low HRV.out HS3.out.env.1) (RowIn.low HWV.out HS3.out.env.1) HLN.out.1 HLN.out.2.1).mono ?_
  rintro e w4 ⟨⟨g, rfl, hgl⟩, hb4⟩
  have HS4 := hideIt (HS3.out.next hb4)
  clear hb4 HS3 x0 x1 x2 x3
  cases g with
  | true =>
    go_wp2
    go_ret
    exact ⟨rfl, HEND.out _ HS4.out.env⟩
  | false =>
  have HN : Hid (rs.length ≤ 3000 ∧ ws.length ≤ 3000) := hideIt (by have := hgl rfl; omega)
  clear hgl
  have y0 := (HTU.out.next HS4.out.env.1).1.1
  have y1 := (HTU.out.next HS4.out.env.1).1.2.1
  have y2 := (HTU.out.next HS4.out.env.1).1.2.2.1
  have y3 := (HTU.out.next HS4.out.env.1).1.2.2.2
  go_wp2_with fail
  refine (Great10_any w4 _ c' n' _ _ rs' ws' (RowIn.low HRU.out HS4.out.env.1) (RowIn.low HWU.out HS4.out.env.1) HLN.out.2.2.1 HLN.out.2.2.2).mono ?_
  rintro e w5 ⟨⟨g, rfl, hgl⟩, hb5⟩
  have HS5 := hideIt (HS4.out.next hb5)
  clear hb5 HS4 HLN y0 y1 y2 y3
  cases g with
  | true =>
    go_wp2
    go_ret
    exact ⟨rfl, HEND.out _ HS5.out.env⟩
  | false =>
  have HN' : Hid (rs'.length ≤ 3000 ∧ ws'.length ≤ 3000) := hideIt (by have := hgl rfl; omega)
  clear hgl
  by_cases h90 : (90 : Int) < (l.length : Int)
  · go_wp2
    go_ret
    exact ⟨rfl, HEND.out _ HS5.out.env⟩
  have HL : Hid (l.length ≤ 90) := hideIt (by omega)
  have x0 := (HTT.out.next HS5.out.env.1).1.1
  have x1 := (HTT.out.next HS5.out.env.1).1.2.1
  have x2 := (HTT.out.next HS5.out.env.1).1.2.2.1
  have x3 := (HTT.out.next HS5.out.env.1).1.2.2.2
  go_wp2_with fail
  refine (txCheck_any w5 _ c n _ _ rs ws (RowIn.low HRV.out HS5.out.env.1) (RowIn.low HWV.out HS5.out.env.1) (by have := HN.out; omega) (by have := HN.out; omega)).mono ?_
  rintro e w6 ⟨er, rfl, hck, hb6⟩
  have HS6 := hideIt (HS5.out.next hb6)
  clear hb6 HS5 x0 x1 x2 x3
  rcases hck with ⟨hrb, rfl⟩ | ⟨_, ho⟩
  case inr =>
    obtain ⟨ty, y, rfl⟩ := ho.iface
    clear ho
    go_wp2
    go_ret
    exact ⟨rfl, HEND.out _ HS6.out.env⟩
  have HOK := hideIt (rightB_ok hrb).2
  clear hrb
  have y0 := (HTU.out.next HS6.out.env.1).1.1
  have y1 := (HTU.out.next HS6.out.env.1).1.2.1
  have y2 := (HTU.out.next HS6.out.env.1).1.2.2.1
  have y3 := (HTU.out.next HS6.out.env.1).1.2.2.2
  go_wp2_with fail
  refine (txCheck_any w6 _ c' n' _ _ rs' ws' (RowIn.low HRU.out HS6.out.env.1) (RowIn.low HWU.out HS6.out.env.1) (by have := HN'.out; omega) (by have := HN'.out; omega)).mono ?_
  rintro e w7 ⟨er, rfl, hck, hb7⟩
  have HS7 := hideIt (HS6.out.next hb7)
  clear hb7 HS6 y0 y1 y2 y3
  rcases hck with ⟨hrb, rfl⟩ | ⟨_, ho⟩
  case inr =>
    obtain ⟨ty, y, rfl⟩ := ho.iface
    clear ho
    go_wp2
    go_ret
    exact ⟨rfl, HEND.out _ HS7.out.env⟩
  have HOK' := hideIt (rightB_ok hrb).2
  clear hrb
  have x0 := (HTT.out.next HS7.out.env.1).1.1
  have x1 := (HTT.out.next HS7.out.env.1).1.2.1
  have x2 := (HTT.out.next HS7.out.env.1).1.2.2.1
  have x3 := (HTT.out.next HS7.out.env.1).1.2.2.2
  go_wp2_with fail
  refine (txKeys_any w7 _ c n _ _ rs ws (RowIn.low HRV.out HS7.out.env.1) (RowIn.low HWV.out HS7.out.env.1) (by have := HN.out; omega) (by have := HN.out; omega)).mono ?_
  rintro e w8 ⟨z8, rfl, ho8, hb8⟩
  have HX8 : Hid (SIn w8 (Off w8 Oa Ob) z8 (txK rs ws)) := hideIt (Off.own HS7.out ho8)
  obtain ⟨a8, c8, rfl⟩ := own_form ho8
  have HS8 := hideIt (HS7.out.next hb8)
  clear ho8 hb8 HS7 h90 x0 x1 x2 x3
  have y0 := (HTU.out.next HS8.out.env.1).1.1
  have y1 := (HTU.out.next HS8.out.env.1).1.2.1
  have y2 := (HTU.out.next HS8.out.env.1).1.2.2.1
  have y3 := (HTU.out.next HS8.out.env.1).1.2.2.2
  go_wp2_with fail
  refine (txKeys_any w8 _ c' n' _ _ rs' ws' (RowIn.low HRU.out HS8.out.env.1) (RowIn.low HWU.out HS8.out.env.1) (by have := HN'.out; omega) (by have := HN'.out; omega)).mono ?_
  rintro e w9 ⟨z9, rfl, ho9, hb9⟩
  have HY9 : Hid (SIn w9 (Off w9 Oa Ob) z9 (txK rs' ws')) := hideIt (Off.own HS8.out ho9)
  obtain ⟨a9, c9, rfl⟩ := own_form ho9
  have HS9 := hideIt (HS8.out.next hb9)
  have HX9 := hideIt (Off.next HX8.out hb9)
  have HTL : Hid ((txK rs ws).length ≤ 100000 ∧ (txK rs' ws').length ≤ 100000) := hideIt (by have h1 := txK_len rs ws; have h2 := txK_len rs' ws'; have := HN.out; have := HN'.out; omega)
  clear ho9 hb9 HS8 HX8 y0 y1 y2 y3
  go_wp2
  go_loop [12] (fun i => ∃ k : Nat, k ≤ (txK rs ws).length ∧ i = .int .i64 k ∧ Hid (∀ s ∈ (txK rs ws).take k, isIn (txK rs' ws') s = false)) (fun i => (txK rs ws).length - (intOf i).toNat)
  case atStart => exact ⟨0, Nat.zero_le _, rfl, hideIt (fun e he => by simp at he)⟩
  case round =>
    obtain ⟨k, hk, rfl, HNO⟩ := hrel
    have htl := HTL.out.1
    by_cases hlt : k < (txK rs ws).length
    · obtain ⟨s, hs⟩ : ∃ s, (txK rs ws)[k]? = some s := ⟨(txK rs ws)[k], by simp [hlt]⟩
      obtain ⟨b, off, rfl, _, d0⟩ := SIn.at HX9.out hs
      have HSK := hideIt hs
      clear hs
      go_wp2_with fail
      refine (txHas_any w9 _ _ _ s HY9.out (by have := HTL.out; omega)).mono ?_
      intro e w10 hh
      obtain ⟨rfl, h10⟩ := hh
      obtain rfl := h10.symm
      obtain ⟨is, his⟩ : ∃ is, is = isIn (txK rs' ws') s := ⟨_, rfl⟩
      have HIS := hideIt his
      rw [← his]
      clear his
      cases is with
      | true =>
        go_wp2
        go_ret
        exact ⟨rfl, HEND.out _ HS9.out.env⟩
      | false =>
        have HNO2 : Hid (∀ z ∈ (txK rs ws).take (k + 1), isIn (txK rs' ws') z = false) := hideIt (fun z hz => by
          rw [List.take_succ_eq_append_getElem hlt, (List.getElem?_eq_some_iff.1 HSK.out).2] at hz
          rcases List.mem_append.1 hz with h | h
          · exact HNO.out z h
          · simp at h; subst h; exact HIS.out.symm)
        go_wp2
        exact ⟨⟨k + 1, by omega, by go_num, HNO2⟩, by simp [intOf]; omega⟩
    · have HAP := hideIt (keys_apart (rs := rs) (ws := ws) (rs2 := rs') (ws2 := ws') (by
        have := HNO.out
        rw [show k = (txK rs ws).length by omega, List.take_length] at this
        exact this))
      clear HNO
      have y0 := (HTU.out.next HS9.out.env.1).1.1
      have y1 := (HTU.out.next HS9.out.env.1).1.2.1
      have y2 := (HTU.out.next HS9.out.env.1).1.2.2.1
      have y3 := (HTU.out.next HS9.out.env.1).1.2.2.2
      go_wp2_with fail
      clear hlt hk htl
      refine (txFits_any w9 _ _ p Oa l c' n' _ _ _ rs' ws' _ HS9.out.a HF.out (RowIn.low HRU.out HS9.out.env.1) (RowIn.low HWU.out HS9.out.env.1) HY9.out (by have := HN'.out; omega) (by have := HN'.out; omega) HTL.out.2).mono ?_
      rintro e w10 ⟨rfl, hb10⟩
      obtain ⟨ft, hft⟩ : ∃ ft, ft = fitsB l rs' ws' (txK rs' ws') := ⟨_, rfl⟩
      have HFT := hideIt hft
      rw [← hft]
      have HS10 := hideIt (HS9.out.next hb10)
      have HX10 := hideIt (Off.next HX9.out hb10)
      have HY10 := hideIt (Off.next HY9.out hb10)
      clear hb10 hft HS9 HX9 HY9 y0 y1 y2 y3
      have x0 := (HTT.out.next HS10.out.env.1).1.1
      have x1 := (HTT.out.next HS10.out.env.1).1.2.1
      have x2 := (HTT.out.next HS10.out.env.1).1.2.2.1
      have x3 := (HTT.out.next HS10.out.env.1).1.2.2.2
      have x0 := (HTT.out.next HS10.out.env.1).1.1
      have x1 := (HTT.out.next HS10.out.env.1).1.2.1
      have x2 := (HTT.out.next HS10.out.env.1).1.2.2.1
      have x3 := (HTT.out.next HS10.out.env.1).1.2.2.2
      go_wp2_with fail
      refine (txApply_any w10 _ _ p Oa l c n _ _ _ rs ws _ HS10.out.a HF.out (RowIn.low HRV.out HS10.out.env.1) (RowIn.low HWV.out HS10.out.env.1) HX10.out (by have := HN.out; omega) HTL.out.1).mono ?_
      rintro e w11 ⟨e1, la1, O11, rfl, hs, hm, hap⟩
      rw [chosen_allW] at hap
      have HAP11 := hideIt hap
      have HF11 := hideIt (hap.fit HF.out)
      have HS11 := hideIt (HS10.out.moveA hs hm)
      have HX11 := hideIt (Off.moveA HX10.out hm)
      have HY11 := hideIt (Off.moveA HY10.out hm)
      clear hs hm hap HS10 HX10 HY10 x0 x1 x2 x3
      have y0 := (HTU.out.next HS11.out.env.1).1.1
      have y1 := (HTU.out.next HS11.out.env.1).1.2.1
      have y2 := (HTU.out.next HS11.out.env.1).1.2.2.1
      have y3 := (HTU.out.next HS11.out.env.1).1.2.2.2
      go_wp2_with fail
      refine (txFits_any w11 _ _ p O11 la1 c' n' _ _ _ rs' ws' _ HS11.out.a HF11.out (RowIn.low HRU.out HS11.out.env.1) (RowIn.low HWU.out HS11.out.env.1) HY11.out (by have := HN'.out; omega) (by have := HN'.out; omega) HTL.out.2).mono ?_
      rintro e w12 ⟨rfl, hb12⟩
      obtain ⟨ft2, hft2⟩ : ∃ ft, ft = fitsB la1 rs' ws' (txK rs' ws') := ⟨_, rfl⟩
      have HFT2 := hideIt hft2
      rw [← hft2]
      have HS12 := hideIt (HS11.out.next hb12)
      have HX12 := hideIt (Off.next HX11.out hb12)
      have HY12 := hideIt (Off.next HY11.out hb12)
      clear hb12 hft2 HS11 HX11 HY11 y0 y1 y2 y3
      have y0 := (HTU.out.next HS12.out.env.1).1.1
      have y1 := (HTU.out.next HS12.out.env.1).1.2.1
      have y2 := (HTU.out.next HS12.out.env.1).1.2.2.1
      have y3 := (HTU.out.next HS12.out.env.1).1.2.2.2
      go_wp2_with fail
      refine (txApply_any w12 _ _ p O11 la1 c' n' _ _ _ rs' ws' _ HS12.out.a HF11.out (RowIn.low HRU.out HS12.out.env.1) (RowIn.low HWU.out HS12.out.env.1) HY12.out (by have := HN'.out; omega) HTL.out.2).mono ?_
      rintro e w13 ⟨e2, la2, O13, rfl, hs, hm, hap⟩
      rw [chosen_allW] at hap
      have HAP13 := hideIt hap
      have HF13 := hideIt (hap.fit HF11.out)
      have HS13 := hideIt (HS12.out.moveA hs hm)
      have HX13 := hideIt (Off.moveA HX12.out hm)
      have HY13 := hideIt (Off.moveA HY12.out hm)
      clear hs hm hap HS12 HX12 HY12 y0 y1 y2 y3
      have y0 := (HTU.out.next HS13.out.env.1).1.1
      have y1 := (HTU.out.next HS13.out.env.1).1.2.1
      have y2 := (HTU.out.next HS13.out.env.1).1.2.2.1
      have y3 := (HTU.out.next HS13.out.env.1).1.2.2.2
      go_wp2_with fail
      refine (txApply_any w13 _ _ q Ob l c' n' _ _ _ rs' ws' _ HS13.out.b HF.out (RowIn.low HRU.out HS13.out.env.1) (RowIn.low HWU.out HS13.out.env.1) HY13.out (by have := HN'.out; omega) HTL.out.2).mono ?_
      rintro e w14 ⟨e3, lb1, O14, rfl, hs, hm, hap⟩
      rw [chosen_allW] at hap
      have HAP14 := hideIt hap
      have HF14 := hideIt (hap.fit HF.out)
      have HS14 := hideIt (HS13.out.moveB hs hm)
      have HX14 := hideIt (Off.moveB HX13.out hm)
      have HY14 := hideIt (Off.moveB HY13.out hm)
      clear hs hm hap HS13 HX13 HY13 y0 y1 y2 y3
      have x0 := (HTT.out.next HS14.out.env.1).1.1
      have x1 := (HTT.out.next HS14.out.env.1).1.2.1
      have x2 := (HTT.out.next HS14.out.env.1).1.2.2.1
      have x3 := (HTT.out.next HS14.out.env.1).1.2.2.2
      go_wp2_with fail
      refine (txApply_any w14 _ _ q O14 lb1 c n _ _ _ rs ws _ HS14.out.b HF14.out (RowIn.low HRV.out HS14.out.env.1) (RowIn.low HWV.out HS14.out.env.1) HX14.out (by have := HN.out; omega) HTL.out.1).mono ?_
      rintro e w15 ⟨e4, lb2, O15, rfl, hs, hm, hap⟩
      rw [chosen_allW] at hap
      have HAP15 := hideIt hap
      have HF15 := hideIt (hap.fit HF14.out)
      have HS15 := hideIt (HS14.out.moveB hs hm)
      have HX15 := hideIt (Off.moveB HX14.out hm)
      have HY15 := hideIt (Off.moveB HY14.out hm)
      clear hs hm hap HS14 HX14 HY14 x0 x1 x2 x3
      rcases HAP11.out.nil with ⟨rfl, hw1⟩ | ⟨ty, y, rfl⟩
      case inr =>
        go_wp2
        go_ret
        exact ⟨rfl, HEND.out _ HS15.out.env⟩
      have HW1 := hideIt hw1
      clear hw1
      rcases HAP13.out.nil with ⟨rfl, hw2⟩ | ⟨ty, y, rfl⟩
      case inr =>
        go_wp2
        go_ret
        exact ⟨rfl, HEND.out _ HS15.out.env⟩
      have HW2 := hideIt hw2
      clear hw2
      rcases HAP14.out.nil with ⟨rfl, hw3⟩ | ⟨ty, y, rfl⟩
      case inr =>
        go_wp2
        go_ret
        exact ⟨rfl, HEND.out _ HS15.out.env⟩
      have HW3 := hideIt hw3
      clear hw3
      rcases HAP15.out.nil with ⟨rfl, hw4⟩ | ⟨ty, y, rfl⟩
      case inr =>
        go_wp2
        go_ret
        exact ⟨rfl, HEND.out _ HS15.out.env⟩
      have HW4 := hideIt hw4
      clear hw4
      have HEQ : Hid (la2 = lb2) := hideIt (two_same HF.out HOK.out.2.unlike HOK'.out.2.unlike HAP.out.2 HW1.out HW2.out HW3.out HW4.out)
      have hst : ft2 = ft := by rw [HFT2.out, HFT.out]; exact fits_still HF.out HOK.out.2.unlike HL.out HOK.out.2.1 HOK'.out.2.1 HAP.out.1 HW1.out
      subst hst
      have hee : (ft2 == ft2) = true := by simp
      have hl13 := HF13.out.1
      have hl15 := HF15.out.1
      go_wp2_with fail
      refine (strange_any w15 p O13 la2 [] [] HS15.out.a HF13.out.rising (by have := HF13.out.1; omega)).mono ?_
      rintro e w16 ⟨v16, rfl, hrow, hb16⟩
      rw [all_in] at hrow
      have HR16 : Hid (EntsIn w16 _ v16 la2) := hideIt (own_in hrow)
      obtain ⟨a16, c16, rfl⟩ := own_form hrow
      have HS16 := hideIt (HS15.out.next hb16)
      clear hrow hb16 HS15
      go_wp2_with fail
      refine (strange_any w16 q O15 lb2 [] [] HS16.out.b HF15.out.rising (by have := HF15.out.1; omega)).mono ?_
      rintro e w17 ⟨v17, rfl, hrow, hb17⟩
      rw [all_in] at hrow
      have HR17 : Hid (EntsIn w17 _ v17 lb2) := hideIt (own_in hrow)
      have HR16' := hideIt (RowIn.kept HR16.out (Kept.of_all hb17))
      obtain ⟨a17, c17, rfl⟩ := own_form hrow
      have HS17 := hideIt (HS16.out.next hb17)
      clear hrow hb17 HS16 HR16
      go_wp2_with fail
      refine (Same06_any _ _ _ _ la2 lb2 w17 HR16'.out HR17.out (by unfold maxLen; omega)).mono ?_
      rintro e w18 ⟨rfl, hb18⟩
      rw [decide_eq_true HEQ.out]
      have HS18 := hideIt (HS17.out.next hb18)
      clear hb18 HS17
      go_wp2
      go_ret
      exact ⟨rfl, HEND.out _ HS18.out.env⟩
end Go.Proofs.YtohlepbfjgehgaaGreatDoor
