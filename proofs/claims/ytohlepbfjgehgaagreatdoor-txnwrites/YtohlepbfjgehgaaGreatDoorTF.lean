/-
  What is proved here: does a transaction fit a store; over this program.
-/
import Derived.Test.YtohlepbfjgehgaaGreatDoorTE
namespace Go.Proofs.YtohlepbfjgehgaaGreatDoor
open Go.RowKit Go.Extern.Stop Go.Stop Go.Extern

theorem RowIn.low {w w' : World} {B n : Nat} {v : Value} {cs : List Value} (h : RowIn w (· < B) v n cs) (hb : Below B w w') : RowIn w' (· < B) v n cs := RowIn.kept h (Kept.of_below hb (fun _ h _ => h))
theorem RowIn.lt {w : World} {A : Nat → Prop} {n : Nat} {v : Value} {cs : List Value} (h : RowIn w A v n cs) : RowIn w (· < w.heap.size) v n cs := RowIn.mono (A' := (· < w.heap.size)) h (fun _ _ h => h)

set_option maxRecDepth 100000 in
set_option maxHeartbeats 16000000 in
theorem txFits_any (w : World) (A A2 : Nat → Prop) (p : Nat) (O : Nat → Prop) (l : List Ent) (c n : Int) (rv wv kv : Value) (rs : List Rd) (ws : List Wr) (T : List (List UInt8)) (hs : Sto w p O l) (hf : Fit l)
    (hr : RdsIn w A rv rs) (hw : WrsIn w A wv ws) (hk : SIn w A2 kv T) (hrl : rs.length ≤ 10000) (hwl : ws.length ≤ 10000) (hT : T.length ≤ 100000) :
    Calls Tryz.prog 16 #[.agg #[.int .i64 c, .int .i64 n, rv, wv], .pointer (some ⟨p, 0, none⟩), kv] w fun e w' => e = .returned (.bool (fitsB l rs ws T)) ∧ Below w.heap.size w w' := by
  have HRV := hideIt (RowIn.lt hr)
  have HWV := hideIt (RowIn.lt hw)
  have HKV := hideIt (RowIn.lt hk)
  have HF := hideIt hf
  obtain ⟨ar, cr, rfl⟩ := hr.form
  obtain ⟨aw, cw, rfl⟩ := hw.form
  obtain ⟨ak, ck, rfl⟩ := hk.form
  obtain ⟨W, hW, hwb, hws, c0, c1, c2, c3⟩ := room4t w 25 (.int .i64 c) (.int .i64 n) (.slice ar rs.length cr) (.slice aw ws.length cw)
  have HS := hideIt (hs.next hwb)
  have HWB := hideIt hwb
  have HLN : Hid (rs.length ≤ 10000 ∧ ws.length ≤ 10000 ∧ T.length ≤ 100000) := hideIt ⟨hrl, hwl, hT⟩
  clear hs hf hr hw hk hwb c0 c1 hrl hwl hT
  go_enter Tryz.func16, Tryz.ntmps16
  go_wp2_with fail
  rw [← hW]
  clear hW
  refine (txchR_any W _ _ _ _ rs T (RowIn.low HRV.out HWB.out) (RowIn.low HKV.out HWB.out) (by have := HLN.out; omega) (by have := HLN.out; omega)).mono ?_
  rintro e w1 ⟨z1, rfl, ho1, hb1⟩
  obtain ⟨a1, cc1, rfl⟩ := own_form ho1
  have HZ1 : Hid (RdsIn w1 (· < w1.heap.size) (.slice a1 (rdChosen rs T).length cc1) (rdChosen rs T)) := hideIt (RowIn.lt (RowIn.of_own ho1 (A := fun _ => True) (fun _ _ => trivial)))
  have HS1 := hideIt (HS.out.next hb1)
  have HB1 := hideIt (HWB.out.trans (hb1.mono HWB.out.size))
  have d3 := (hb1.cell (lt_of_cell c3)).trans c3
  have hcl : (rdChosen rs T).length ≤ 10000 := Nat.le_trans (List.length_filter_le _ _) (by have := HLN.out; omega)
  obtain ⟨CR, hCR⟩ : ∃ CR, CR = rdChosen rs T := ⟨_, rfl⟩
  rw [← hCR] at HZ1 hcl ⊢
  have HCR := hideIt hCR
  clear ho1 hb1 c2 c3 hCR HS
  go_wp2
  go_loopw [21] (fun i wr => ∃ k : Nat, k ≤ CR.length ∧ i = .int .i64 k ∧ Hid (readsB l (CR.take k) = true) ∧ Hid (Below w1.heap.size w1 wr)) (fun i _ => CR.length - (intOf i).toNat)
  case atStart => exact ⟨0, Nat.zero_le _, rfl, rfl, Below.refl _ _⟩
  case round =>
    obtain ⟨k, hk, rfl, HRB, HB⟩ := hrel
    by_cases hlt : k < CR.length
    · obtain ⟨x, hx⟩ : ∃ x, CR[k]? = some x := ⟨CR[k], by simp [hlt]⟩
      have HVr := hideIt (RowIn.low HZ1.out HB.out)
      obtain ⟨b, off, rfl, _, c0, c1⟩ := RdsIn.at HVr.out hx
      have HX := hideIt hx
      obtain ⟨W2, hW2, hwb2, hws2, e0, e1⟩ := room2 wr 54 (.string ⟨x.1.toArray⟩) (.int .i64 x.2)
      have HB2 := hideIt (HB.out.trans (hwb2.mono HB.out.size))
      have HS2 := hideIt (HS1.out.next (HB2.out))
      clear hx HVr hwb2
      go_wp2_with fail
      rw [← hW2]
      clear hW2
      refine (stget_any W2 p O l x.1 HS2.out HF.out.rising (by have := HF.out.1; omega)).mono ?_
      rintro e w3 ⟨xe, is, rfl, hg, hb3⟩
      have hgo := got_of HF.out.rising hg
      unfold entV
      obtain ⟨W3, hW3, hwb3, _, y0, y1, y2⟩ := room3 w3 42 (.string ⟨xe.1.toArray⟩) (.string ⟨xe.2.1.toArray⟩) (.int .i64 xe.2.2)
      have hsz2 : wr.heap.size < w3.heap.size := by have := hb3.size; omega
      have HB3 : Hid (Below w1.heap.size w1 W3) := hideIt ((HB2.out.trans (hb3.mono HB2.out.size)).trans (hwb3.mono (Nat.le_trans HB2.out.size hb3.size)))
      have f0 := (hwb3.cell (Nat.lt_of_lt_of_le (lt_of_cell e0) hb3.size)).trans ((hb3.cell (lt_of_cell e0)).trans e0)
      have f1 := (hwb3.cell (Nat.lt_of_lt_of_le (lt_of_cell e1) hb3.size)).trans ((hb3.cell (lt_of_cell e1)).trans e1)
      have HG : Hid ((got l x.1).1.2.2 = xe.2.2) := hideIt (by rw [hgo])
      clear hg hb3 hwb3 c0 c1 e0 e1 hgo HS2 HB2
      subst hW3
      cases hq : (xe.2.2 == x.2) with
      | false =>
        have HNO : Hid (fitsB l rs ws T = false) := hideIt (by
          unfold fitsB
          rw [← HCR.out, readsB_no HX.out (by rw [HG.out]; exact hq), Bool.false_and])
        have HBE := hideIt (HB1.out.trans (HB3.out.mono HB1.out.size))
        go_wp2
        go_ret
        exact ⟨by rw [HNO.out]; rfl, HBE.out⟩
      | true =>
        have HRB2 := hideIt (readsB_take HX.out (by rw [HG.out]; exact hq) HRB.out)
        go_wp2
        go_roundw
        case rel => exact ⟨k + 1, by omega, by go_num, HRB2.out, HB3.out⟩
        case measure => simp [intOf]; omega
    · have ek : k = CR.length := by omega
      have HRT : Hid (readsB l CR = true) := hideIt (by have := HRB.out; rw [ek, List.take_length] at this; exact this)
      have HSr := hideIt (HS1.out.next HB.out)
      have g3 := (HB.out.cell (lt_of_cell d3)).trans d3
      have HBr := hideIt (HB1.out.trans (HB.out.mono HB1.out.size))
      clear HRB d3 ek
      go_wp2_with fail
      refine (txchW_any wr _ _ _ _ ws T (RowIn.low HWV.out HBr.out) (RowIn.low HKV.out HBr.out) (by have := HLN.out; omega) (by have := HLN.out; omega)).mono ?_
      rintro e w4 ⟨z4, rfl, ho4, hb4⟩
      obtain ⟨a4, cc4, rfl⟩ := own_form ho4
      have HZ4 : Hid (WrsIn w4 (· < w4.heap.size) (.slice a4 (wrChosen ws T).length cc4) (wrChosen ws T)) := hideIt (RowIn.lt (RowIn.of_own ho4 (A := fun _ => True) (fun _ _ => trivial)))
      have HS4 := hideIt (HSr.out.next hb4)
      have HB4 := hideIt (HBr.out.trans (hb4.mono HBr.out.size))
      have hcl4 : (wrChosen ws T).length ≤ 10000 := Nat.le_trans (List.length_filter_le _ _) (by have := HLN.out; omega)
      obtain ⟨CW, hCW⟩ : ∃ CW, CW = wrChosen ws T := ⟨_, rfl⟩
      rw [← hCW] at HZ4 hcl4 ⊢
      have HCW := hideIt hCW
      clear ho4 hb4 g3 hCW HSr
      go_wp2
      go_loopw [11, 43] (fun m i wr => ∃ (k N : Nat), k ≤ CW.length ∧ i = .int .i64 k ∧ N ≤ k ∧ m = .int .i64 N ∧ Hid (N = newN l (CW.take k)) ∧ Hid (Below w4.heap.size w4 wr)) (fun _ i _ => CW.length - (intOf i).toNat)
      case atStart => exact ⟨0, 0, Nat.zero_le _, rfl, Nat.le_refl _, rfl, rfl, Below.refl _ _⟩
      case round =>
        obtain ⟨k, N, hk, rfl, hNk, rfl, HN, HB⟩ := hrel
        by_cases hlt : k < CW.length
        · obtain ⟨x, hx⟩ : ∃ x, CW[k]? = some x := ⟨CW[k], by simp [hlt]⟩
          have HVr := hideIt (RowIn.low HZ4.out HB.out)
          obtain ⟨b, off, rfl, _, c0, c1⟩ := WrsIn.at HVr.out hx
          have HX := hideIt (newN_take (l := l) hx)
          obtain ⟨W2, hW2, hwb2, hws2, e0, e1⟩ := room2 wr 48 (.string ⟨x.1.toArray⟩) (.string ⟨x.2.toArray⟩)
          have HB2 := hideIt (HB.out.trans (hwb2.mono HB.out.size))
          have HS2 := hideIt (HS4.out.next (HB2.out))
          clear hx HVr hwb2
          go_wp2_with fail
          rw [← hW2]
          clear hW2
          refine (stget_any W2 p O l x.1 HS2.out HF.out.rising (by have := HF.out.1; omega)).mono ?_
          rintro e w3 ⟨xe, is, rfl, hg, hb3⟩
          have hgo := got_of HF.out.rising hg
          unfold entV
          obtain ⟨W3, hW3, hwb3, _, y0, y1, y2⟩ := room3 w3 42 (.string ⟨xe.1.toArray⟩) (.string ⟨xe.2.1.toArray⟩) (.int .i64 xe.2.2)
          have HB3 : Hid (Below w4.heap.size w4 W3) := hideIt ((HB2.out.trans (hb3.mono HB2.out.size)).trans (hwb3.mono (Nat.le_trans HB2.out.size hb3.size)))
          have HG : Hid ((got l x.1).2 = is) := hideIt (by rw [hgo])
          clear hg hb3 hwb3 c0 c1 e0 e1 hgo HS2 HB2
          subst hW3
          cases is with
          | false =>
            have HN2 : Hid (N + 1 = newN l (CW.take (k + 1))) := hideIt (by rw [HX.out, HG.out, ← HN.out]; rfl)
            go_wp2
            go_roundw
            case rel => exact ⟨k + 1, N + 1, by omega, by go_num, by omega, by go_num, HN2.out, HB3.out⟩
            case measure => simp [intOf]; omega
          | true =>
            have HN2 : Hid (N = newN l (CW.take (k + 1))) := hideIt (by rw [HX.out, HG.out, ← HN.out]; rfl)
            go_wp2
            go_roundw
            case rel => exact ⟨k + 1, N, by omega, by go_num, by omega, rfl, HN2.out, HB3.out⟩
            case measure => simp [intOf]; omega
        · have ek : k = CW.length := by omega
          have HNE : Hid (N = newN l CW) := hideIt (by have := HN.out; rw [ek, List.take_length] at this; exact this)
          have HSr := hideIt (HS4.out.next HB.out)
          have HBr := hideIt (HB4.out.trans (HB.out.mono HB4.out.size))
          clear HN ek
          go_wp2_with fail
          refine (stroom_any wr p O l N HSr.out HF.out.1).mono ?_
          rintro e w5 ⟨rfl, rfl⟩
          go_wp2
          go_ret
          refine ⟨?_, HBr.out⟩
          unfold fitsB
          rw [← HCR.out, HRT.out, ← HCW.out, ← HNE.out, Bool.true_and]
          rfl
end Go.Proofs.YtohlepbfjgehgaaGreatDoor
