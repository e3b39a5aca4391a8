/-
  What is proved here: the walk of cohortlaw09.RouteCuts, over this program.
-/
import Derived.Test.YtafhmbgnldmedaaDoorPL
namespace Go.Proofs.YtafhmbgnldmedaaDoor
open Go.RowKit Go.Extern.Stop Go.Stop Go.Extern

set_option maxRecDepth 100000 in
set_option maxHeartbeats 16000000 in
theorem rcuts_true (v : Value) (l : List Pc) (m : Mv) (w : World) (hv : PcsIn w (· < w.heap.size) v l) (hn : l.length ≤ maxLen) (hg : ET w) (ht : PT w) :
    Calls Tryd.prog 8 #[v, mvV m] w fun e w' => e = .returned (.bool true) ∧ Below w.heap.size w w' := by
  have HV0 : Hid (Env w w) := ⟨Below.refl _ _, hg, ht⟩
  have HA := hideIt hn
  obtain ⟨a, cap, rfl⟩ := hv.form
  unfold mvV
  obtain ⟨W, hW, hwb, _, y0, y1, y2⟩ := room3 w 37 (.string ⟨m.1.toArray⟩) (.string ⟨m.2.1.toArray⟩) (.int .i64 m.2.2)
  have HVW := hideIt (HV0.out.next hwb)
  have HH := hideIt (head09_true W HVW.out.et HVW.out.pt)
  have HP := hideIt (hv.kept (kept_next (w0 := w) hwb))
  have HM : Hid (R3 W w.heap.size (.string ⟨m.1.toArray⟩) (.string ⟨m.2.1.toArray⟩) (.int .i64 m.2.2)) := hideIt ⟨y0, y1, y2⟩
  clear hg ht hv hn hwb y0 y1 y2 HV0
  go_enter Tryd.func8, Tryd.ntmps8
  go_wp2_with fail
  rw [← hW]
  clear hW
  refine HH.out.mono ?_
  rintro e w1 ⟨rfl, hb1⟩
  have HV1 := hideIt (HVW.out.next hb1)
  have HP1 := hideIt (HP.out.kept (kept_next (w0 := w) hb1))
  have HM1 := hideIt (HM.out.next hb1)
  clear hb1 HH HVW HP HM
  go_wp2_with fail
  refine (rqOf_any w1 _ _ l HP1.out HA.out).mono ?_
  rintro e w2 ⟨n, k, hof, ⟨hn, er, rfl, ho, hb2⟩ | ⟨rfl, p, rfl, hnr⟩⟩
  case inl =>
    have HV2 := hideIt (HV1.out.next hb2)
    obtain ⟨ty, y, rfl⟩ := ho.iface
    clear hb2 ho
    go_wp2
    go_ret
    exact ⟨rfl, HV2.out.1⟩
  have hf : FitP l := by
    rcases of_fit hof with ⟨_, h⟩ | ⟨h, _⟩
    · exact h
    · exact absurd rfl h
  have HS2 := hideIt (Rs.new HV1.out hnr hf)
  have HM2 := hideIt (HM1.out.next hnr.2.2)
  have HNM : Hid (w.heap.size ≠ p) := hideIt (fun e => by have := HM1.out.lt; have := hnr.1; omega)
  clear hof hnr hf HP1 HM1 HV1
  go_wp2_with fail
  refine (rqPieces_any w2 p _ l HS2.out.rt HS2.out.few).mono ?_
  rintro e w3 ⟨z, rfl, hz, hb3⟩
  have HS3 := hideIt (HS2.out.next hb3)
  have HM3 := hideIt (HM2.out.next hb3)
  have HZ3 : Hid (PcsNe w3 p z l) := hideIt (PcsNe.own hz HS2.out.rt.lt)
  obtain ⟨az, cz, rfl⟩ := own_form hz
  have q0 := HM3.out.1
  have q1 := HM3.out.2.1
  have q2 := HM3.out.2.2
  clear hz hb3 HS2 HM2
  go_wp2_with fail
  refine (rqMove_any w3 p _ l m.1 m.2.1 m.2.2 HS3.out.rt HS3.out.fit).mono ?_
  rintro e w4 ⟨n, k4, l', er, rfl, hm, her, hr, hg⟩
  have HS4 := hideIt (HS3.out.move hr hg hm)
  have HM4 := hideIt (HM3.out.grown hg HNM.out)
  have HZ4 := hideIt (HZ3.out.grown hg)
  have HMV := hideIt hm
  have her2 := move_err her
  clear hm her hr hg HM3 HZ3 q0 q1 q2
  rcases her2 with ⟨rfl, rfl⟩ | ⟨hn, ty, y, rfl⟩
  case inr =>
    obtain rfl := move_bad HMV.out hn
    clear hn
    go_wp2_with fail
    refine (rqPieces_any w4 p _ l' HS4.out.rt HS4.out.few).mono ?_
    rintro e w5 ⟨z2, rfl, hz, hb5⟩
    have HS5 := hideIt (HS4.out.next hb5)
    have HZ5 := hideIt (HZ4.out.next hb5)
    have HY5 : Hid (PcsNe w5 p z2 l') := hideIt (PcsNe.own hz HS4.out.rt.lt)
    obtain ⟨az2, cz2, rfl⟩ := own_form hz
    clear hz hb5 HS4 HZ4
    go_wp2_with fail
    refine (Same09_any _ _ _ _ l' l' w5 HY5.out HZ5.out (by have := HS5.out.few; unfold maxLen; omega)).mono ?_
    rintro e w6 ⟨rfl, hb6⟩
    rw [decide_eq_true (rfl : l' = l')]
    have HS6 := hideIt (HS5.out.next hb6)
    clear hb6
    go_wp2
    go_ret
    exact ⟨rfl, HS6.out.env.1⟩
  have HBG := hideIt (move_begins HMV.out)
  go_wp2_with fail
  refine (rqPieces_any w4 p _ l' HS4.out.rt HS4.out.few).mono ?_
  rintro e w5 ⟨z2, rfl, hz, hb5⟩
  have HS5 := hideIt (HS4.out.next hb5)
  have HM5 := hideIt (HM4.out.next hb5)
  have HZ5 := hideIt (HZ4.out.next hb5)
  obtain ⟨az2, cz2, rfl⟩ := own_form hz
  have hle1 : (l.length : Int) ≤ (l'.length : Int) := by have := HBG.out.2.2.2.1; omega
  have hle2 : (l'.length : Int) ≤ (l.length : Int) + 2 := by have := HBG.out.2.2.2.2; omega
  have hl100 : (l.length : Int) ≤ 100000 := by have := HS3.out.few; omega
  have hwl : IntKind.i64.wrap ((l.length : Int) + 2) = (l.length : Int) + 2 := by simp [IntKind.wrap, IntKind.bits, IntKind.signed]; omega
  have q0 := HM5.out.1
  have q1 := HM5.out.2.1
  have q2 := HM5.out.2.2
  clear hz hb5 HS4 HZ4 HM4
  go_wp2_with fail
  refine (rqOwner_any w5 p _ l' m.1 HS5.out.rt HS5.out.fit.lin HS5.out.few).mono ?_
  rintro e w6 ⟨xf, rfl, hx, hb6⟩
  have HXF : Hid (xf.1 = m.1) := hideIt (by obtain ⟨q, hq, e⟩ := HBG.out.1; rw [← e] at hx ⊢; rw [own_at HS5.out.fit.rise hx hq])
  unfold pcV
  obtain ⟨W6, hW, hwb, hr6⟩ := room_pc w6 xf
  have HS6 := hideIt ((HS5.out.next hb6).next hwb)
  have HM6 := hideIt ((HM5.out.next hb6).next hwb)
  have HZ6 := hideIt ((HZ5.out.next hb6).next hwb)
  have HF6 := hideIt hr6
  clear hx hb6 hwb hr6 HS5 HZ5 HM5 q0 q1 q2
  have q0 := HM6.out.1
  have q1 := HM6.out.2.1
  have q2 := HM6.out.2.2
  rw [hW] at q0 q1 q2
  go_wp2_with fail
  rw [← hW]
  clear hW q0 q1 q2
  refine (rqOwner_any W6 p _ l' m.2.1 HS6.out.rt HS6.out.fit.lin HS6.out.few).mono ?_
  rintro e w7 ⟨xt, rfl, hx, hb7⟩
  have HXT : Hid (xt.1 = m.2.1) := hideIt (by obtain ⟨q, hq, e⟩ := HBG.out.2.1; rw [← e] at hx ⊢; rw [own_at HS6.out.fit.rise hx hq])
  unfold pcV
  obtain ⟨W7, hW, hwb, hr7⟩ := room_pc w7 xt
  have HS7 := hideIt ((HS6.out.next hb7).next hwb)
  have HM7 := hideIt ((HM6.out.next hb7).next hwb)
  have HZ7 := hideIt ((HZ6.out.next hb7).next hwb)
  have HF7 := hideIt ((HF6.out.next hb7).next hwb)
  have HT7 := hideIt hr7
  clear hx hb7 hwb hr7 HS6 HZ6 HM6 HF6
  go_wp2
  rw [← hW]
  clear hW
  have HLZ := hideIt (show l.length ≤ 100000 by omega)
  go_loopw [12] (fun i wr => ∃ k : Nat, k ≤ l.length ∧ i = .int .i64 k ∧ Hid (Below W7.heap.size W7 wr)) (fun i _ => l.length - (intOf i).toNat)
  case atStart => exact ⟨0, Nat.zero_le _, rfl, hideIt (Below.refl _ _)⟩
  case round =>
    obtain ⟨k, hk, rfl, HB⟩ := hrel
    have HSr := hideIt (HS7.out.next HB.out)
    by_cases hlt : k < l.length
    · obtain ⟨x, hx⟩ : ∃ x, l[k]? = some x := ⟨l[k], by simp [hlt]⟩
      have HZr := hideIt (HZ7.out.next HB.out)
      obtain ⟨b, off, rfl, _, c0, c1, c2⟩ := PcsIn.at HZr.out hx
      have HX := hideIt (List.mem_of_getElem? hx)
      have HC0 := hideIt c0
      clear hx
      go_wp2_with fail
      refine (rqOwner_any wr p _ l' x.1 HSr.out.rt HSr.out.fit.lin HSr.out.few).mono ?_
      rintro e w8 ⟨y, rfl, hy, hb8⟩
      have hyx : y.1 = x.1 := by obtain ⟨q, hq, e⟩ := HBG.out.2.2.1 x HX.out; rw [← e] at hy ⊢; rw [own_at HSr.out.fit.rise hy hq]
      unfold pcV
      obtain ⟨W8, hW, hwb, hr8⟩ := room_pc w8 y
      have HB8 := hideIt ((HB.out.trans (hb8.mono HB.out.size)).trans (hwb.mono (HB.out.trans (hb8.mono HB.out.size)).size))
      have d0 := (hwb.cell (lt_of_cell ((hb8.cell (lt_of_cell HC0.out)).trans HC0.out))).trans ((hb8.cell (lt_of_cell HC0.out)).trans HC0.out)
      have r0 := hr8.1
      rw [hyx] at hW r0 ⊢
      clear hy hyx hb8 hwb hr8 c0 c1 c2
      go_wp2_with fail
      rw [← hW]
      clear hW
      go_quiet (fail)
      have HB9 := hideIt (HB8.out.trans ((below_drewN W8 nq).mono HB8.out.size))
      go_wp2
      exact ⟨⟨k + 1, by omega, by go_num, HB9⟩, by simp [intOf]; omega⟩
    · have f0 := (HF7.out.next HB.out).1
      have t0 := (HT7.out.next HB.out).1
      have m0 := (HM7.out.next HB.out).1
      have m1 := (HM7.out.next HB.out).2.1
      rw [HXF.out] at f0
      rw [HXT.out] at t0
      cases hto : (m.2.1 == []) with
      | true =>
        go_wp2_with fail
        go_ret
        exact ⟨rfl, HSr.out.env.1⟩
      | false =>
        go_wp2_with fail
        go_ret
        exact ⟨rfl, HSr.out.env.1⟩
end Go.Proofs.YtafhmbgnldmedaaDoor
