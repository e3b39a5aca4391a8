/-
  What is proved here: the statements' own head; over this program.
-/
import Derived.Test.YtohlepbfjgehgaaGreatDoorTN
import Derived.Test.YtohlepbfjgehgaaGreatDoorTD
import Derived.Test.YtohlepbfjgehgaaGreatDoorTM
namespace Go.Proofs.YtohlepbfjgehgaaGreatDoor
open Go.RowKit Go.Extern.Stop Go.Stop Go.Extern

def headR : List Rd := [([98], 0)]
def headW : List Wr := [([97], [120])]
theorem head_right : rightB 1 1 headR headW = true := by decide
theorem head_keys : txK headR headW = [[97], [98]] := by
  refine rise_ext (lt := kLt) kLt_irrefl (fun a b => kLt_asymm) (txK_rise _ _) ?_ fun s => ?_
  · refine List.pairwise_cons.2 ⟨fun a ha => ?_, by simp⟩
    simp at ha; subst ha
    show Op.bytesLess [97] [98] = true
    decide
  · rw [txK_mem]
    simp only [headR, headW, List.mem_cons, List.not_mem_nil, or_false]
    constructor
    · rintro (⟨x, rfl, rfl⟩ | ⟨x, rfl, rfl⟩)
      · exact Or.inr rfl
      · exact Or.inl rfl
    · rintro (rfl | rfl)
      · exact Or.inr ⟨_, rfl, rfl⟩
      · exact Or.inl ⟨_, rfl, rfl⟩
theorem head_chosenW : wrChosen headW [[97]] = headW := by decide
theorem head_chosenW2 : wrChosen headW [[97], [98]] = headW := by decide
theorem head_chosenR : rdChosen headR [[97], [98]] = headR := by decide
theorem head_wrote {l' : List Ent} (h : Wrote [] headW l') : Fit l' ∧ got l' [97] = (([97], [120], 1), true) ∧ fitsB l' headR headW [[97], [98]] = true := by
  obtain ⟨h1, h2, h3, h4⟩ := h.got fit_nil (List.pairwise_singleton _ _)
  have e1 := h2 ([97], [120]) (by simp)
  have e2 := h3 [98] (fun x hx => by simp at hx; subst hx; decide)
  have g0 : ∀ k, got [] k = (zeroE, false) := fun k => rfl
  rw [g0] at e1 e2
  refine ⟨h1, e1, ?_⟩
  unfold fitsB
  rw [head_chosenR, head_chosenW2]
  have hl : l'.length ≤ 1 := by
    rw [h4]
    simp only [List.length_nil, Nat.zero_add]
    exact List.length_filter_le _ _
  have hn : newN l' headW = 0 := by
    unfold newN headW
    simp [e1]
  have hr : readsB l' headR = true := by
    unfold readsB headR
    simp [e2, zeroE]
  rw [hr, hn, Bool.true_and, decide_eq_true]
  omega
theorem head_app {l' : List Ent} {er : Value} (h : AppIs [] (wrChosen headW [[97]]) er l') : er = .nilIface ∧ Wrote [] headW l' := by
  rw [head_chosenW] at h
  exact app_ok fit_nil (List.pairwise_singleton _ _) (fun x hx => by simp [headW] at hx; subst hx; decide) (fun e he => (nomatch he)) (by
    have : (headW.filter fun x => !(got [] x.1).2).length ≤ 1 := List.length_filter_le _ _
    simp only [List.length_nil]; omega) h

set_option maxRecDepth 100000 in
set_option maxHeartbeats 16000000 in
theorem head10_true (w : World) (hg : ET w) (ht : PT w) : Calls Tryz.prog 8 #[] w fun e w' => e = .returned (.bool true) ∧ Below w.heap.size w w' := by
  have HV0 : Hid (Env w w) := ⟨Below.refl _ _, hg, ht⟩
  obtain ⟨U0, hU0, hb0, hs0, ho0⟩ := lit_rd w ([98], 0)
  obtain ⟨U1, hU1, hb1, hs1, ho1⟩ := lit_wr U0 ([97], [120])
  rw [hs0] at ho1
  have hT := T4.new U1 25 (.int .i64 1) (.int .i64 1) (.slice (some ⟨w.heap.size, 0, none⟩) 1 1) (.slice (some ⟨w.heap.size + 1, 0, none⟩) 1 1)
  obtain ⟨U2, hU2⟩ : ∃ U2, U2 = U1.alloc (.cells #[.int .i64 1, .int .i64 1, .slice (some ⟨w.heap.size, 0, none⟩) 1 1, .slice (some ⟨w.heap.size + 1, 0, none⟩) 1 1] 25) := ⟨_, rfl⟩
  have hb2 : Below U1.heap.size U1 U2 := by rw [hU2]; exact (Below.refl _ _).alloc (Nat.le_refl _) _
  rw [← hU2] at hT
  rw [show U1.heap.size = w.heap.size + 1 + 1 by omega] at hT
  have hbw : Below w.heap.size w U2 := (hb0.trans (hb1.mono hb0.size)).trans (hb2.mono (Nat.le_trans hb0.size hb1.size))
  have HR : Hid (RdsIn U2 (fun _ => True) (.slice (some ⟨w.heap.size, 0, none⟩) 1 1) headR) := hideIt (RowIn.kept (RowIn.kept (RowIn.of_own ho0 (fun _ _ => trivial)) (Kept.of_all hb1)) (Kept.of_all hb2))
  have HW : Hid (WrsIn U2 (fun _ => True) (.slice (some ⟨w.heap.size + 1, 0, none⟩) 1 1) headW) := hideIt (RowIn.kept (RowIn.of_own ho1 (fun _ _ => trivial)) (Kept.of_all hb2))
  have HT := hideIt hT
  have HV2 := hideIt (HV0.out.next hbw)
  clear hg ht hb0 hb1 hb2 ho0 ho1 hs0 hs1 hT hbw HV0
  go_enter Tryz.func8, Tryz.ntmps8
  go_wp2_with fail
  rw [← hU0, ← hU1, ← hU2]
  clear hU0 hU1 hU2
  refine (txPut_any U2 _ 1 1 _ _ headR headW HR.out HW.out (by decide) (by decide)).mono ?_
  rintro e w1 ⟨b, er, rfl, hput, hb1⟩
  rcases hput with ⟨_, rfl, hbi⟩ | ⟨hno, _⟩
  case inr => rw [head_right] at hno; cases hno
  have HBI := hideIt hbi
  obtain ⟨ab, cb, rfl, _⟩ := hbi.form
  have HV1 := hideIt (HV2.out.next hb1)
  have HT1 := hideIt (HT.out.next hb1)
  have HR1 := hideIt (RowIn.kept HR.out (Kept.of_all hb1))
  have HW1 := hideIt (RowIn.kept HW.out (Kept.of_all hb1))
  clear hbi hb1 HV2 HT HR HW
  go_wp2_with fail
  refine (txGet_any w1 _ _ _ HBI.out (by decide)).mono ?_
  rintro e w2 ⟨x, er, rfl, hb2, hget⟩
  obtain ⟨k1, k2, k3, k4, k5⟩ := gTx_there head_right
  rcases hget with ⟨_, rfl, rv, wv, rfl, hrv, hwv⟩ | ⟨hno, _⟩
  case inr => exact absurd k1 hno
  rw [k4] at hrv
  rw [k5] at hwv
  rw [k2, k3]
  obtain ⟨ar, cr, rfl⟩ := hrv.form
  obtain ⟨aw, cw, rfl⟩ := hwv.form
  have hTu := T4.new w2 25 (.int .i64 1) (.int .i64 1) (.slice ar headR.length cr) (.slice aw headW.length cw)
  obtain ⟨W2, hW2⟩ : ∃ W2, W2 = w2.alloc (.cells #[.int .i64 1, .int .i64 1, .slice ar headR.length cr, .slice aw headW.length cw] 25) := ⟨_, rfl⟩
  have hba : Below w2.heap.size w2 W2 := by rw [hW2]; exact (Below.refl _ _).alloc (Nat.le_refl _) _
  rw [← hW2] at hTu
  have HTU := hideIt hTu
  have HV2 := hideIt ((HV1.out.next hb2).next hba)
  have HT2 := hideIt ((HT1.out.next hb2).next hba)
  have HR2 := hideIt (RowIn.kept (RowIn.kept HR1.out (Kept.of_all hb2)) (Kept.of_all hba))
  have HW2 := hideIt (RowIn.kept (RowIn.kept HW1.out (Kept.of_all hb2)) (Kept.of_all hba))
  clear hb2 hba hTu hrv hwv k1 k2 k3 k4 k5 HV1 HT1 HR1 HW1 HBI
  go_wp2_with fail
  rw [← hW2]
  clear hW2
  refine (stnew_any W2).mono ?_
  rintro e w3 ⟨p, rfl, hns⟩
  have HS3 := hideIt (Ss.new HV2.out hns)
  have HT3 := hideIt (HT2.out.next hns.2)
  have HTU3 := hideIt (HTU.out.next hns.2)
  have HR3 := hideIt (RowIn.kept HR2.out (Kept.of_all hns.2))
  have HW3 := hideIt (RowIn.kept HW2.out (Kept.of_all hns.2))
  have HNB : Hid (∀ k, k < W2.heap.size → ¬ (W2.heap.size ≤ k ∧ k < w3.heap.size)) := hideIt (fun k h h2 => by omega)
  have HLT : Hid (w.heap.size + 1 + 1 < W2.heap.size ∧ w2.heap.size < W2.heap.size) := hideIt ⟨HT2.out.lt, HTU.out.lt⟩
  have HRO := hideIt (RowIn.lt HR2.out)
  have HWO := hideIt (RowIn.lt HW2.out)
  obtain ⟨O3, hO3⟩ : ∃ O3 : Nat → Prop, O3 = fun k => W2.heap.size ≤ k ∧ k < w3.heap.size := ⟨_, rfl⟩
  rw [← hO3] at HS3
  have HNO : Hid (∀ k, k < W2.heap.size → ¬ O3 k) := hideIt (by rw [hO3]; exact HNB.out)
  have HB23 := hideIt hns.2
  clear hns hO3 HNB HV2 HT2 HTU HR2 HW2
  obtain ⟨W3, hW3⟩ : ∃ W3, W3 = w3.alloc (.cells #[.string ⟨#[97]⟩] 9) := ⟨_, rfl⟩
  have hb3 : Below w3.heap.size w3 W3 := by rw [hW3]; exact (Below.refl _ _).alloc (Nat.le_refl _) _
  have HK3 : Hid (SIn W3 (fun _ => True) (.slice (some ⟨w3.heap.size, 0, none⟩) 1 1) [[97]]) := hideIt ⟨_, 1, rfl, (fun e => nomatch e), fun k x hx => ⟨w3.heap.size, 0, rfl, trivial, by
    rw [hW3]
    have := cell_one_new w3 (.string ⟨#[97]⟩) 9 k x (by simpa [keyCells, encStr] using hx)
    rw [addr_add] at this
    exact this⟩⟩
  have HSW := hideIt (HS3.out.next hb3)
  have HTW := hideIt (HT3.out.next hb3)
  have HTUW := hideIt (HTU3.out.next hb3)
  have HRW := hideIt (RowIn.kept HR3.out (Kept.of_all hb3))
  have HWW := hideIt (RowIn.kept HW3.out (Kept.of_all hb3))
  have HB2W := hideIt (HB23.out.trans (hb3.mono HB23.out.size))
  have x0 := HT3.out.1.1
  have x1 := HT3.out.1.2.1
  have x2 := HT3.out.1.2.2.1
  have x3 := HT3.out.1.2.2.2
  clear hb3 HS3 HT3 HTU3 HR3 HW3 HB23
  go_wp2_with fail
  rw [← hW3]
  clear hW3 x0 x1 x2 x3
  refine (txApply_any W3 _ _ p O3 [] 1 1 _ _ _ headR headW [[97]] HSW.out.sto fit_nil HRW.out HWW.out HK3.out (by decide) (by decide)).mono ?_
  rintro e w4 ⟨er, l', O4, rfl, hs4, hm4, ha4⟩
  obtain ⟨rfl, hwr⟩ := head_app ha4
  obtain ⟨hf4, hgot4, hfit4⟩ := head_wrote hwr
  have HF4 := hideIt hf4
  have HG4 := hideIt hgot4
  have HFI4 := hideIt hfit4
  have HS4 := hideIt (HSW.out.move hs4 hm4)
  have hkp : Kept (· < W2.heap.size) W3 w4 := hm4.turn.kept (fun k hk _ => HNO.out k hk)
  have HT4 := hideIt (HTW.out.keep (hkp _ HLT.out.1 HTW.out.lt))
  have HTU4 := hideIt (HTUW.out.keep (hkp _ HLT.out.2 HTUW.out.lt))
  have HR4 := hideIt (RowIn.kept (RowIn.low HRO.out HB2W.out) hkp)
  have HW4 := hideIt (RowIn.kept (RowIn.low HWO.out HB2W.out) hkp)
  clear hs4 hm4 ha4 hwr hf4 hgot4 hfit4 hkp HSW HTW HTUW HRW HWW HK3 HB2W HRO HWO HNO HLT
  go_wp2_with fail
  refine (stget_any w4 p O4 l' [97] HS4.out.sto HF4.out.rising (by have := HF4.out.1; omega)).mono ?_
  rintro e w5 ⟨xe, is, rfl, hgi, hb5⟩
  have hgo := got_of HF4.out.rising hgi
  rw [HG4.out] at hgo
  simp only [Prod.mk.injEq] at hgo
  obtain ⟨rfl, rfl⟩ := hgo
  unfold entV
  obtain ⟨W5, hW5, hwb5, _, y0, y1, y2⟩ := room3 w5 42 (.string ⟨#[97]⟩) (.string ⟨#[120]⟩) (.int .i64 1)
  have HS5 := hideIt ((HS4.out.next hb5).next hwb5)
  have HT5 := hideIt ((HT4.out.next hb5).next hwb5)
  have HTU5 := hideIt ((HTU4.out.next hb5).next hwb5)
  have HR5 := hideIt (RowIn.kept (RowIn.kept HR4.out (Kept.of_all hb5)) (Kept.of_all hwb5))
  have HW5 := hideIt (RowIn.kept (RowIn.kept HW4.out (Kept.of_all hb5)) (Kept.of_all hwb5))
  have HY5 : Hid (R3 W5 w5.heap.size (.string ⟨#[97]⟩) (.string ⟨#[120]⟩) (.int .i64 1)) := hideIt ⟨y0, y1, y2⟩
  have x0 : (w5.alloc (.cells #[.string ⟨#[97]⟩, .string ⟨#[120]⟩, .int .i64 1] 42)).cell? ⟨w.heap.size + 1 + 1, 0, none⟩ = some (.int .i64 1) := by rw [← hW5]; exact HT5.out.1.1
  have x1 : (w5.alloc (.cells #[.string ⟨#[97]⟩, .string ⟨#[120]⟩, .int .i64 1] 42)).cell? ⟨w.heap.size + 1 + 1, 1, none⟩ = some (.int .i64 1) := by rw [← hW5]; exact HT5.out.1.2.1
  have x2 : (w5.alloc (.cells #[.string ⟨#[97]⟩, .string ⟨#[120]⟩, .int .i64 1] 42)).cell? ⟨w.heap.size + 1 + 1, 2, none⟩ = some (.slice (some ⟨w.heap.size, 0, none⟩) 1 1) := by rw [← hW5]; exact HT5.out.1.2.2.1
  have x3 : (w5.alloc (.cells #[.string ⟨#[97]⟩, .string ⟨#[120]⟩, .int .i64 1] 42)).cell? ⟨w.heap.size + 1 + 1, 3, none⟩ = some (.slice (some ⟨w.heap.size + 1, 0, none⟩) 1 1) := by rw [← hW5]; exact HT5.out.1.2.2.2
  clear hgi hb5 hwb5 y0 y1 y2 HS4 HT4 HTU4 HR4 HW4 HG4
  go_wp2_with fail
  rw [← hW5]
  clear hW5 x0 x1 x2 x3
  refine (txKeys_any W5 _ 1 1 _ _ headR headW HR5.out HW5.out (by decide) (by decide)).mono ?_
  rintro e w6 ⟨z6, rfl, ho6, hb6⟩
  rw [head_keys] at ho6
  have HK6 := hideIt (SIn.of_own ho6 rfl)
  obtain ⟨a6, c6, rfl⟩ := own_form ho6
  have HS6 := hideIt (HS5.out.next hb6)
  have HT6 := hideIt (HT5.out.next hb6)
  have HTU6 := hideIt (HTU5.out.next hb6)
  have HR6 := hideIt (RowIn.kept HR5.out (Kept.of_all hb6))
  have HW6 := hideIt (RowIn.kept HW5.out (Kept.of_all hb6))
  have HY6 := hideIt (HY5.out.next hb6)
  clear ho6 hb6 HS5 HT5 HTU5 HR5 HW5 HY5
  have t1 := HTU6.out.1.2.1
  have HN6 : Hid (RdsIn w6 (fun _ => True) (.slice none 0 0) [] ∧ WrsIn w6 (fun _ => True) (.slice none 0 0) []) := hideIt ⟨⟨none, 0, rfl, fun _ => ⟨rfl, rfl, rfl⟩, fun k x hx => by simp [rdsCells] at hx⟩, ⟨none, 0, rfl, fun _ => ⟨rfl, rfl, rfl⟩, fun k x hx => by simp [wrsCells] at hx⟩⟩
  go_wp2_with fail
  refine (txCheck_any w6 _ 0 0 _ _ [] [] HN6.out.1 HN6.out.2 (by decide) (by decide)).mono ?_
  rintro e w7 ⟨er, rfl, hck, hb7⟩
  rcases hck with ⟨hno, _⟩ | ⟨_, ho7⟩
  · exact absurd hno (by decide)
  have HS7 := hideIt (HS6.out.next hb7)
  have HT7 := hideIt (HT6.out.next hb7)
  have HK7 := hideIt (RowIn.kept HK6.out (Kept.of_all hb7))
  have HR7 := hideIt (RowIn.kept HR6.out (Kept.of_all hb7))
  have HW7 := hideIt (RowIn.kept HW6.out (Kept.of_all hb7))
  have HY7 := hideIt (HY6.out.next hb7)
  have HO7 := hideIt (HS7.out.env.at ho7)
  obtain ⟨ty7, v7, rfl⟩ := ho7.iface
  clear ho7 hb7 t1 HS6 HT6 HTU6 HR6 HW6 HY6 HK6 HN6
  go_wp2_with fail
  refine (HO7.out.code).mono ?_
  rintro e w8 ⟨rfl, _, hb8⟩
  have HS8 := hideIt (HS7.out.next hb8.out)
  have HT8 := hideIt (HT7.out.next hb8.out)
  have HK8 := hideIt (RowIn.kept HK7.out (Kept.of_all hb8.out))
  have HR8 := hideIt (RowIn.kept HR7.out (Kept.of_all hb8.out))
  have HW8 := hideIt (RowIn.kept HW7.out (Kept.of_all hb8.out))
  have HY8 := hideIt (HY7.out.next hb8.out)
  have y1 := HY8.out.2.1
  obtain ⟨bk, ok, rfl, _, kc0⟩ := SIn.at HK8.out (k := 0) (s := [97]) rfl
  have x0 := HT8.out.1.1
  have x1 := HT8.out.1.2.1
  have x2 := HT8.out.1.2.2.1
  have x3 := HT8.out.1.2.2.2
  rw [Nat.add_zero] at kc0
  clear hb8 HS7 HT7 HK7 HR7 HW7 HY7 HO7
  go_wp2_with fail
  refine (txFits_any w8 _ _ p O4 l' 1 1 _ _ _ headR headW [[97], [98]] HS8.out.sto HF4.out HR8.out HW8.out HK8.out (by decide) (by decide) (by decide)).mono ?_
  rintro e w9 ⟨rfl, hb9⟩
  rw [HFI4.out]
  have HV9 := hideIt (HS8.out.env.next hb9)
  clear hb9 y1 kc0 x0 x1 x2 x3
  go_wp2
  go_ret
  exact ⟨rfl, HV9.out.1⟩
end Go.Proofs.YtohlepbfjgehgaaGreatDoor
