/-
  What is proved here: the walk of cohortlaw10.TxnBack, over this program.
-/
import Derived.Test.YtohlepbfjgehgaaGreatDoorTO
namespace Go.Proofs.YtohlepbfjgehgaaGreatDoor
open Go.RowKit Go.Extern.Stop Go.Stop Go.Extern

theorem nil_rows (w : World) : RdsIn w (fun _ => True) (.slice none 0 0) [] ∧ WrsIn w (fun _ => True) (.slice none 0 0) [] :=
  ⟨⟨none, 0, rfl, fun _ => ⟨rfl, rfl, rfl⟩, fun k x hx => by simp [rdsCells] at hx⟩, ⟨none, 0, rfl, fun _ => ⟨rfl, rfl, rfl⟩, fun k x hx => by simp [wrsCells] at hx⟩⟩
set_option maxRecDepth 100000 in
set_option maxHeartbeats 16000000 in
theorem tback_true (c n : Int) (rv wv bv : Value) (rs : List Rd) (ws : List Wr) (bs : List UInt8) (w : World) (hr : RdsIn w (· < w.heap.size) rv rs) (hw : WrsIn w (· < w.heap.size) wv ws) (hrl : rs.length ≤ 140737488355328) (hwl : ws.length ≤ 140737488355328)
    (hb : BytesIn w (· < w.heap.size) bv bs) (hg : ET w) (ht : PT w) :
    Calls Tryz.prog 3 #[.agg #[.int .i64 c, .int .i64 n, rv, wv], bv] w fun e w' => e = .returned (.bool true) ∧ Below w.heap.size w w' := by
  have HV0 : Hid (Env w w) := ⟨Below.refl _ _, hg, ht⟩
  have HRV := hideIt hr
  have HWV := hideIt hw
  have HBV := hideIt hb
  obtain ⟨ar, cr, rfl⟩ := hr.form
  obtain ⟨aw, cw, rfl⟩ := hw.form
  obtain ⟨ab, cb, rfl, _⟩ := hb.form
  have HLN : Hid (rs.length ≤ 140737488355328 ∧ ws.length ≤ 140737488355328) := hideIt ⟨hrl, hwl⟩
  have hT := T4.new w 25 (.int .i64 c) (.int .i64 n) (.slice ar rs.length cr) (.slice aw ws.length cw)
  obtain ⟨W, hW⟩ : ∃ W, W = w.alloc (.cells #[.int .i64 c, .int .i64 n, .slice ar rs.length cr, .slice aw ws.length cw] 25) := ⟨_, rfl⟩
  have hwb : Below w.heap.size w W := by rw [hW]; exact (Below.refl _ _).alloc (Nat.le_refl _) _
  rw [← hW] at hT
  have HVW := hideIt (HV0.out.next hwb)
  have HTW := hideIt hT
  have HH := hideIt (head10_true W HVW.out.et HVW.out.pt)
  clear hr hw hb hrl hwl hg ht hT hwb HV0
  go_enter Tryz.func3, Tryz.ntmps3
  go_wp2_with fail
  rw [← hW]
  clear hW
  refine HH.out.mono ?_
  rintro e w1 ⟨rfl, hb1⟩
  have HV1 := hideIt (HVW.out.next hb1)
  have HT1 := hideIt (HTW.out.next hb1)
  have x0 := HT1.out.1.1
  have x1 := HT1.out.1.2.1
  have x2 := HT1.out.1.2.2.1
  have x3 := HT1.out.1.2.2.2
  clear hb1 HH HVW HTW
  go_wp2_with fail
  refine (Great10_any w1 _ c n _ _ rs ws (RowIn.low HRV.out HV1.out.1) (RowIn.low HWV.out HV1.out.1) HLN.out.1 HLN.out.2).mono ?_
  rintro e w2 ⟨⟨g, rfl, hgl⟩, hb2⟩
  have HV2 := hideIt (HV1.out.next hb2)
  have HT2 := hideIt (HT1.out.next hb2)
  clear hb2 x0 x1 x2 x3 HV1 HT1
  cases g with
  | true =>
    go_wp2
    go_ret
    exact ⟨rfl, HV2.out.1⟩
  | false =>
  have hN := hgl rfl
  have hNr : rs.length ≤ 10000 := by omega
  have hNw : ws.length ≤ 10000 := by omega
  have HN := hideIt (And.intro hNr hNw)
  clear hgl hN hNr hNw HLN
  by_cases hbl : (20000 : Int) < (bs.length : Int)
  · go_wp2
    go_ret
    exact ⟨rfl, HV2.out.1⟩
  have HBL : Hid (bs.length ≤ 20000) := hideIt (by omega)
  have x0 := HT2.out.1.1
  have x1 := HT2.out.1.2.1
  have x2 := HT2.out.1.2.2.1
  have x3 := HT2.out.1.2.2.2
  go_wp2_with fail
  clear hbl
  refine (txPut_any w2 _ c n _ _ rs ws (RowIn.low HRV.out HV2.out.1) (RowIn.low HWV.out HV2.out.1) (by have := HN.out; omega) (by have := HN.out; omega)).mono ?_
  rintro e w3 ⟨x, er, rfl, hput, hb3⟩
  have HV3 := hideIt (HV2.out.next hb3)
  have HT3 := hideIt (HT2.out.next hb3)
  have HBV3 := hideIt (RowIn.low HBV.out HV3.out.1)
  replace x0 := HT3.out.1.1
  replace x1 := HT3.out.1.2.1
  replace x2 := HT3.out.1.2.2.1
  replace x3 := HT3.out.1.2.2.2
  have HCK := hideIt (fun X (hX : Below w3.heap.size w3 X) => txCheck_any X _ c n _ _ rs ws (RowIn.low HRV.out (HV3.out.next hX).1) (RowIn.low HWV.out (HV3.out.next hX).1) (by have := HN.out; omega) (by have := HN.out; omega))
  clear hb3 HV2 HT2
  rcases hput with ⟨hrb, rfl, hbi⟩ | ⟨hrb, rfl, ty, y, rfl⟩
  · have HRB := hideIt hrb
    have HBI := hideIt hbi
    obtain ⟨a3, c3, rfl, _⟩ := hbi.form
    clear hbi hrb
    go_wp2_with fail
    go_region_with (go_at_call 11
                    refine (HCK.out _ (below_drew w3)).mono ?_
                    rintro e w4 ⟨er, rfl, hck, hb4⟩
                    rcases hck with ⟨_, rfl⟩ | ⟨hno, _⟩
                    case inr => (rw [HRB.out] at hno; cases hno)
                    have HB4 : Hid (Below w3.heap.size w3 w4) := hideIt ((below_drew w3).trans hb4)
                    clear hb4)
    all_goals
      have HV4 := hideIt (HV3.out.next HB4.out)
      have HT4 := hideIt (HT3.out.next HB4.out)
      have HBI4 := hideIt (RowIn.kept HBI.out (Kept.of_all HB4.out))
      clear x0 x1 x2 x3 HBI HT3 HBV3
      go_wp2_with fail
      refine (txGet_any w4 _ _ _ HBI4.out (by obtain ⟨_, h1, h2⟩ := rightB_ok HRB.out; have := rowR_len h1.1 h1.short; have := rowW_len h2.1 h2.short; unfold txnB; simp only [List.length_append, numB_length]; omega)).mono ?_
      rintro e w5 ⟨x5, er5, rfl, hb5, hget⟩
      obtain ⟨k1, k2, k3, k4, k5⟩ := gTx_there HRB.out
      rcases hget with ⟨_, rfl, rv5, wv5, rfl, hrv, hwv⟩ | ⟨hno, _⟩
      case inr => exact absurd k1 hno
      rw [k4] at hrv
      rw [k5] at hwv
      rw [k2, k3]
      obtain ⟨a5, c5, rfl⟩ := hrv.form
      obtain ⟨a5', c5', rfl⟩ := hwv.form
      have hTu := T4.new w5 25 (.int .i64 c) (.int .i64 n) (.slice a5 rs.length c5) (.slice a5' ws.length c5')
      obtain ⟨W5, hW5⟩ : ∃ W5, W5 = w5.alloc (.cells #[.int .i64 c, .int .i64 n, .slice a5 rs.length c5, .slice a5' ws.length c5'] 25) := ⟨_, rfl⟩
      have hba : Below w5.heap.size w5 W5 := by rw [hW5]; exact (Below.refl _ _).alloc (Nat.le_refl _) _
      rw [← hW5] at hTu
      have HV5 := hideIt ((HV4.out.next hb5).next hba)
      have HT5 := hideIt ((HT4.out.next hb5).next hba)
      have HR5 := hideIt (RowIn.kept hrv (Kept.of_all hba))
      have HW5 := hideIt (RowIn.kept hwv (Kept.of_all hba))
      have HX5 : Hid ((w5.alloc (.cells #[.int .i64 c, .int .i64 n, .slice a5 rs.length c5, .slice a5' ws.length c5'] 25)).cell? ⟨w.heap.size, 0, none⟩ = some (.int .i64 c) ∧ (w5.alloc (.cells #[.int .i64 c, .int .i64 n, .slice a5 rs.length c5, .slice a5' ws.length c5'] 25)).cell? ⟨w.heap.size, 1, none⟩ = some (.int .i64 n) ∧ (w5.alloc (.cells #[.int .i64 c, .int .i64 n, .slice a5 rs.length c5, .slice a5' ws.length c5'] 25)).cell? ⟨w.heap.size, 2, none⟩ = some (.slice ar rs.length cr) ∧ (w5.alloc (.cells #[.int .i64 c, .int .i64 n, .slice a5 rs.length c5, .slice a5' ws.length c5'] 25)).cell? ⟨w.heap.size, 3, none⟩ = some (.slice aw ws.length cw)) := hideIt (by rw [← hW5]; exact HT5.out.1)
      obtain ⟨x0, x1, x2, x3⟩ := HX5.out
      clear hb5 hba hTu hrv hwv k1 k2 k3 k4 k5 HV4 HT4 HBI4 HX5
      go_wp2_with fail
      rw [← hW5]
      clear hW5 x0 x1 x2 x3
      refine (txSame_true W5 _ _ c n _ _ _ _ rs ws HR5.out HW5.out (RowIn.low HRV.out HV5.out.1) (RowIn.low HWV.out HV5.out.1) (by have := HN.out; omega) (by have := HN.out; omega)).mono ?_
      rintro e w6 ⟨rfl, hb6⟩
      have HV6 := hideIt (HV5.out.next hb6)
      have HBV6 := hideIt (RowIn.low HBV.out HV6.out.1)
      clear hb6 HR5 HW5 HT5 HV5
      go_wp2_with fail
      refine (txGet_any w6 _ _ bs HBV6.out (by have := HBL.out; omega)).mono ?_
      rintro e w7 ⟨x7, er7, rfl, hb7, hget⟩
      rcases hget with ⟨hgt, rfl, rv7, wv7, rfl, hrv, hwv⟩ | ⟨_, rfl, t7, y7, rfl⟩
      · have HGT := hideIt hgt
        obtain ⟨a7, c7, rfl⟩ := hrv.form
        obtain ⟨a7', c7', rfl⟩ := hwv.form
        obtain ⟨Z, hZ⟩ : ∃ Z, Z = w7.alloc (.cells #[.int .i64 (cliN (gC bs).1), .int .i64 (gN bs).1, .slice a7 (gRs bs).1.length c7, .slice a7' (gWs bs).1.length c7'] 25) := ⟨_, rfl⟩
        have hbz : Below w7.heap.size w7 Z := by rw [hZ]; exact (Below.refl _ _).alloc (Nat.le_refl _) _
        have HV7 := hideIt ((HV6.out.next hb7).next hbz)
        have HR7 := hideIt (RowIn.kept hrv (Kept.of_all hbz))
        have HW7 := hideIt (RowIn.kept hwv (Kept.of_all hbz))
        have HL7 := hideIt (rightB_ok hgt.2)
        clear hb7 hbz hrv hwv hgt HV6 HBV6
        go_wp2_with fail
        rw [← hZ]
        clear hZ
        refine (txPut_any Z _ _ _ _ _ _ _ HR7.out HW7.out (by have := HL7.out.2.1.1; omega) (by have := HL7.out.2.2.1; omega)).mono ?_
        rintro e w8 ⟨x8, er8, rfl, hput8, hb8⟩
        rcases hput8 with ⟨_, rfl, hbi8⟩ | ⟨hno, _⟩
        case inr => (rw [HGT.out.2] at hno; cases hno)
        rw [gTx_back HGT.out] at hbi8
        have HV8 := hideIt (HV7.out.next hb8)
        have hst1 := hbi8.str
        have hst2 := BytesIn.str (RowIn.low HBV.out HV8.out.1)
        obtain ⟨a8, c8, rfl, _⟩ := hbi8.form
        clear hb8 hbi8 HV7 HR7 HW7 HL7
        go_wp2
        go_ret
        exact ⟨rfl, HV8.out.1⟩
      · obtain ⟨Z, hZ⟩ : ∃ Z, Z = w7.alloc (.cells #[.int .i64 0, .int .i64 0, .slice none 0 0, .slice none 0 0] 25) := ⟨_, rfl⟩
        have hbz : Below w7.heap.size w7 Z := by rw [hZ]; exact (Below.refl _ _).alloc (Nat.le_refl _) _
        have HV7 := hideIt ((HV6.out.next hb7).next hbz)
        clear hb7 hbz HV6 HBV6
        go_wp2_with fail
        rw [← hZ]
        clear hZ
        refine (txSame_true Z _ _ 0 0 _ _ _ _ [] [] (nil_rows Z).1 (nil_rows Z).2 (nil_rows Z).1 (nil_rows Z).2 (by decide) (by decide)).mono ?_
        rintro e w8 ⟨rfl, hb8⟩
        have HV8 := hideIt (HV7.out.next hb8)
        clear hb8 HV7
        go_wp2
        go_ret
        exact ⟨rfl, HV8.out.1⟩
  · have HRB := hideIt hrb
    clear hrb
    go_wp2_with fail
    go_region_with (go_at_call 11
                    refine (HCK.out _ (below_drew w3)).mono ?_
                    rintro e w4 ⟨er, rfl, hck, hb4⟩
                    rcases hck with ⟨hno, _⟩ | ⟨_, ho⟩
                    case inl => (rw [HRB.out] at hno; cases hno)
                    obtain ⟨ty4, y4, rfl⟩ := ho.iface
                    have HB4 : Hid (Below w3.heap.size w3 w4) := hideIt ((below_drew w3).trans hb4)
                    clear hb4 ho)
    all_goals
      have HV6 := hideIt (HV3.out.next HB4.out)
      have HBV6 := hideIt (RowIn.low HBV.out HV6.out.1)
      clear x0 x1 x2 x3 HT3 HBV3
      go_wp2_with fail
      refine (txGet_any w4 _ _ bs HBV6.out (by have := HBL.out; omega)).mono ?_
      rintro e w7 ⟨x7, er7, rfl, hb7, hget⟩
      rcases hget with ⟨hgt, rfl, rv7, wv7, rfl, hrv, hwv⟩ | ⟨_, rfl, t7, y7, rfl⟩
      · have HGT := hideIt hgt
        obtain ⟨a7, c7, rfl⟩ := hrv.form
        obtain ⟨a7', c7', rfl⟩ := hwv.form
        obtain ⟨Z, hZ⟩ : ∃ Z, Z = w7.alloc (.cells #[.int .i64 (cliN (gC bs).1), .int .i64 (gN bs).1, .slice a7 (gRs bs).1.length c7, .slice a7' (gWs bs).1.length c7'] 25) := ⟨_, rfl⟩
        have hbz : Below w7.heap.size w7 Z := by rw [hZ]; exact (Below.refl _ _).alloc (Nat.le_refl _) _
        have HV7 := hideIt ((HV6.out.next hb7).next hbz)
        have HR7 := hideIt (RowIn.kept hrv (Kept.of_all hbz))
        have HW7 := hideIt (RowIn.kept hwv (Kept.of_all hbz))
        have HL7 := hideIt (rightB_ok hgt.2)
        clear hb7 hbz hrv hwv hgt HV6 HBV6
        go_wp2_with fail
        rw [← hZ]
        clear hZ
        refine (txPut_any Z _ _ _ _ _ _ _ HR7.out HW7.out (by have := HL7.out.2.1.1; omega) (by have := HL7.out.2.2.1; omega)).mono ?_
        rintro e w8 ⟨x8, er8, rfl, hput8, hb8⟩
        rcases hput8 with ⟨_, rfl, hbi8⟩ | ⟨hno, _⟩
        case inr => (rw [HGT.out.2] at hno; cases hno)
        rw [gTx_back HGT.out] at hbi8
        have HV8 := hideIt (HV7.out.next hb8)
        have hst1 := hbi8.str
        have hst2 := BytesIn.str (RowIn.low HBV.out HV8.out.1)
        obtain ⟨a8, c8, rfl, _⟩ := hbi8.form
        clear hb8 hbi8 HV7 HR7 HW7 HL7
        go_wp2
        go_ret
        exact ⟨rfl, HV8.out.1⟩
      · obtain ⟨Z, hZ⟩ : ∃ Z, Z = w7.alloc (.cells #[.int .i64 0, .int .i64 0, .slice none 0 0, .slice none 0 0] 25) := ⟨_, rfl⟩
        have hbz : Below w7.heap.size w7 Z := by rw [hZ]; exact (Below.refl _ _).alloc (Nat.le_refl _) _
        have HV7 := hideIt ((HV6.out.next hb7).next hbz)
        clear hb7 hbz HV6 HBV6
        go_wp2_with fail
        rw [← hZ]
        clear hZ
        refine (txSame_true Z _ _ 0 0 _ _ _ _ [] [] (nil_rows Z).1 (nil_rows Z).2 (nil_rows Z).1 (nil_rows Z).2 (by decide) (by decide)).mono ?_
        rintro e w8 ⟨rfl, hb8⟩
        have HV8 := hideIt (HV7.out.next hb8)
        clear hb8 HV7
        go_wp2
        go_ret
        exact ⟨rfl, HV8.out.1⟩
end Go.Proofs.YtohlepbfjgehgaaGreatDoor
