/-
  What is proved here: the walk of cohortlaw10.TxnFits, over this program.
-/
import Derived.Test.YtohlepbfjgehgaaGreatDoorTP
namespace Go.Proofs.YtohlepbfjgehgaaGreatDoor
open Go.RowKit Go.Extern.Stop Go.Stop Go.Extern

theorem wrong_ver (v : Int) (x : UInt8) : ((v == IntKind.i64.wrap (IntKind.i64.wrap (v + 1) + (x.toNat : Int))) = false) := by
  have hx : (x.toNat : Int) < 256 := by have := UInt8.toNat_lt x; omega
  rw [beq_eq_false_iff_ne]
  intro h
  simp [IntKind.wrap, IntKind.bits, IntKind.signed] at h
  omega
theorem rows_none (w : World) : RdsIn w (fun _ => True) (.slice none 0 0) [] ∧ WrsIn w (fun _ => True) (.slice none 0 0) [] :=
  ⟨⟨none, 0, rfl, fun _ => ⟨rfl, rfl, rfl⟩, fun k x hx => by simp [rdsCells] at hx⟩, ⟨none, 0, rfl, fun _ => ⟨rfl, rfl, rfl⟩, fun k x hx => by simp [wrsCells] at hx⟩⟩
set_option maxRecDepth 100000 in
set_option maxHeartbeats 16000000 in
theorem tfits_true (c n : Int) (rv wv v : Value) (rs : List Rd) (ws : List Wr) (l : List Ent) (key : List UInt8) (wrong : UInt8) (w : World) (hr : RdsIn w (· < w.heap.size) rv rs) (hw : WrsIn w (· < w.heap.size) wv ws) (hrl : rs.length ≤ 140737488355328) (hwl : ws.length ≤ 140737488355328)
    (hv : EntsIn w (· < w.heap.size) v l) (hn : l.length ≤ maxLen) (hg : ET w) (ht : PT w) :
    Calls Tryz.prog 7 #[.agg #[.int .i64 c, .int .i64 n, rv, wv], v, .string ⟨key.toArray⟩, .int .u8 wrong.toNat] w fun e w' => e = .returned (.bool true) ∧ Below w.heap.size w w' := by
  have HV0 : Hid (Env w w) := ⟨Below.refl _ _, hg, ht⟩
  have HRV := hideIt hr
  have HWV := hideIt hw
  have HA := hideIt (And.intro hv hn)
  obtain ⟨ar, cr, rfl⟩ := hr.form
  obtain ⟨aw, cw, rfl⟩ := hw.form
  obtain ⟨a, cap, rfl⟩ := hv.form
  have HLN : Hid (rs.length ≤ 140737488355328 ∧ ws.length ≤ 140737488355328) := hideIt ⟨hrl, hwl⟩
  have hT := T4.new w 25 (.int .i64 c) (.int .i64 n) (.slice ar rs.length cr) (.slice aw ws.length cw)
  obtain ⟨W, hW⟩ : ∃ W, W = w.alloc (.cells #[.int .i64 c, .int .i64 n, .slice ar rs.length cr, .slice aw ws.length cw] 25) := ⟨_, rfl⟩
  have hwb : Below w.heap.size w W := by rw [hW]; exact (Below.refl _ _).alloc (Nat.le_refl _) _
  rw [← hW] at hT
  have HVW := hideIt (HV0.out.next hwb)
  have HTW := hideIt hT
  have HH := hideIt (head10_true W HVW.out.et HVW.out.pt)
  have hbw : w.heap.size < W.heap.size := hT.lt
  clear hr hw hv hn hrl hwl hg ht hT hwb HV0
  go_enter Tryz.func7, Tryz.ntmps7
  go_wp2_with fail
  rw [← hW]
  clear hW
  refine HH.out.mono ?_
  rintro e w1 ⟨rfl, hb1⟩
  have HV1 := hideIt (HVW.out.next hb1)
  have HT1 := hideIt (HTW.out.next hb1)
  have hb1w : w.heap.size < w1.heap.size := HT1.out.lt
  clear hb1 HH HVW HTW
  go_wp2_with fail
  refine (stof_any w1 _ _ l (RowIn.low HA.out.1 HV1.out.1) HA.out.2).mono ?_
  rintro e w2 (⟨hf, p, rfl, hns⟩ | ⟨_, rfl, hb2⟩)
  case inr =>
    have HV2 := hideIt (HV1.out.next hb2)
    clear hb2
    go_wp2
    go_ret
    exact ⟨rfl, HV2.out.1⟩
  have HS2 := hideIt (Ss.new HV1.out hns)
  have HT2 := hideIt (HT1.out.next hns.2)
  obtain ⟨O2, hO2⟩ : ∃ O2 : Nat → Prop, O2 = fun k => w1.heap.size ≤ k ∧ k < w2.heap.size := ⟨_, rfl⟩
  rw [← hO2] at HS2
  have HNO : Hid (¬ O2 w.heap.size) := hideIt (by rw [hO2]; intro h; omega)
  have HF := hideIt hf
  have x0 := HT2.out.1.1
  have x1 := HT2.out.1.2.1
  have x2 := HT2.out.1.2.2.1
  have x3 := HT2.out.1.2.2.2
  clear hns hf hO2 HA HV1 HT1
  go_wp2_with fail
  refine (Great10_any w2 _ c n _ _ rs ws (RowIn.low HRV.out HS2.out.env.1) (RowIn.low HWV.out HS2.out.env.1) HLN.out.1 HLN.out.2).mono ?_
  rintro e w3 ⟨⟨g, rfl, _⟩, hb3⟩
  have HS3 := hideIt (HS2.out.next hb3)
  have HT3 := hideIt (HT2.out.next hb3)
  replace x0 := HT3.out.1.1
  replace x1 := HT3.out.1.2.1
  replace x2 := HT3.out.1.2.2.1
  replace x3 := HT3.out.1.2.2.2
  clear hb3 HS2 HT2 HLN
  cases g with
  | true =>
    go_wp2
    go_ret
    exact ⟨rfl, HS3.out.env.1⟩
  | false =>
  by_cases h90 : (90 : Int) < (l.length : Int)
  · go_wp2
    go_ret
    exact ⟨rfl, HS3.out.env.1⟩
  by_cases h20 : (20 : Int) < (ws.length : Int)
  · go_wp2
    go_ret
    exact ⟨rfl, HS3.out.env.1⟩
  have HL : Hid (l.length ≤ 90 ∧ ws.length ≤ 20) := hideIt (by omega)
  have hgs := grown_set (p := w.heap.size) (grown_refl w3 (some w.heap.size)) 2 (.slice none 0 0)
  obtain ⟨W3, hW3⟩ : ∃ W3, W3 = w3.setCell ⟨w.heap.size, 2, none⟩ (.slice none 0 0) := ⟨_, rfl⟩
  rw [← hW3] at hgs
  have HT4 : Hid (T4 W3 w.heap.size (.int .i64 c) (.int .i64 n) (.slice none 0 0) (.slice aw ws.length cw)) := hideIt (by rw [hW3]; exact HT3.out.set2 _)
  have HS4 := hideIt (HS3.out.other hgs HNO.out (Nat.le_refl _))
  have f2 := HT3.out.2 2
  have y0 : (w3.setCell ⟨w.heap.size, 2, none⟩ (.slice none 0 0)).cell? ⟨w.heap.size, 0, none⟩ = some (.int .i64 c) := by rw [← hW3]; exact HT4.out.1.1
  have y1 : (w3.setCell ⟨w.heap.size, 2, none⟩ (.slice none 0 0)).cell? ⟨w.heap.size, 1, none⟩ = some (.int .i64 n) := by rw [← hW3]; exact HT4.out.1.2.1
  have y2 : (w3.setCell ⟨w.heap.size, 2, none⟩ (.slice none 0 0)).cell? ⟨w.heap.size, 2, none⟩ = some (.slice none 0 0) := by rw [← hW3]; exact HT4.out.1.2.2.1
  have y3 : (w3.setCell ⟨w.heap.size, 2, none⟩ (.slice none 0 0)).cell? ⟨w.heap.size, 3, none⟩ = some (.slice aw ws.length cw) := by rw [← hW3]; exact HT4.out.1.2.2.2
  clear hgs HS3 HT3
  go_wp2_with fail
  rw [← hW3]
  clear hW3 x0 x1 x2 x3 y0 y1 y2 y3 f2 h90 h20
  have HWS4 := hideIt (RowIn.low HWV.out HS4.out.env.1)
  refine (txKeys_any W3 (fun _ => True) c n _ _ [] ws (rows_none W3).1 (RowIn.mono HWS4.out (fun _ _ _ => trivial)) (by decide) (by have := HL.out; omega)).mono ?_
  rintro e w5 ⟨z5, rfl, ho5, hb5⟩
  have HK5 : Hid (SIn w5 (fun _ => True) z5 (txK [] ws)) := hideIt (SIn.of_own ho5 rfl)
  obtain ⟨a5, c5, rfl⟩ := own_form ho5
  have HS5 := hideIt (HS4.out.next hb5)
  have HT5 := hideIt (HT4.out.next hb5)
  have x0 := HT5.out.1.1
  have x1 := HT5.out.1.2.1
  have x2 := HT5.out.1.2.2.1
  have x3 := HT5.out.1.2.2.2
  clear ho5 hb5 HS4 HT4 HWS4
  go_wp2_with fail
  refine (txFits_any w5 (fun _ => True) _ p O2 l c n _ _ _ [] ws _ HS5.out.sto HF.out (rows_none w5).1 (RowIn.mono (RowIn.low HWV.out HS5.out.env.1) (fun _ _ _ => trivial)) HK5.out (by decide) (by have := HL.out; omega) (by have h1 := txK_len [] ws; have := HL.out; simp only [List.length_nil] at h1; omega)).mono ?_
  rintro e w6 ⟨rfl, hb6⟩
  rw [fits_none HL.out.1 HL.out.2]
  have HS6 := hideIt (HS5.out.next hb6)
  have HT6 := hideIt (HT5.out.next hb6)
  clear hb6 HS5 HT5 x0 x1 x2 x3 HK5
  go_wp2_with fail
  refine (stget_any w6 p O2 l key HS6.out.sto HF.out.rising (by have := HF.out.1; omega)).mono ?_
  rintro e w7 ⟨xe, is, rfl, hgi, hb7⟩
  have HGO := hideIt (got_of HF.out.rising hgi)
  unfold entV
  obtain ⟨W7, hW7, hwb7, hs7, z0, z1, z2⟩ := room3 w7 42 (.string ⟨xe.1.toArray⟩) (.string ⟨xe.2.1.toArray⟩) (.int .i64 xe.2.2)
  obtain ⟨U, hU, hub, hus, huo⟩ := lit_rd W7 (key, xe.2.2)
  rw [hs7] at huo
  have hgs := grown_set (p := w.heap.size) (grown_refl U (some w.heap.size)) 2 (.slice (some ⟨w7.heap.size + 1, 0, none⟩) 1 1)
  obtain ⟨W8, hW8⟩ : ∃ W8, W8 = U.setCell ⟨w.heap.size, 2, none⟩ (.slice (some ⟨w7.heap.size + 1, 0, none⟩) 1 1) := ⟨_, rfl⟩
  rw [← hW8] at hgs
  have htU := ((HT6.out.next hb7).next hwb7).next hub
  have HT8 : Hid (T4 W8 w.heap.size (.int .i64 c) (.int .i64 n) (.slice (some ⟨w7.heap.size + 1, 0, none⟩) 1 1) (.slice aw ws.length cw)) := hideIt (by rw [hW8]; exact htU.set2 _)
  have HS8 := hideIt ((((HS6.out.next hb7).next hwb7).next hub).other hgs HNO.out (Nat.le_refl _))
  have hw7 : w.heap.size < w7.heap.size := (HT6.out.next hb7).lt
  have HR8 : Hid (RdsIn W8 (fun k => k ≠ w.heap.size) (.slice (some ⟨w7.heap.size + 1, 0, none⟩) 1 1) [(key, xe.2.2)]) := hideIt (RowIn.kept (RowIn.of_own huo (fun k hk => by omega)) (Kept.of_grown hgs (fun h => h rfl)))
  have HY8 : Hid (R3 W8 w7.heap.size (.string ⟨xe.1.toArray⟩) (.string ⟨xe.2.1.toArray⟩) (.int .i64 xe.2.2)) := hideIt (by
    have hne : w7.heap.size ≠ w.heap.size := by omega
    have h := R3.next (w' := U) (show R3 W7 w7.heap.size (.string ⟨xe.1.toArray⟩) (.string ⟨xe.2.1.toArray⟩) (.int .i64 xe.2.2) from ⟨z0, z1, z2⟩) hub
    exact ⟨tgrown_cell hgs h.1 hne, tgrown_cell hgs h.2.1 hne, tgrown_cell hgs h.2.2 hne⟩)
  have hWF : W8 = ((w7.setCell ⟨w.heap.size, 2, none⟩ (.slice (some ⟨w7.heap.size + 1, 0, none⟩) 1 1)).alloc (.cells #[.string ⟨xe.1.toArray⟩, .string ⟨xe.2.1.toArray⟩, .int .i64 xe.2.2] 42)).alloc (.cells #[.string ⟨key.toArray⟩, .int .i64 xe.2.2] 54) := by
    rw [hW8, hU, hW7, World.setCell_alloc_past _ _ _ _ (by rw [World.size_alloc]; omega), World.setCell_alloc_past _ _ _ _ hw7]
  have g2 : ((w7.alloc (.cells #[.string ⟨xe.1.toArray⟩, .string ⟨xe.2.1.toArray⟩, .int .i64 xe.2.2] 42)).alloc (.cells #[.string ⟨key.toArray⟩, .int .i64 xe.2.2] 54)).cell? ⟨w.heap.size, 2, none⟩ = some (.slice none 0 0) := by rw [← hW7, ← hU]; exact htU.1.2.2.1
  have f2 : ((w7.alloc (.cells #[.string ⟨xe.1.toArray⟩, .string ⟨xe.2.1.toArray⟩, .int .i64 xe.2.2] 42)).alloc (.cells #[.string ⟨key.toArray⟩, .int .i64 xe.2.2] 54)).frozen? ⟨w.heap.size, 2, none⟩ = false := by rw [← hW7, ← hU]; exact htU.2 2
  have y0 : (((w7.setCell ⟨w.heap.size, 2, none⟩ (.slice (some ⟨w7.heap.size + 1, 0, none⟩) 1 1)).alloc (.cells #[.string ⟨xe.1.toArray⟩, .string ⟨xe.2.1.toArray⟩, .int .i64 xe.2.2] 42)).alloc (.cells #[.string ⟨key.toArray⟩, .int .i64 xe.2.2] 54)).cell? ⟨w.heap.size, 0, none⟩ = some (.int .i64 c) := by rw [← hWF]; exact HT8.out.1.1
  have y1 : (((w7.setCell ⟨w.heap.size, 2, none⟩ (.slice (some ⟨w7.heap.size + 1, 0, none⟩) 1 1)).alloc (.cells #[.string ⟨xe.1.toArray⟩, .string ⟨xe.2.1.toArray⟩, .int .i64 xe.2.2] 42)).alloc (.cells #[.string ⟨key.toArray⟩, .int .i64 xe.2.2] 54)).cell? ⟨w.heap.size, 1, none⟩ = some (.int .i64 n) := by rw [← hWF]; exact HT8.out.1.2.1
  have y2 : (((w7.setCell ⟨w.heap.size, 2, none⟩ (.slice (some ⟨w7.heap.size + 1, 0, none⟩) 1 1)).alloc (.cells #[.string ⟨xe.1.toArray⟩, .string ⟨xe.2.1.toArray⟩, .int .i64 xe.2.2] 42)).alloc (.cells #[.string ⟨key.toArray⟩, .int .i64 xe.2.2] 54)).cell? ⟨w.heap.size, 2, none⟩ = some (.slice (some ⟨w7.heap.size + 1, 0, none⟩) 1 1) := by rw [← hWF]; exact HT8.out.1.2.2.1
  have y3 : (((w7.setCell ⟨w.heap.size, 2, none⟩ (.slice (some ⟨w7.heap.size + 1, 0, none⟩) 1 1)).alloc (.cells #[.string ⟨xe.1.toArray⟩, .string ⟨xe.2.1.toArray⟩, .int .i64 xe.2.2] 42)).alloc (.cells #[.string ⟨key.toArray⟩, .int .i64 xe.2.2] 54)).cell? ⟨w.heap.size, 3, none⟩ = some (.slice aw ws.length cw) := by rw [← hWF]; exact HT8.out.1.2.2.2
  clear hgi hb7 hwb7 hs7 z0 z1 z2 hub hus huo hgs htU HS6 HT6
  go_wp2_with fail
  rw [← hWF]
  clear hW7 hU hW8 hWF g2 f2 y0 y1 y2 y3
  refine (txKeys_any W8 (fun _ => True) c n _ _ [(key, xe.2.2)] ws (RowIn.mono HR8.out (fun _ _ _ => trivial)) (RowIn.mono (RowIn.low HWV.out HS8.out.env.1) (fun _ _ _ => trivial)) (by simp) (by have := HL.out; omega)).mono ?_
  rintro e w9 ⟨z9, rfl, ho9, hb9⟩
  have hb8w : w.heap.size < W8.heap.size := HT8.out.lt
  have HK9 : Hid (SIn w9 (fun k => k ≠ w.heap.size) z9 (txK [(key, xe.2.2)] ws)) := hideIt (RowIn.of_own ho9 (fun k hk => by omega))
  obtain ⟨a9, c9, rfl⟩ := own_form ho9
  have HS9 := hideIt (HS8.out.next hb9)
  have HT9 := hideIt (HT8.out.next hb9)
  have HR9 := hideIt (RowIn.kept HR8.out (Kept.of_all hb9))
  have HY9 := hideIt (HY8.out.next hb9)
  have HTL : Hid ((txK [(key, xe.2.2)] ws).length ≤ 100000) := hideIt (by have h1 := txK_len [(key, xe.2.2)] ws; have := HL.out; simp only [List.length_cons, List.length_nil] at h1; omega)
  have x0 := HT9.out.1.1
  have x1 := HT9.out.1.2.1
  have x2 := HT9.out.1.2.2.1
  have x3 := HT9.out.1.2.2.2
  clear ho9 hb9 HS8 HT8 HR8 HY8 hb8w
  go_wp2_with fail
  refine (txFits_any w9 (fun _ => True) _ p O2 l c n _ _ _ [(key, xe.2.2)] ws _ HS9.out.sto HF.out (RowIn.mono HR9.out (fun _ _ _ => trivial)) (RowIn.mono (RowIn.low HWV.out HS9.out.env.1) (fun _ _ _ => trivial)) HK9.out (by simp) (by have := HL.out; omega) HTL.out).mono ?_
  rintro e w10 ⟨rfl, hb10⟩
  rw [fits_one HL.out.1 HL.out.2, HGO.out]
  have hve : (xe.2.2 == xe.2.2) = true := by simp
  simp only [hve]
  obtain ⟨V1, hV1⟩ : ∃ V1, IntKind.i64.wrap (xe.2.2 + 1) = V1 := ⟨_, rfl⟩
  obtain ⟨V2, hV2⟩ : ∃ V2, IntKind.i64.wrap (V1 + (wrong.toNat : Int)) = V2 := ⟨_, rfl⟩
  have HWR : Hid ((xe.2.2 == V2) = false) := hideIt (by rw [← hV2, ← hV1]; exact wrong_ver _ _)
  have hwx : IntKind.i64.wrap (wrong.toNat : Int) = (wrong.toNat : Int) := by have := UInt8.toNat_lt wrong; simp [IntKind.wrap, IntKind.bits, IntKind.signed]; omega
  obtain ⟨U2, hU2, hub, hus, huo⟩ := lit_rd w10 (key, V2)
  have hgs := grown_set (p := w.heap.size) (grown_refl U2 (some w.heap.size)) 2 (.slice (some ⟨w10.heap.size, 0, none⟩) 1 1)
  obtain ⟨W11, hW11⟩ : ∃ W11, W11 = U2.setCell ⟨w.heap.size, 2, none⟩ (.slice (some ⟨w10.heap.size, 0, none⟩) 1 1) := ⟨_, rfl⟩
  rw [← hW11] at hgs
  have ht10 := HT9.out.next hb10
  have htU := ht10.next hub
  have h10 : w.heap.size < w10.heap.size := ht10.lt
  have HT11 : Hid (T4 W11 w.heap.size (.int .i64 c) (.int .i64 n) (.slice (some ⟨w10.heap.size, 0, none⟩) 1 1) (.slice aw ws.length cw)) := hideIt (by rw [hW11]; exact htU.set2 _)
  have HS11 := hideIt (((HS9.out.next hb10).next hub).other hgs HNO.out (Nat.le_refl _))
  have HR11 : Hid (RdsIn W11 (fun k => k ≠ w.heap.size) (.slice (some ⟨w10.heap.size, 0, none⟩) 1 1) [(key, V2)]) := hideIt (RowIn.kept (RowIn.of_own huo (fun k hk => by omega)) (Kept.of_grown hgs (fun h => h rfl)))
  have HK11 := hideIt (RowIn.kept (RowIn.kept (RowIn.kept HK9.out (Kept.of_all hb10)) (Kept.of_all hub)) (Kept.of_grown hgs (fun h => h rfl)))
  have r2 := (HY9.out.next hb10).2.2
  have hWG : W11 = (w10.setCell ⟨w.heap.size, 2, none⟩ (.slice (some ⟨w10.heap.size, 0, none⟩) 1 1)).alloc (.cells #[.string ⟨key.toArray⟩, .int .i64 V2] 54) := by
    rw [hW11, hU2, World.setCell_alloc_past _ _ _ _ h10]
  have g2 : (w10.alloc (.cells #[.string ⟨key.toArray⟩, .int .i64 V2] 54)).cell? ⟨w.heap.size, 2, none⟩ = some (.slice (some ⟨w7.heap.size + 1, 0, none⟩) 1 1) := by rw [← hU2]; exact htU.1.2.2.1
  have f2 : (w10.alloc (.cells #[.string ⟨key.toArray⟩, .int .i64 V2] 54)).frozen? ⟨w.heap.size, 2, none⟩ = false := by rw [← hU2]; exact htU.2 2
  have y0 : ((w10.setCell ⟨w.heap.size, 2, none⟩ (.slice (some ⟨w10.heap.size, 0, none⟩) 1 1)).alloc (.cells #[.string ⟨key.toArray⟩, .int .i64 V2] 54)).cell? ⟨w.heap.size, 0, none⟩ = some (.int .i64 c) := by rw [← hWG]; exact HT11.out.1.1
  have y1 : ((w10.setCell ⟨w.heap.size, 2, none⟩ (.slice (some ⟨w10.heap.size, 0, none⟩) 1 1)).alloc (.cells #[.string ⟨key.toArray⟩, .int .i64 V2] 54)).cell? ⟨w.heap.size, 1, none⟩ = some (.int .i64 n) := by rw [← hWG]; exact HT11.out.1.2.1
  have y2 : ((w10.setCell ⟨w.heap.size, 2, none⟩ (.slice (some ⟨w10.heap.size, 0, none⟩) 1 1)).alloc (.cells #[.string ⟨key.toArray⟩, .int .i64 V2] 54)).cell? ⟨w.heap.size, 2, none⟩ = some (.slice (some ⟨w10.heap.size, 0, none⟩) 1 1) := by rw [← hWG]; exact HT11.out.1.2.2.1
  have y3 : ((w10.setCell ⟨w.heap.size, 2, none⟩ (.slice (some ⟨w10.heap.size, 0, none⟩) 1 1)).alloc (.cells #[.string ⟨key.toArray⟩, .int .i64 V2] 54)).cell? ⟨w.heap.size, 3, none⟩ = some (.slice aw ws.length cw) := by rw [← hWG]; exact HT11.out.1.2.2.2
  clear hb10 hub hus huo hgs ht10 htU HS9 HT9 HR9 HY9 HK9 x0 x1 x2 x3
  go_wp2_with fail
  rw [← hWG]
  clear hU2 hW11 hWG g2 f2 y0 y1 y2 y3 hwx r2
  refine (txFits_any W11 (fun _ => True) _ p O2 l c n _ _ _ [(key, V2)] ws _ HS11.out.sto HF.out (RowIn.mono HR11.out (fun _ _ _ => trivial)) (RowIn.mono (RowIn.low HWV.out HS11.out.env.1) (fun _ _ _ => trivial)) HK11.out (by simp) (by have := HL.out; omega) HTL.out).mono ?_
  rintro e w12 ⟨rfl, hb12⟩
  rw [fits_one HL.out.1 HL.out.2, HGO.out]
  simp only [HWR.out]
  have HS12 := hideIt (HS11.out.next hb12)
  have HT12 := hideIt (HT11.out.next hb12)
  have HR12 := hideIt (RowIn.kept HR11.out (Kept.of_all hb12))
  have HN12 : Hid (SIn w12 (fun _ => True) (.slice none 0 0) []) := hideIt ⟨none, 0, rfl, fun _ => ⟨rfl, rfl, rfl⟩, fun k x hx => by simp [keyCells] at hx⟩
  have x0 := HT12.out.1.1
  have x1 := HT12.out.1.2.1
  have x2 := HT12.out.1.2.2.1
  have x3 := HT12.out.1.2.2.2
  clear hb12 HS11 HT11 HR11 HK11
  go_wp2_with fail
  refine (txFits_any w12 (fun _ => True) _ p O2 l c n _ _ _ [(key, V2)] ws [] HS12.out.sto HF.out (RowIn.mono HR12.out (fun _ _ _ => trivial)) (RowIn.mono (RowIn.low HWV.out HS12.out.env.1) (fun _ _ _ => trivial)) HN12.out (by simp) (by have := HL.out; omega) (by decide)).mono ?_
  rintro e w13 ⟨rfl, hb13⟩
  rw [fits_nokeys HL.out.1 HL.out.2]
  have HS13 := hideIt (HS12.out.next hb13)
  clear hb13 x0 x1 x2 x3
  go_wp2
  go_ret
  exact ⟨rfl, HS13.out.env.1⟩
end Go.Proofs.YtohlepbfjgehgaaGreatDoor
