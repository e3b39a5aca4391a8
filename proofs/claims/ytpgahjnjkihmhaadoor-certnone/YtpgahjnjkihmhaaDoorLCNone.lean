/-
  What is proved here: the walk of cohortlaw05.CertNone, over this program.
-/
import Derived.Test.YtpgahjnjkihmhaaDoorCE
namespace Go.Proofs.YtpgahjnjkihmhaaDoor
open Go.RowKit Go.Extern.Stop Go.Stop Go.Extern

set_option maxRecDepth 100000 in
set_option maxHeartbeats 16000000 in
theorem cnone_true (v : Value) (l : List Op4) (group digest : Int) (need : UInt8) (g d : Int) (u : Value) (S : List Int) (w : World) (hv : Ops4In w (· < w.heap.size) v l) (hll : l.length ≤ maxLen) (hok : ∀ y ∈ l, Op4Ok y) (f2 : fits digest) (f4 : fits d) (hu : NumsIn w (· < w.heap.size) u S) (hul : S.length ≤ maxLen) (hg : ET w) (ht : PT w) :
    Calls Tryd.prog 7 #[v, .int .i64 group, .int .i64 digest, .int .u8 need.toNat, .agg #[.int .i64 g, .int .i64 d, u]] w fun e w' => e = .returned (.bool true) ∧ Below w.heap.size w w' := by
  have HV0 : Hid (Env w w) := ⟨Below.refl _ _, hg, ht⟩
  have HH := hideIt (fun (w' : World) (h : Env w w') => head05_true w' h.et h.pt)
  have HY := hideIt hv
  have HU := hideIt hu
  have HLL := hideIt hll
  have HUL := hideIt hul
  have HF := hideIt (And.intro f2 f4)
  have HK := hideIt hok
  have hnb : need.toNat < 256 := need.toNat_lt
  obtain ⟨N, hN⟩ : ∃ N : Nat, need.toNat = N := ⟨_, rfl⟩
  rw [hN] at hnb ⊢
  clear hN
  obtain ⟨a, cap, rfl⟩ := hu.form
  unfold maxLen at hul
  clear hg ht hv f2 f4 hok hu hll
  go_enter Tryd.func7, Tryd.ntmps7
  go_wp2_with fail
  obtain ⟨W, hW, hwb, hws, c0, c1, c2, _, _, _⟩ := room_new w 25 (.int .i64 g) (.int .i64 d) (.slice a S.length cap)
  rw [← hW]
  have HVW := hideIt (HV0.out.next hwb)
  clear hW hwb HV0
  refine (HH.out W HVW.out).mono ?_
  rintro e w1 ⟨rfl, hb1⟩
  have HV1 := hideIt (HVW.out.next hb1)
  have HS1 := hideIt (Ops4In.mono (HY.out.kept (Kept.of_all HV1.out.1)) (A' := (· < w1.heap.size)) (fun _ h hl => hl))
  have d0 := (hb1.cell (lt_of_cell c0)).trans c0
  have d1 := (hb1.cell (lt_of_cell c1)).trans c1
  have d2 := (hb1.cell (lt_of_cell c2)).trans c2
  clear hb1 HH HVW c0 c1 c2 hws
  go_wp2_with fail
  refine (signed_any v l w1 HS1.out HLL.out HK.out).mono ?_
  generalize sealedTo [] l (min l.length 200) = L
  rintro e w2 ⟨p, q, rfl, C, O, O2, hs, -, -, -, -, -, hb⟩
  have HV2 := hideIt (HV1.out.next hb)
  have HS2 := hideIt hs
  have c0 := (hb.cell (lt_of_cell d0)).trans d0
  have c1 := (hb.cell (lt_of_cell d1)).trans d1
  have c2 := (hb.cell (lt_of_cell d2)).trans d2
  clear hs hb HV1 HS1 d0 d1 d2
  by_cases h200 : (200 : Int) < (S.length : Int)
  · go_wp2
    go_ret
    exact ⟨rfl, HV2.out.1⟩
  · go_wp2_with fail
    have hmk := cMake_few w2 p O L group digest (-(N : Int)) HS2.out HF.out.1 (Or.inl (by omega))
    generalize ((whoTo L group digest 10).length : Int) = M at hmk
    refine hmk.mono ?_
    rintro e w3 ⟨er, rfl, ho, hb3⟩
    have HO3 := hideIt ho
    have HV3 := hideIt (HV2.out.next hb3)
    have HS3 := hideIt (HS2.out.kept (Kept.of_all hb3))
    have d0 := (hb3.cell (lt_of_cell c0)).trans c0
    have d1 := (hb3.cell (lt_of_cell c1)).trans c1
    have d2 := (hb3.cell (lt_of_cell c2)).trans c2
    obtain ⟨ty, y, rfl⟩ := ho.iface
    clear ho hb3 HV2 HS2 c0 c1 c2 hmk
    have hal4 : Below w3.heap.size w3 (w3.alloc (.cells #[.int .i64 0, .int .i64 0, .slice none 0 0] 25)) := (Below.refl _ _).alloc (Nat.le_refl _) _
    have e0 := (hal4.cell (lt_of_cell d0)).trans d0
    have e1 := (hal4.cell (lt_of_cell d1)).trans d1
    have e2 := (hal4.cell (lt_of_cell d2)).trans d2
    clear hal4
    go_wp2_with fail
    obtain ⟨W4, hW4, hwb4, hws4, _, _, _, _, _, _⟩ := room_new w3 25 (.int .i64 0) (.int .i64 0) (.slice none 0 0)
    rw [← hW4] at e0 e1 e2 ⊢
    obtain ⟨W5, hW5, hwb5, hws5, x0, x1, x2, _, _, _⟩ := room_new W4 25 (.int .i64 (-1 - (N : Int))) (.int .i64 d) (.slice a S.length cap)
    rw [← hW5]
    rw [hws4] at x0 x1 x2
    have hB5 : Below w3.heap.size w3 W5 := hwb4.trans (hwb5.mono hwb4.size)
    have c0 := (hwb5.cell (lt_of_cell e0)).trans e0
    have c1 := (hwb5.cell (lt_of_cell e1)).trans e1
    have c2 := (hwb5.cell (lt_of_cell e2)).trans e2
    have HV5 := hideIt (HV3.out.next hB5)
    have HS5 := hideIt (HS3.out.kept (Kept.of_all hB5))
    have HA5 := hideIt (HV5.out.at (One.kept HO3.out (Kept.of_all hB5)))
    clear hW4 hwb4 hws4 hW5 hwb5 hws5 hB5 e0 e1 e2 d0 d1 d2 HO3 HS3 HV3
    refine HA5.out.code.mono ?_
    rintro e w6 ⟨rfl, -, HB6⟩
    have HV6 := hideIt (HV5.out.next HB6.out)
    have HS6 := hideIt (HS5.out.kept (Kept.of_all HB6.out))
    have d0 := (HB6.out.cell (lt_of_cell c0)).trans c0
    have d1 := (HB6.out.cell (lt_of_cell c1)).trans c1
    have d2 := (HB6.out.cell (lt_of_cell c2)).trans c2
    have y0 := (HB6.out.cell (lt_of_cell x0)).trans x0
    have y1 := (HB6.out.cell (lt_of_cell x1)).trans x1
    have y2 := (HB6.out.cell (lt_of_cell x2)).trans x2
    clear c0 c1 c2 x0 x1 x2 HV5 HS5 HA5 HB6
    go_wp2_with fail
    refine (cCheck_any w6 p O _ L g d _ S (-(N : Int)) HS6.out (RowIn.kept HU.out (Kept.of_below HV6.out.1 (fun _ h _ => h))) HF.out.2 HUL.out).mono ?_
    rintro e w7 ⟨er, rfl, he, hb7⟩
    obtain ⟨ty2, z2, rfl⟩ := chk_iface he (chk_few (by omega))
    have HV7 := hideIt (HV6.out.next hb7)
    have HS7 := hideIt (HS6.out.kept (Kept.of_all hb7))
    have c0 := (hb7.cell (lt_of_cell y0)).trans y0
    have c1 := (hb7.cell (lt_of_cell y1)).trans y1
    have c2 := (hb7.cell (lt_of_cell y2)).trans y2
    clear y0 y1 y2 d0 d1 d2 he hb7 HV6 HS6
    go_wp2_with fail
    refine (cCheck_any w7 p O _ L (-1 - (N : Int)) d _ S 1 HS7.out (RowIn.kept HU.out (Kept.of_below HV7.out.1 (fun _ h _ => h))) HF.out.2 HUL.out).mono ?_
    rintro e w8 ⟨er, rfl, he, hb8⟩
    obtain ⟨ty3, z3, rfl⟩ := chk_iface he (chk_nogroup (by omega))
    have HV8 := hideIt (HV7.out.next hb8)
    clear c0 c1 c2 he hb8 HV7 HS7
    go_wp2
    go_ret
    exact ⟨rfl, HV8.out.1⟩
end Go.Proofs.YtpgahjnjkihmhaaDoor
