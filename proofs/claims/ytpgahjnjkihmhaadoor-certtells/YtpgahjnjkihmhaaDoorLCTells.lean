/-
  What is proved here: the walk of cohortlaw05.CertTells, over this program.
-/
import Derived.Test.YtpgahjnjkihmhaaDoorCG
import Derived.Test.YtpgahjnjkihmhaaDoorCI
import Derived.Deep.RegionWith
import Derived.Deep.RegionHeld3
namespace Go.Proofs.YtpgahjnjkihmhaaDoor
open Go.RowKit Go.Extern.Stop Go.Stop Go.Extern

theorem wrongTo_ne {L : List (Int × Int)} {g d : Int} {S : List Int} {m k : Nat} {n : Int} (h : wrongTo L g d S m = some (n, k)) : (n == 0) = false := by
  induction m with
  | zero => cases h
  | succ m ih =>
    unfold wrongTo at h
    cases hw : wrongTo L g d S m with
    | some e => rw [hw] at h; exact ih (by rw [hw]; exact h)
    | none =>
      rw [hw] at h
      simp only at h
      split at h
      · cases h
      · rename_i hne
        injection h with h
        injection h with h1 h2
        rw [← h1]
        simpa using hne
theorem chk_ne {L : List (Int × Int)} {g d : Int} {S : List Int} {need n k : Int} {s : ByteArray} (h : chk L g d S need = some (n, s, k)) : (n == 0) = false := by
  unfold chk at h
  cases hw : wrongTo L g d S S.length with
  | some e =>
    obtain ⟨n', k'⟩ := e
    rw [hw] at h
    injection h with h
    injection h with h1 h2
    rw [← h1]
    exact wrongTo_ne hw
  | none =>
    rw [hw] at h
    simp only at h
    split at h
    · injection h with h
      injection h with h1 h2
      rw [← h1]
      rfl
    · cases h
/-- what is told of an answer: its number, its step -/
def TellRel (o : Option (Int × ByteArray × Int)) (n : Int) (s : ByteArray) (k : Int) : Prop := (o = none ∧ n = 0) ∨ (o = some (n, s, k) ∧ (n == 0) = false)
theorem told3_form {L : List (Int × Int)} {g d : Int} {S : List Int} {need : Int} {e : Ending} (h : e = .returned (told3 (chk L g d S need))) : ∃ n s k, e = .returned (.tuple #[.int .i64 n, .agg #[.string s, .int .i64 k]]) ∧ TellRel (chk L g d S need) n s k := by
  cases hc : chk L g d S need with
  | none => exact ⟨0, ⟨#[]⟩, 0, by rw [h, hc]; rfl, Or.inl ⟨rfl, rfl⟩⟩
  | some x =>
    obtain ⟨n, s, k⟩ := x
    exact ⟨n, s, k, by rw [h, hc]; rfl, Or.inr ⟨rfl, chk_ne hc⟩⟩

theorem nums_none (w : World) (A : Nat → Prop) : NumsIn w A (.slice none 0 0) [] := ⟨none, 0, rfl, fun _ => ⟨rfl, rfl, rfl⟩, fun k x hx => by simp [numCells] at hx⟩
theorem keep13 {w w' : World} {a0 a1 a2 a3 a4 a5 a6 a7 a8 a9 a10 a11 a12 : Addr} {v0 v1 v2 v3 v4 v5 v6 v7 v8 v9 v10 v11 v12 : Value} (h : w.cell? a0 = some v0 ∧ w.cell? a1 = some v1 ∧ w.cell? a2 = some v2 ∧ w.cell? a3 = some v3 ∧ w.cell? a4 = some v4 ∧ w.cell? a5 = some v5 ∧ w.cell? a6 = some v6 ∧ w.cell? a7 = some v7 ∧ w.cell? a8 = some v8 ∧ w.cell? a9 = some v9 ∧ w.cell? a10 = some v10 ∧ w.cell? a11 = some v11 ∧ w.cell? a12 = some v12) (hb : Below w.heap.size w w') : w'.cell? a0 = some v0 ∧ w'.cell? a1 = some v1 ∧ w'.cell? a2 = some v2 ∧ w'.cell? a3 = some v3 ∧ w'.cell? a4 = some v4 ∧ w'.cell? a5 = some v5 ∧ w'.cell? a6 = some v6 ∧ w'.cell? a7 = some v7 ∧ w'.cell? a8 = some v8 ∧ w'.cell? a9 = some v9 ∧ w'.cell? a10 = some v10 ∧ w'.cell? a11 = some v11 ∧ w'.cell? a12 = some v12 := by
  obtain ⟨h0, h1, h2, h3, h4, h5, h6, h7, h8, h9, h10, h11, h12⟩ := h
  exact ⟨(hb.cell (lt_of_cell h0)).trans h0, (hb.cell (lt_of_cell h1)).trans h1, (hb.cell (lt_of_cell h2)).trans h2, (hb.cell (lt_of_cell h3)).trans h3, (hb.cell (lt_of_cell h4)).trans h4, (hb.cell (lt_of_cell h5)).trans h5, (hb.cell (lt_of_cell h6)).trans h6, (hb.cell (lt_of_cell h7)).trans h7, (hb.cell (lt_of_cell h8)).trans h8, (hb.cell (lt_of_cell h9)).trans h9, (hb.cell (lt_of_cell h10)).trans h10, (hb.cell (lt_of_cell h11)).trans h11, (hb.cell (lt_of_cell h12)).trans h12⟩
/-- told, at what was made or checked and what the document says of it -/
theorem told5_any {A : Nat → Prop} {o : Option (Int × ByteArray × Int)} {w0 w : World} {er lv : Value} {n k : Int} {s : ByteArray} (hV : Env w0 w) (he : ErrAs A w er o) (hrel : TellRel o n s k) (hl : Steps w w.heap.size lv [(s, k)]) :
    Calls Tryd.prog 14 #[er, .int .i64 n, lv] w fun e w' => e = .returned (.bool true) ∧ Below w.heap.size w w' := by
  rcases hrel with ⟨rfl, rfl⟩ | ⟨rfl, hn⟩
  · have he' : er = .nilIface := he
    subst he'
    exact told5_none lv w
  · exact told5_one er lv n s k w w (hV.at he) hl hn

set_option maxRecDepth 100000 in
set_option maxHeartbeats 16000000 in
theorem ctells_true (v : Value) (l : List Op4) (group digest need : Int) (g d : Int) (u : Value) (S : List Int) (w : World) (hv : Ops4In w (· < w.heap.size) v l) (hll : l.length ≤ maxLen) (hok : ∀ y ∈ l, Op4Ok y) (f2 : fits digest) (f4 : fits d) (hu : NumsIn w (· < w.heap.size) u S) (hul : S.length ≤ maxLen) (hg : ET w) (ht : PT w) :
    Calls Tryd.prog 3 #[v, .int .i64 group, .int .i64 digest, .int .i64 need, .agg #[.int .i64 g, .int .i64 d, u]] w fun e w' => e = .returned (.bool true) ∧ Below w.heap.size w w' := by
  have HV0 : Hid (Env w w) := ⟨Below.refl _ _, hg, ht⟩
  have HH := hideIt (fun (w' : World) (h : Env w w') => head05_true w' h.et h.pt)
  have HY := hideIt hv
  have HU := hideIt hu
  have HLL := hideIt hll
  have HUL := hideIt hul
  have HF := hideIt (And.intro f4 f2)
  have HK := hideIt hok
  obtain ⟨a, cap, rfl⟩ := hu.form
  unfold maxLen at hul
  clear hg ht hv f4 f2 hok hu hll
  go_enter Tryd.func3, Tryd.ntmps3
  go_wp2_with fail
  obtain ⟨W, hW, hwb, hws, c0, c1, c2, _, _, _⟩ := room_new w 25 (.int .i64 g) (.int .i64 d) (.slice a S.length cap)
  rw [← hW]
  have HVW := hideIt (HV0.out.next hwb)
  have HE : Hid (Env W W) := ⟨Below.refl _ _, HVW.out.et, HVW.out.pt⟩
  have HWB := hideIt hwb
  have HUW : Hid (NumsIn W (· < W.heap.size) (.slice a S.length cap) S) := RowIn.mono (A' := (· < W.heap.size)) (RowIn.kept HU.out (Kept.of_all hwb)) (fun _ _ h => h)
  have HYW := hideIt (Ops4In.mono (A' := (· < W.heap.size)) (HY.out.kept (Kept.of_all hwb)) (fun _ _ h => h))
  clear hW hwb HV0 HU HY
  refine (HH.out W HVW.out).mono ?_
  rintro e w1 ⟨rfl, hb1⟩
  have HV1 := hideIt (HE.out.next hb1)
  clear hb1 HH HVW hws HE
  go_wp2_with fail
  refine (signed_any v l w1 (Ops4In.mono (HYW.out.kept (Kept.of_all HV1.out.1)) (fun _ _ h => h)) HLL.out HK.out).mono ?_
  obtain ⟨L, hL⟩ : ∃ L, sealedTo [] l (min l.length 200) = L := ⟨_, rfl⟩
  have hL2 : L.length ≤ 131072 := by have := sealedTo_le [] l (min l.length 200); rw [hL] at this; simp at this; omega
  have HL2 := hideIt hL2
  rw [hL]
  clear hL hL2
  rintro e w2 ⟨p, q, rfl, C, O, O2, hs, hds, -, -, -, -, hb⟩
  have HD2 := hideIt hds
  have HV2 := hideIt (HV1.out.next hb)
  have HS2 := hideIt hs
  have e0 := (HV2.out.1.cell (lt_of_cell c0)).trans c0
  have e1 := (HV2.out.1.cell (lt_of_cell c1)).trans c1
  have e2 := (HV2.out.1.cell (lt_of_cell c2)).trans c2
  clear hs hds hb HV1 HYW
  by_cases h200 : (200 : Int) < (S.length : Int)
  · go_wp2
    go_ret
    exact ⟨rfl, HWB.out.trans (HV2.out.1.mono HWB.out.size)⟩
  · have HOK := hideIt HS2.out.ok
    have HNO : Hid (∀ d, ((-1 : Int), d) ∉ L) := hideIt (fun d => none_signed HOK.out (by decide))
    obtain ⟨M, hM⟩ : ∃ M, (whoTo L group digest 10).length = M := ⟨_, rfl⟩
    have hM10 : M ≤ 10 := by rw [← hM]; exact whoTo_le _ _ _ _
    have HM := hideIt hM
    clear hM
    by_cases hmk : 1 ≤ need ∧ need ≤ (M : Int)
    · obtain ⟨N, rfl⟩ : ∃ N : Nat, need = N := ⟨need.toNat, by omega⟩
      have hN1 : 1 ≤ N := by omega
      have hN2 : N ≤ M := by omega
      have HN12 : Hid (1 ≤ N ∧ N ≤ (whoTo L group digest 10).length) := hideIt ⟨hN1, by rw [HM.out]; exact hN2⟩
      have HMK := hideIt (cMake_ok w2 p O L group digest N HS2.out HF.out.2 HN12.out.1 HN12.out.2)
      have HTL : Hid (((whoTo L group digest 10).take N).length ≤ 1000000) := hideIt (by rw [List.length_take, HM.out]; omega)
      clear hmk
      go_wp2_with fail
      refine HMK.out.mono ?_
      rintro e w3 ⟨ax, capx, rfl, hn3, hb3⟩
      have HV3 := hideIt (HV2.out.next hb3)
      have HS3 := hideIt (HS2.out.kept (Kept.of_all hb3))
      have HD3 := hideIt (HD2.out.kept (Kept.of_all hb3))
      have HN3 : Hid (NumsIn w3 _ _ ((whoTo L group digest 10).take N)) := hideIt hn3
      have d0 := (hb3.cell (lt_of_cell e0)).trans e0
      have d1 := (hb3.cell (lt_of_cell e1)).trans e1
      have d2 := (hb3.cell (lt_of_cell e2)).trans e2
      clear hn3 hb3 HMK HS2 HV2 HD2 e0 e1 e2
      go_wp2_with fail
      obtain ⟨W4, hW4, hwb4, hws4, r0, r1, r2, _, _, _⟩ := room_new w3 25 (.int .i64 group) (.int .i64 digest) (.slice ax N capx)
      rw [← hW4]
      have HV4 := hideIt (HV3.out.next hwb4)
      have HS4 := hideIt (HS3.out.kept (Kept.of_all hwb4))
      have HD4 := hideIt (HD3.out.kept (Kept.of_all hwb4))
      have HN4 : Hid (NumsIn W4 _ (.slice ax N capx) ((whoTo L group digest 10).take N)) := RowIn.kept HN3.out (Kept.of_all hwb4)
      have e0 := (hwb4.cell (lt_of_cell d0)).trans d0
      have e1 := (hwb4.cell (lt_of_cell d1)).trans d1
      have e2 := (hwb4.cell (lt_of_cell d2)).trans d2
      clear hW4 hwb4 hws4 d0 d1 d2 HV3 HS3 HN3 HD3
      refine (dcMake_ok W4 q O2 L group digest N HD4.out HL2.out HNO.out HN12.out.1 HN12.out.2).mono ?_
      rintro e w5 ⟨ay, capy, rfl, hy5, hb5⟩
      obtain ⟨W6, hW6, hwb6, hws6, y0, y1, y2, _, _, _⟩ := room_new w5 25 (.int .i64 group) (.int .i64 digest) (.slice ay N capy)
      obtain ⟨W7, hW7, hwb7, hws7, a0, a1, _, _⟩ := room2_new W6 37 (.string ⟨#[]⟩) (.int .i64 0)
      have hb7 : Below W4.heap.size W4 W7 := (hb5.trans (hwb6.mono hb5.size)).trans (hwb7.mono (hb5.trans (hwb6.mono hb5.size)).size)
      have hb57 : Below w5.heap.size w5 W7 := hwb6.trans (hwb7.mono hwb6.size)
      rw [hws6] at a0 a1
      replace y0 := (hwb7.cell (lt_of_cell y0)).trans y0
      replace y1 := (hwb7.cell (lt_of_cell y1)).trans y1
      replace y2 := (hwb7.cell (lt_of_cell y2)).trans y2
      have x0 := (hb7.cell (lt_of_cell r0)).trans r0
      have x1 := (hb7.cell (lt_of_cell r1)).trans r1
      have x2 := (hb7.cell (lt_of_cell r2)).trans r2
      have c0' := (hb7.cell (lt_of_cell e0)).trans e0
      have c1' := (hb7.cell (lt_of_cell e1)).trans e1
      have c2' := (hb7.cell (lt_of_cell e2)).trans e2
      have HV7 := hideIt (HV4.out.next hb7)
      have HS7 := hideIt (HS4.out.kept (Kept.of_all hb7))
      have HD7 := hideIt (HD4.out.kept (Kept.of_all hb7))
      have HX7 : Hid (NumsIn W7 _ (.slice ax N capx) ((whoTo L group digest 10).take N)) := RowIn.kept HN4.out (Kept.of_all hb7)
      have HY7 : Hid (NumsIn W7 _ (.slice ay N capy) ((whoTo L group digest 10).take N)) := RowIn.kept hy5 (Kept.of_all hb57)
      clear hy5 hb5 hb7 hb57 hwb6 hwb7 hws6 hws7 r0 r1 r2 e0 e1 e2 HV4 HS4 HD4 HN4
      subst hW7 hW6
      go_wp2_with fail
      generalize ((w5.alloc (.cells #[.int .i64 group, .int .i64 digest, .slice ay N capy] 25)).alloc (.cells #[.string ⟨#[]⟩, .int .i64 0] 37)) = w7 at y0 y1 y2 x0 x1 x2 a0 a1 c0' c1' c2' HV7 HS7 HD7 HX7 HY7 ⊢
      have HO7 : Hid (ErrAs (fun _ => True) w7 .nilIface none) := hideIt rfl
      have HREL1 : Hid (TellRel none 0 ⟨#[]⟩ 0) := hideIt (Or.inl ⟨rfl, rfl⟩)
      refine (dcCheck_any w7 q O2 _ L g d _ S (N : Int) HD7.out HL2.out (RowIn.kept HUW.out (Kept.of_below HV7.out.1 (fun _ h _ => h))) HUL.out).mono ?_
      rintro e w8 ⟨he8, hb8⟩
      obtain ⟨n, s, k, rfl, hrel⟩ := told3_form he8
      have HREL := hideIt hrel
      obtain ⟨W9, hW9, hwb9, hws9, b0, b1, _, _⟩ := room2_new w8 37 (.string s) (.int .i64 k)
      have hb9 : Below w7.heap.size w7 W9 := hb8.trans (hwb9.mono hb8.size)
      have z0 := (hb9.cell (lt_of_cell x0)).trans x0
      have z1 := (hb9.cell (lt_of_cell x1)).trans x1
      have z2 := (hb9.cell (lt_of_cell x2)).trans x2
      have u0 := (hb9.cell (lt_of_cell y0)).trans y0
      have u1 := (hb9.cell (lt_of_cell y1)).trans y1
      have u2 := (hb9.cell (lt_of_cell y2)).trans y2
      replace x0 := (hb8.cell (lt_of_cell x0)).trans x0
      replace x1 := (hb8.cell (lt_of_cell x1)).trans x1
      replace x2 := (hb8.cell (lt_of_cell x2)).trans x2
      replace y0 := (hb8.cell (lt_of_cell y0)).trans y0
      replace y1 := (hb8.cell (lt_of_cell y1)).trans y1
      replace y2 := (hb8.cell (lt_of_cell y2)).trans y2
      replace a0 := (hb9.cell (lt_of_cell a0)).trans a0
      replace a1 := (hb9.cell (lt_of_cell a1)).trans a1
      replace c0' := (hb9.cell (lt_of_cell c0')).trans c0'
      replace c1' := (hb9.cell (lt_of_cell c1')).trans c1'
      replace c2' := (hb9.cell (lt_of_cell c2')).trans c2'
      have HV9 := hideIt (HV7.out.next hb9)
      have HS9 := hideIt (HS7.out.kept (Kept.of_all hb9))
      have HX9 := hideIt (RowIn.kept HX7.out (Kept.of_all hb9))
      have HY9 := hideIt (RowIn.kept HY7.out (Kept.of_all hb9))
      have HO9 := hideIt (ErrAs.kept HO7.out (Kept.of_all hb9))
      clear he8 hb8 hrel hwb9 hws9 hb9 HV7 HS7 HD7 HX7 HY7 HO7 x0 x1 x2 y0 y1 y2
      subst hW9
      go_wp2_with fail
      generalize (w8.alloc (.cells #[.string s, .int .i64 k] 37)) = w9 at z0 z1 z2 u0 u1 u2 a0 a1 b0 b1 c0' c1' c2' HV9 HS9 HX9 HY9 HO9 ⊢
      generalize w3.heap.size = bx at z0 z1 z2 ⊢
      generalize w5.heap.size + 1 = ba at a0 a1 ⊢
      generalize w5.heap.size = bY at u0 u1 u2 ⊢
      generalize w8.heap.size = bt at b0 b1 ⊢
      have HK9 : Hid (w9.cell? ⟨bx, 0, none⟩ = some (.int .i64 group) ∧ w9.cell? ⟨bx, 1, none⟩ = some (.int .i64 digest) ∧ w9.cell? ⟨bx, 2, none⟩ = some (.slice ax N capx) ∧ w9.cell? ⟨bY, 0, none⟩ = some (.int .i64 group) ∧ w9.cell? ⟨bY, 1, none⟩ = some (.int .i64 digest) ∧ w9.cell? ⟨bY, 2, none⟩ = some (.slice ay N capy) ∧ w9.cell? ⟨ba, 0, none⟩ = some (.string ⟨#[]⟩) ∧ w9.cell? ⟨ba, 1, none⟩ = some (.int .i64 0) ∧ w9.cell? ⟨bt, 0, none⟩ = some (.string s) ∧ w9.cell? ⟨bt, 1, none⟩ = some (.int .i64 k) ∧ w9.cell? ⟨w.heap.size, 0, none⟩ = some (.int .i64 g) ∧ w9.cell? ⟨w.heap.size, 1, none⟩ = some (.int .i64 d) ∧ w9.cell? ⟨w.heap.size, 2, none⟩ = some (.slice a S.length cap)) := hideIt ⟨z0, z1, z2, u0, u1, u2, a0, a1, b0, b1, c0', c1', c2'⟩
      go_region_held3 (fun w' => w'.cell? ⟨bx, 0, none⟩ = some (.int .i64 group) ∧ w'.cell? ⟨bx, 1, none⟩ = some (.int .i64 digest) ∧ w'.cell? ⟨bx, 2, none⟩ = some (.slice ax N capx) ∧ w'.cell? ⟨bY, 0, none⟩ = some (.int .i64 group) ∧ w'.cell? ⟨bY, 1, none⟩ = some (.int .i64 digest) ∧ w'.cell? ⟨bY, 2, none⟩ = some (.slice ay N capy) ∧ w'.cell? ⟨ba, 0, none⟩ = some (.string ⟨#[]⟩) ∧ w'.cell? ⟨ba, 1, none⟩ = some (.int .i64 0) ∧ w'.cell? ⟨bt, 0, none⟩ = some (.string s) ∧ w'.cell? ⟨bt, 1, none⟩ = some (.int .i64 k) ∧ w'.cell? ⟨w.heap.size, 0, none⟩ = some (.int .i64 g) ∧ w'.cell? ⟨w.heap.size, 1, none⟩ = some (.int .i64 d) ∧ w'.cell? ⟨w.heap.size, 2, none⟩ = some (.slice a S.length cap)) (first | exact ⟨z0, z1, z2, u0, u1, u2, a0, a1, b0, b1, c0', c1', c2'⟩ | exact HKP.out | exact HKQ.out | exact HKR.out | exact HKT.out | go_keep)
        (first
        | (go_at_call 13; refine (dcSame_true _ _ _ _ _ _ ((whoTo L group digest 10).take N) _ (RowIn.kept HX9.out (Kept.of_all (below_drew w9))) (RowIn.kept HY9.out (Kept.of_all (below_drew w9))) HTL.out).mono ?_; rintro e wP ⟨rfl, hbP⟩; have HBP : Hid (Below w9.heap.size w9 wP) := (below_drew w9).trans hbP; have HKP : Hid (wP.cell? ⟨bx, 0, none⟩ = some (.int .i64 group) ∧ wP.cell? ⟨bx, 1, none⟩ = some (.int .i64 digest) ∧ wP.cell? ⟨bx, 2, none⟩ = some (.slice ax N capx) ∧ wP.cell? ⟨bY, 0, none⟩ = some (.int .i64 group) ∧ wP.cell? ⟨bY, 1, none⟩ = some (.int .i64 digest) ∧ wP.cell? ⟨bY, 2, none⟩ = some (.slice ay N capy) ∧ wP.cell? ⟨ba, 0, none⟩ = some (.string ⟨#[]⟩) ∧ wP.cell? ⟨ba, 1, none⟩ = some (.int .i64 0) ∧ wP.cell? ⟨bt, 0, none⟩ = some (.string s) ∧ wP.cell? ⟨bt, 1, none⟩ = some (.int .i64 k) ∧ wP.cell? ⟨w.heap.size, 0, none⟩ = some (.int .i64 g) ∧ wP.cell? ⟨w.heap.size, 1, none⟩ = some (.int .i64 d) ∧ wP.cell? ⟨w.heap.size, 2, none⟩ = some (.slice a S.length cap)) := keep13 HK9.out HBP.out; clear hbP)
        | (go_at_call 15; refine (cCheck_any _ p O _ L g d _ S (N : Int) (by first | exact HSQ.out | exact HSQ.out.kept (Kept.of_all ((Below.refl _ _).alloc (Nat.le_refl _) _))) (by first | exact HUQ.out | exact RowIn.kept HUQ.out (Kept.of_all ((Below.refl _ _).alloc (Nat.le_refl _) _))) HF.out.1 HUL.out).mono ?_; rintro e wR ⟨er, rfl, heR, hbR⟩; have HBR : Hid (Below wQ.heap.size wQ wR) := (by first | exact hbR | exact ((Below.refl _ _).alloc (Nat.le_refl _) _).trans (hbR.mono (by simp))); have HKR : Hid (wR.cell? ⟨bx, 0, none⟩ = some (.int .i64 group) ∧ wR.cell? ⟨bx, 1, none⟩ = some (.int .i64 digest) ∧ wR.cell? ⟨bx, 2, none⟩ = some (.slice ax N capx) ∧ wR.cell? ⟨bY, 0, none⟩ = some (.int .i64 group) ∧ wR.cell? ⟨bY, 1, none⟩ = some (.int .i64 digest) ∧ wR.cell? ⟨bY, 2, none⟩ = some (.slice ay N capy) ∧ wR.cell? ⟨ba, 0, none⟩ = some (.string ⟨#[]⟩) ∧ wR.cell? ⟨ba, 1, none⟩ = some (.int .i64 0) ∧ wR.cell? ⟨bt, 0, none⟩ = some (.string s) ∧ wR.cell? ⟨bt, 1, none⟩ = some (.int .i64 k) ∧ wR.cell? ⟨w.heap.size, 0, none⟩ = some (.int .i64 g) ∧ wR.cell? ⟨w.heap.size, 1, none⟩ = some (.int .i64 d) ∧ wR.cell? ⟨w.heap.size, 2, none⟩ = some (.slice a S.length cap)) := keep13 HKQ.out HBR.out; have HER := hideIt heR; have HBRR := hideIt hbR; clear heR hbR)
        | (go_at_call 14; have hER := HER.out; refine (told5_any (w0 := W) (by first | exact HVQ.out.next HBR.out | exact (HVQ.out.next HBR.out).next ((Below.refl _ _).alloc (Nat.le_refl _) _)) (by first | exact hER | exact ErrAs.kept hER (Kept.of_all ((Below.refl _ _).alloc (Nat.le_refl _) _))) HREL.out (by first | (have h1 := lit_steps wR s k; simpa using h1) | (have h1 := (lit_steps wQ s k).kept (HBRR.out.mono (by simp)); exact h1.up (by have := HBRR.out.size; simp at this; omega)))).mono ?_; rintro e wT ⟨rfl, hbT⟩; have HBT : Hid (Below wR.heap.size wR wT) := (by first | exact hbT | exact ((Below.refl _ _).alloc (Nat.le_refl _) _).trans (hbT.mono (by simp))); have HKT : Hid (wT.cell? ⟨bx, 0, none⟩ = some (.int .i64 group) ∧ wT.cell? ⟨bx, 1, none⟩ = some (.int .i64 digest) ∧ wT.cell? ⟨bx, 2, none⟩ = some (.slice ax N capx) ∧ wT.cell? ⟨bY, 0, none⟩ = some (.int .i64 group) ∧ wT.cell? ⟨bY, 1, none⟩ = some (.int .i64 digest) ∧ wT.cell? ⟨bY, 2, none⟩ = some (.slice ay N capy) ∧ wT.cell? ⟨ba, 0, none⟩ = some (.string ⟨#[]⟩) ∧ wT.cell? ⟨ba, 1, none⟩ = some (.int .i64 0) ∧ wT.cell? ⟨bt, 0, none⟩ = some (.string s) ∧ wT.cell? ⟨bt, 1, none⟩ = some (.int .i64 k) ∧ wT.cell? ⟨w.heap.size, 0, none⟩ = some (.int .i64 g) ∧ wT.cell? ⟨w.heap.size, 1, none⟩ = some (.int .i64 d) ∧ wT.cell? ⟨w.heap.size, 2, none⟩ = some (.slice a S.length cap)) := keep13 HKR.out HBT.out; clear hbT hER)
        | (go_at_call 14; refine (told5_any (w0 := W) ((HV9.out.next HBP.out).next ((Below.refl _ _).alloc (Nat.le_refl _) _)) (ErrAs.kept HO9.out (Kept.of_all (HBP.out.trans (((Below.refl _ _).alloc (Nat.le_refl _) _).mono HBP.out.size)))) HREL1.out (by have h1 := lit_steps wP ⟨#[]⟩ 0; simpa using h1)).mono ?_; rintro e wQ ⟨rfl, hbQ⟩; have HBQ : Hid (Below wP.heap.size wP wQ) := ((Below.refl _ _).alloc (Nat.le_refl _) _).trans (hbQ.mono (by simp)); have HKQ : Hid (wQ.cell? ⟨bx, 0, none⟩ = some (.int .i64 group) ∧ wQ.cell? ⟨bx, 1, none⟩ = some (.int .i64 digest) ∧ wQ.cell? ⟨bx, 2, none⟩ = some (.slice ax N capx) ∧ wQ.cell? ⟨bY, 0, none⟩ = some (.int .i64 group) ∧ wQ.cell? ⟨bY, 1, none⟩ = some (.int .i64 digest) ∧ wQ.cell? ⟨bY, 2, none⟩ = some (.slice ay N capy) ∧ wQ.cell? ⟨ba, 0, none⟩ = some (.string ⟨#[]⟩) ∧ wQ.cell? ⟨ba, 1, none⟩ = some (.int .i64 0) ∧ wQ.cell? ⟨bt, 0, none⟩ = some (.string s) ∧ wQ.cell? ⟨bt, 1, none⟩ = some (.int .i64 k) ∧ wQ.cell? ⟨w.heap.size, 0, none⟩ = some (.int .i64 g) ∧ wQ.cell? ⟨w.heap.size, 1, none⟩ = some (.int .i64 d) ∧ wQ.cell? ⟨w.heap.size, 2, none⟩ = some (.slice a S.length cap)) := keep13 HKP.out HBQ.out; have hb9Q : Below w9.heap.size w9 wQ := HBP.out.trans (HBQ.out.mono HBP.out.size); have HVQ := hideIt (HV9.out.next hb9Q); have HSQ := hideIt (HS9.out.kept (Kept.of_all hb9Q)); have HUQ := hideIt (RowIn.kept HUW.out (Kept.of_below HVQ.out.1 (fun _ h _ => h))); clear hbQ hb9Q))
      all_goals
        have HVT := hideIt ((HVQ.out.next HBR.out).next HBT.out)
        go_wp2
        go_ret
        exact ⟨rfl, HWB.out.trans (HVT.out.1.mono HWB.out.size)⟩
    · have HFEW : Hid (need < 1 ∨ ((whoTo L group digest 10).length : Int) < need) := hideIt (by rw [HM.out]; omega)
      have HMK := hideIt (cMake_few w2 p O L group digest need HS2.out HF.out.2 HFEW.out)
      have HTL : Hid (([] : List Int).length ≤ 1000000) := hideIt (by simp)
      rw [HM.out] at HMK
      clear hmk
      go_wp2_with fail
      refine HMK.out.mono ?_
      rintro e w3 ⟨er1, rfl, ho, hb3⟩
      have HV3 := hideIt (HV2.out.next hb3)
      have HS3 := hideIt (HS2.out.kept (Kept.of_all hb3))
      have HD3 := hideIt (HD2.out.kept (Kept.of_all hb3))
      have HO3 := hideIt ho
      have d0 := (hb3.cell (lt_of_cell e0)).trans e0
      have d1 := (hb3.cell (lt_of_cell e1)).trans e1
      have d2 := (hb3.cell (lt_of_cell e2)).trans e2
      obtain ⟨ty1, y1', rfl⟩ := ho.iface
      clear ho hb3 HMK HS2 HV2 HD2 e0 e1 e2
      go_wp2_with fail
      obtain ⟨W4, hW4, hwb4, hws4, r0, r1, r2, _, _, _⟩ := room_new w3 25 (.int .i64 0) (.int .i64 0) (.slice none 0 0)
      rw [← hW4]
      have HV4 := hideIt (HV3.out.next hwb4)
      have HS4 := hideIt (HS3.out.kept (Kept.of_all hwb4))
      have HD4 := hideIt (HD3.out.kept (Kept.of_all hwb4))
      have HO4 := hideIt (One.kept HO3.out (Kept.of_all hwb4))
      have e0 := (hwb4.cell (lt_of_cell d0)).trans d0
      have e1 := (hwb4.cell (lt_of_cell d1)).trans d1
      have e2 := (hwb4.cell (lt_of_cell d2)).trans d2
      clear hW4 hwb4 hws4 d0 d1 d2 HV3 HS3 HO3 HD3
      refine (dcMake_few W4 q O2 L group digest need HD4.out HL2.out HNO.out HFEW.out).mono ?_
      rw [HM.out]
      rintro e w5 ⟨rfl, hb5⟩
      obtain ⟨W6, hW6, hwb6, hws6, y0, y1, y2, _, _, _⟩ := room_new w5 25 (.int .i64 0) (.int .i64 0) (.slice none 0 0)
      obtain ⟨W7, hW7, hwb7, hws7, a0, a1, _, _⟩ := room2_new W6 37 (.string ⟨#[109, 97, 107, 101]⟩) (.int .i64 (M : Int))
      have hb7 : Below W4.heap.size W4 W7 := (hb5.trans (hwb6.mono hb5.size)).trans (hwb7.mono (hb5.trans (hwb6.mono hb5.size)).size)
      rw [hws6] at a0 a1
      replace y0 := (hwb7.cell (lt_of_cell y0)).trans y0
      replace y1 := (hwb7.cell (lt_of_cell y1)).trans y1
      replace y2 := (hwb7.cell (lt_of_cell y2)).trans y2
      have x0 := (hb7.cell (lt_of_cell r0)).trans r0
      have x1 := (hb7.cell (lt_of_cell r1)).trans r1
      have x2 := (hb7.cell (lt_of_cell r2)).trans r2
      have c0' := (hb7.cell (lt_of_cell e0)).trans e0
      have c1' := (hb7.cell (lt_of_cell e1)).trans e1
      have c2' := (hb7.cell (lt_of_cell e2)).trans e2
      have HV7 := hideIt (HV4.out.next hb7)
      have HS7 := hideIt (HS4.out.kept (Kept.of_all hb7))
      have HD7 := hideIt (HD4.out.kept (Kept.of_all hb7))
      have HO7 : Hid (ErrAs (fun x => w2.heap.size ≤ x) W7 (.iface ty1 y1') (some (51, ⟨#[109, 97, 107, 101]⟩, (M : Int)))) := hideIt (One.kept HO4.out (Kept.of_all hb7))
      clear hb5 hb7 hwb6 hwb7 hws6 hws7 r0 r1 r2 e0 e1 e2 HV4 HS4 HD4 HO4
      subst hW7 hW6
      go_wp2_with fail
      generalize ((w5.alloc (.cells #[.int .i64 0, .int .i64 0, .slice none 0 0] 25)).alloc (.cells #[.string ⟨#[109, 97, 107, 101]⟩, .int .i64 (M : Int)] 37)) = w7 at y0 y1 y2 x0 x1 x2 a0 a1 c0' c1' c2' HV7 HS7 HD7 HO7 ⊢
      have HX7 : Hid (NumsIn w7 (fun _ => True) (.slice none 0 0) []) := nums_none _ _
      have HY7 : Hid (NumsIn w7 (fun _ => True) (.slice none 0 0) []) := nums_none _ _
      have HREL1 : Hid (TellRel (some (51, ⟨#[109, 97, 107, 101]⟩, (M : Int))) 51 ⟨#[109, 97, 107, 101]⟩ (M : Int)) := hideIt (Or.inr ⟨rfl, rfl⟩)
      refine (dcCheck_any w7 q O2 _ L g d _ S need HD7.out HL2.out (RowIn.kept HUW.out (Kept.of_below HV7.out.1 (fun _ h _ => h))) HUL.out).mono ?_
      rintro e w8 ⟨he8, hb8⟩
      obtain ⟨n, s, k, rfl, hrel⟩ := told3_form he8
      have HREL := hideIt hrel
      obtain ⟨W9, hW9, hwb9, hws9, b0, b1, _, _⟩ := room2_new w8 37 (.string s) (.int .i64 k)
      have hb9 : Below w7.heap.size w7 W9 := hb8.trans (hwb9.mono hb8.size)
      have z0 := (hb9.cell (lt_of_cell x0)).trans x0
      have z1 := (hb9.cell (lt_of_cell x1)).trans x1
      have z2 := (hb9.cell (lt_of_cell x2)).trans x2
      have u0 := (hb9.cell (lt_of_cell y0)).trans y0
      have u1 := (hb9.cell (lt_of_cell y1)).trans y1
      have u2 := (hb9.cell (lt_of_cell y2)).trans y2
      replace x0 := (hb8.cell (lt_of_cell x0)).trans x0
      replace x1 := (hb8.cell (lt_of_cell x1)).trans x1
      replace x2 := (hb8.cell (lt_of_cell x2)).trans x2
      replace y0 := (hb8.cell (lt_of_cell y0)).trans y0
      replace y1 := (hb8.cell (lt_of_cell y1)).trans y1
      replace y2 := (hb8.cell (lt_of_cell y2)).trans y2
      replace a0 := (hb9.cell (lt_of_cell a0)).trans a0
      replace a1 := (hb9.cell (lt_of_cell a1)).trans a1
      replace c0' := (hb9.cell (lt_of_cell c0')).trans c0'
      replace c1' := (hb9.cell (lt_of_cell c1')).trans c1'
      replace c2' := (hb9.cell (lt_of_cell c2')).trans c2'
      have HV9 := hideIt (HV7.out.next hb9)
      have HS9 := hideIt (HS7.out.kept (Kept.of_all hb9))
      have HX9 := hideIt (RowIn.kept HX7.out (Kept.of_all hb9))
      have HY9 := hideIt (RowIn.kept HY7.out (Kept.of_all hb9))
      have HO9 := hideIt (ErrAs.kept HO7.out (Kept.of_all hb9))
      clear he8 hb8 hrel hwb9 hws9 hb9 HV7 HS7 HD7 HX7 HY7 HO7 x0 x1 x2 y0 y1 y2
      subst hW9
      go_wp2_with fail
      generalize (w8.alloc (.cells #[.string s, .int .i64 k] 37)) = w9 at z0 z1 z2 u0 u1 u2 a0 a1 b0 b1 c0' c1' c2' HV9 HS9 HX9 HY9 HO9 ⊢
      generalize w3.heap.size = bx at z0 z1 z2 ⊢
      generalize w5.heap.size + 1 = ba at a0 a1 ⊢
      generalize w5.heap.size = bY at u0 u1 u2 ⊢
      generalize w8.heap.size = bt at b0 b1 ⊢
      have HK9 : Hid (w9.cell? ⟨bx, 0, none⟩ = some (.int .i64 0) ∧ w9.cell? ⟨bx, 1, none⟩ = some (.int .i64 0) ∧ w9.cell? ⟨bx, 2, none⟩ = some (.slice none 0 0) ∧ w9.cell? ⟨bY, 0, none⟩ = some (.int .i64 0) ∧ w9.cell? ⟨bY, 1, none⟩ = some (.int .i64 0) ∧ w9.cell? ⟨bY, 2, none⟩ = some (.slice none 0 0) ∧ w9.cell? ⟨ba, 0, none⟩ = some (.string ⟨#[109, 97, 107, 101]⟩) ∧ w9.cell? ⟨ba, 1, none⟩ = some (.int .i64 (M : Int)) ∧ w9.cell? ⟨bt, 0, none⟩ = some (.string s) ∧ w9.cell? ⟨bt, 1, none⟩ = some (.int .i64 k) ∧ w9.cell? ⟨w.heap.size, 0, none⟩ = some (.int .i64 g) ∧ w9.cell? ⟨w.heap.size, 1, none⟩ = some (.int .i64 d) ∧ w9.cell? ⟨w.heap.size, 2, none⟩ = some (.slice a S.length cap)) := hideIt ⟨z0, z1, z2, u0, u1, u2, a0, a1, b0, b1, c0', c1', c2'⟩
      go_region_held3 (fun w' => w'.cell? ⟨bx, 0, none⟩ = some (.int .i64 0) ∧ w'.cell? ⟨bx, 1, none⟩ = some (.int .i64 0) ∧ w'.cell? ⟨bx, 2, none⟩ = some (.slice none 0 0) ∧ w'.cell? ⟨bY, 0, none⟩ = some (.int .i64 0) ∧ w'.cell? ⟨bY, 1, none⟩ = some (.int .i64 0) ∧ w'.cell? ⟨bY, 2, none⟩ = some (.slice none 0 0) ∧ w'.cell? ⟨ba, 0, none⟩ = some (.string ⟨#[109, 97, 107, 101]⟩) ∧ w'.cell? ⟨ba, 1, none⟩ = some (.int .i64 (M : Int)) ∧ w'.cell? ⟨bt, 0, none⟩ = some (.string s) ∧ w'.cell? ⟨bt, 1, none⟩ = some (.int .i64 k) ∧ w'.cell? ⟨w.heap.size, 0, none⟩ = some (.int .i64 g) ∧ w'.cell? ⟨w.heap.size, 1, none⟩ = some (.int .i64 d) ∧ w'.cell? ⟨w.heap.size, 2, none⟩ = some (.slice a S.length cap)) (first | exact ⟨z0, z1, z2, u0, u1, u2, a0, a1, b0, b1, c0', c1', c2'⟩ | exact HKP.out | exact HKQ.out | exact HKR.out | exact HKT.out | go_keep)
        (first
        | (go_at_call 13; refine (dcSame_true _ _ _ _ _ _ [] _ (RowIn.kept HX9.out (Kept.of_all (below_drew w9))) (RowIn.kept HY9.out (Kept.of_all (below_drew w9))) HTL.out).mono ?_; rintro e wP ⟨rfl, hbP⟩; have HBP : Hid (Below w9.heap.size w9 wP) := (below_drew w9).trans hbP; have HKP : Hid (wP.cell? ⟨bx, 0, none⟩ = some (.int .i64 0) ∧ wP.cell? ⟨bx, 1, none⟩ = some (.int .i64 0) ∧ wP.cell? ⟨bx, 2, none⟩ = some (.slice none 0 0) ∧ wP.cell? ⟨bY, 0, none⟩ = some (.int .i64 0) ∧ wP.cell? ⟨bY, 1, none⟩ = some (.int .i64 0) ∧ wP.cell? ⟨bY, 2, none⟩ = some (.slice none 0 0) ∧ wP.cell? ⟨ba, 0, none⟩ = some (.string ⟨#[109, 97, 107, 101]⟩) ∧ wP.cell? ⟨ba, 1, none⟩ = some (.int .i64 (M : Int)) ∧ wP.cell? ⟨bt, 0, none⟩ = some (.string s) ∧ wP.cell? ⟨bt, 1, none⟩ = some (.int .i64 k) ∧ wP.cell? ⟨w.heap.size, 0, none⟩ = some (.int .i64 g) ∧ wP.cell? ⟨w.heap.size, 1, none⟩ = some (.int .i64 d) ∧ wP.cell? ⟨w.heap.size, 2, none⟩ = some (.slice a S.length cap)) := keep13 HK9.out HBP.out; clear hbP)
        | (go_at_call 15; refine (cCheck_any _ p O _ L g d _ S need (by first | exact HSQ.out | exact HSQ.out.kept (Kept.of_all ((Below.refl _ _).alloc (Nat.le_refl _) _))) (by first | exact HUQ.out | exact RowIn.kept HUQ.out (Kept.of_all ((Below.refl _ _).alloc (Nat.le_refl _) _))) HF.out.1 HUL.out).mono ?_; rintro e wR ⟨er, rfl, heR, hbR⟩; have HBR : Hid (Below wQ.heap.size wQ wR) := (by first | exact hbR | exact ((Below.refl _ _).alloc (Nat.le_refl _) _).trans (hbR.mono (by simp))); have HKR : Hid (wR.cell? ⟨bx, 0, none⟩ = some (.int .i64 0) ∧ wR.cell? ⟨bx, 1, none⟩ = some (.int .i64 0) ∧ wR.cell? ⟨bx, 2, none⟩ = some (.slice none 0 0) ∧ wR.cell? ⟨bY, 0, none⟩ = some (.int .i64 0) ∧ wR.cell? ⟨bY, 1, none⟩ = some (.int .i64 0) ∧ wR.cell? ⟨bY, 2, none⟩ = some (.slice none 0 0) ∧ wR.cell? ⟨ba, 0, none⟩ = some (.string ⟨#[109, 97, 107, 101]⟩) ∧ wR.cell? ⟨ba, 1, none⟩ = some (.int .i64 (M : Int)) ∧ wR.cell? ⟨bt, 0, none⟩ = some (.string s) ∧ wR.cell? ⟨bt, 1, none⟩ = some (.int .i64 k) ∧ wR.cell? ⟨w.heap.size, 0, none⟩ = some (.int .i64 g) ∧ wR.cell? ⟨w.heap.size, 1, none⟩ = some (.int .i64 d) ∧ wR.cell? ⟨w.heap.size, 2, none⟩ = some (.slice a S.length cap)) := keep13 HKQ.out HBR.out; have HER := hideIt heR; have HBRR := hideIt hbR; clear heR hbR)
        | (go_at_call 14; have hER := HER.out; refine (told5_any (w0 := W) (by first | exact HVQ.out.next HBR.out | exact (HVQ.out.next HBR.out).next ((Below.refl _ _).alloc (Nat.le_refl _) _)) (by first | exact hER | exact ErrAs.kept hER (Kept.of_all ((Below.refl _ _).alloc (Nat.le_refl _) _))) HREL.out (by first | (have h1 := lit_steps wR s k; simpa using h1) | (have h1 := (lit_steps wQ s k).kept (HBRR.out.mono (by simp)); exact h1.up (by have := HBRR.out.size; simp at this; omega)))).mono ?_; rintro e wT ⟨rfl, hbT⟩; have HBT : Hid (Below wR.heap.size wR wT) := (by first | exact hbT | exact ((Below.refl _ _).alloc (Nat.le_refl _) _).trans (hbT.mono (by simp))); have HKT : Hid (wT.cell? ⟨bx, 0, none⟩ = some (.int .i64 0) ∧ wT.cell? ⟨bx, 1, none⟩ = some (.int .i64 0) ∧ wT.cell? ⟨bx, 2, none⟩ = some (.slice none 0 0) ∧ wT.cell? ⟨bY, 0, none⟩ = some (.int .i64 0) ∧ wT.cell? ⟨bY, 1, none⟩ = some (.int .i64 0) ∧ wT.cell? ⟨bY, 2, none⟩ = some (.slice none 0 0) ∧ wT.cell? ⟨ba, 0, none⟩ = some (.string ⟨#[109, 97, 107, 101]⟩) ∧ wT.cell? ⟨ba, 1, none⟩ = some (.int .i64 (M : Int)) ∧ wT.cell? ⟨bt, 0, none⟩ = some (.string s) ∧ wT.cell? ⟨bt, 1, none⟩ = some (.int .i64 k) ∧ wT.cell? ⟨w.heap.size, 0, none⟩ = some (.int .i64 g) ∧ wT.cell? ⟨w.heap.size, 1, none⟩ = some (.int .i64 d) ∧ wT.cell? ⟨w.heap.size, 2, none⟩ = some (.slice a S.length cap)) := keep13 HKR.out HBT.out; clear hbT hER)
        | (go_at_call 14; refine (told5_any (w0 := W) ((HV9.out.next HBP.out).next ((Below.refl _ _).alloc (Nat.le_refl _) _)) (ErrAs.kept HO9.out (Kept.of_all (HBP.out.trans (((Below.refl _ _).alloc (Nat.le_refl _) _).mono HBP.out.size)))) HREL1.out (by have h1 := lit_steps wP ⟨#[109, 97, 107, 101]⟩ (M : Int); simpa using h1)).mono ?_; rintro e wQ ⟨rfl, hbQ⟩; have HBQ : Hid (Below wP.heap.size wP wQ) := ((Below.refl _ _).alloc (Nat.le_refl _) _).trans (hbQ.mono (by simp)); have HKQ : Hid (wQ.cell? ⟨bx, 0, none⟩ = some (.int .i64 0) ∧ wQ.cell? ⟨bx, 1, none⟩ = some (.int .i64 0) ∧ wQ.cell? ⟨bx, 2, none⟩ = some (.slice none 0 0) ∧ wQ.cell? ⟨bY, 0, none⟩ = some (.int .i64 0) ∧ wQ.cell? ⟨bY, 1, none⟩ = some (.int .i64 0) ∧ wQ.cell? ⟨bY, 2, none⟩ = some (.slice none 0 0) ∧ wQ.cell? ⟨ba, 0, none⟩ = some (.string ⟨#[109, 97, 107, 101]⟩) ∧ wQ.cell? ⟨ba, 1, none⟩ = some (.int .i64 (M : Int)) ∧ wQ.cell? ⟨bt, 0, none⟩ = some (.string s) ∧ wQ.cell? ⟨bt, 1, none⟩ = some (.int .i64 k) ∧ wQ.cell? ⟨w.heap.size, 0, none⟩ = some (.int .i64 g) ∧ wQ.cell? ⟨w.heap.size, 1, none⟩ = some (.int .i64 d) ∧ wQ.cell? ⟨w.heap.size, 2, none⟩ = some (.slice a S.length cap)) := keep13 HKP.out HBQ.out; have hb9Q : Below w9.heap.size w9 wQ := HBP.out.trans (HBQ.out.mono HBP.out.size); have HVQ := hideIt (HV9.out.next hb9Q); have HSQ := hideIt (HS9.out.kept (Kept.of_all hb9Q)); have HUQ := hideIt (RowIn.kept HUW.out (Kept.of_below HVQ.out.1 (fun _ h _ => h))); clear hbQ hb9Q))
      all_goals
        have HVT := hideIt ((HVQ.out.next HBR.out).next HBT.out)
        go_wp2
        go_ret
        exact ⟨rfl, HWB.out.trans (HVT.out.1.mono HWB.out.size)⟩
end Go.Proofs.YtpgahjnjkihmhaaDoor
