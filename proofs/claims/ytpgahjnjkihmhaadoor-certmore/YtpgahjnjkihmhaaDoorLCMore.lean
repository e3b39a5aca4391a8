/-
  What is proved here: the walk of cohortlaw05.CertMore, over this program.
-/
import Derived.Test.YtpgahjnjkihmhaaDoorCF
import Derived.Test.YtpgahjnjkihmhaaDoorStepN
import Derived.Deep.RegionWith
import Derived.Deep.RegionLaw
namespace Go.Proofs.YtpgahjnjkihmhaaDoor
open Go.RowKit Go.Extern.Stop Go.Stop Go.Extern

set_option maxRecDepth 100000 in
set_option maxHeartbeats 16000000 in
theorem cmore_true (v : Value) (l : List Op4) (g d : Int) (u : Value) (S : List Int) (need more : Int) (w : World) (hv : Ops4In w (· < w.heap.size) v l) (hll : l.length ≤ maxLen) (hok : ∀ y ∈ l, Op4Ok y) (f4 : fits d) (hu : NumsIn w (· < w.heap.size) u S) (hul : S.length ≤ maxLen) (f5 : fits more) (hg : ET w) (ht : PT w) :
    Calls Tryd.prog 6 #[v, .agg #[.int .i64 g, .int .i64 d, u], .int .i64 need, .int .i64 more] w fun e w' => e = .returned (.bool true) ∧ Below w.heap.size w w' := by
  have HV0 : Hid (Env w w) := ⟨Below.refl _ _, hg, ht⟩
  have HH := hideIt (fun (w' : World) (h : Env w w') => head05_true w' h.et h.pt)
  have HY := hideIt hv
  have HU := hideIt hu
  have HLL := hideIt hll
  have HUL := hideIt hul
  have HF := hideIt (And.intro f4 f5)
  have HK := hideIt hok
  obtain ⟨a, cap, rfl⟩ := hu.form
  unfold maxLen at hul
  clear hg ht hv f4 f5 hok hu hll
  go_enter Tryd.func6, Tryd.ntmps6
  go_wp2_with fail
  obtain ⟨W, hW, hwb, hws, c0, c1, c2, _, _, _⟩ := room_new w 25 (.int .i64 g) (.int .i64 d) (.slice a S.length cap)
  rw [← hW]
  have HVW := hideIt (HV0.out.next hwb)
  have HE : Hid (Env W W) := ⟨Below.refl _ _, HVW.out.et, HVW.out.pt⟩
  have HWB := hideIt hwb
  have HUW : Hid (NumsIn W (· < W.heap.size) (.slice a S.length cap) S) := RowIn.mono (A' := (· < W.heap.size)) (RowIn.kept HU.out (Kept.of_all hwb)) (fun _ _ h => h)
  have HYW := hideIt (Ops4In.mono (A' := (· < W.heap.size)) (HY.out.kept (Kept.of_all hwb)) (fun _ _ h => h))
  clear hW hwb HV0 HU HY
  refine (HH.out W HVW.out).mono ?_
  rintro e w1 ⟨rfl, hb1⟩
  have HV1 := hideIt (HE.out.next hb1)
  clear hb1 HH HVW hws HE
  go_wp2_with fail
  refine (signed_any v l w1 (Ops4In.mono (HYW.out.kept (Kept.of_all HV1.out.1)) (fun _ _ h => h)) HLL.out HK.out).mono ?_
  generalize sealedTo [] l (min l.length 200) = L
  rintro e w2 ⟨p, q, rfl, C, O, O2, hs, -, hO, -, -, hC, hb⟩
  have HV2 := hideIt (HV1.out.next hb)
  have HS2 := hideIt hs
  have e0 := (HV2.out.1.cell (lt_of_cell c0)).trans c0
  have e1 := (HV2.out.1.cell (lt_of_cell c1)).trans c1
  have e2 := (HV2.out.1.cell (lt_of_cell c2)).trans c2
  have HOL : Hid (∀ k, O k → k < w2.heap.size) := hideIt (fun k hk => Nat.lt_of_lt_of_le (hO k hk).2 hC)
  clear hs hb HV1 HYW hO hC
  by_cases h200 : (200 : Int) < (S.length : Int)
  · go_wp2
    go_ret
    exact ⟨rfl, HWB.out.trans (HV2.out.1.mono HWB.out.size)⟩
  · go_wp2_with fail
    refine (cCheck_any w2 p O _ L g d _ S need HS2.out (RowIn.kept HUW.out (Kept.of_below HV2.out.1 (fun _ h _ => h))) HF.out.1 HUL.out).mono ?_
    rintro e w3 ⟨er, rfl, he, hb3⟩
    have HV3 := hideIt (HV2.out.next hb3)
    have HS3 := hideIt (HS2.out.kept (Kept.of_all hb3))
    have HOL3 : Hid (∀ k, O k → k < w3.heap.size) := hideIt (fun k hk => Nat.lt_of_lt_of_le (HOL.out k hk) hb3.size)
    have d0 := (hb3.cell (lt_of_cell e0)).trans e0
    have d1 := (hb3.cell (lt_of_cell e1)).trans e1
    have d2 := (hb3.cell (lt_of_cell e2)).trans e2
    clear hb3 HV2 HS2 e0 e1 e2
    rcases he.form with ⟨hn, rfl⟩ | ⟨hn, ty, y, rfl⟩
    · have HN := hideIt hn
      have hneed := (chk_none.1 hn).2
      obtain ⟨n, hSn⟩ : ∃ n, S.length = n + 1 := ⟨S.length - 1, by omega⟩
      obtain ⟨z, hz⟩ : ∃ z, S[n]? = some z := ⟨S[n], by simp⟩
      obtain ⟨x0, hx0⟩ : ∃ x0, S[0]? = some x0 := ⟨S[0], by simp⟩
      have HSNOC := hideIt (chk_snoc (m := more) hn hSn hz)
      have HDUP := hideIt (chk_dup hn hx0)
      have HSN := hideIt hSn
      have HZ := hideIt (And.intro hz hx0)
      rw [hSn] at d2 HUW h200 ⊢
      have hn200 : n < 200 := by omega
      have HU3 : Hid (NumsIn w3 (· < W.heap.size) (.slice a (n + 1) cap) S) := RowIn.kept HUW.out (Kept.of_below HV3.out.1 (fun _ h _ => h))
      obtain ⟨b, off, rfl, hbW, cz⟩ := NumsIn.at HU3.out hz
      obtain ⟨_, _, hbe, _, cx⟩ := NumsIn.at HU3.out hx0
      cases hbe
      rw [Nat.add_zero] at cx
      have HBW := hideIt hbW
      have HW3 := hideIt HV3.out.1.size
      have HWL : Hid (w.heap.size < W.heap.size) := hideIt (lt_of_cell c0)
      have HL1 : Hid ((S ++ [more]).length ≤ maxLen) := hideIt (by unfold maxLen; simp; omega)
      have HL2 : Hid ((x0 :: S).length ≤ maxLen) := hideIt (by unfold maxLen; simp; omega)
      clear he hn hSn hz hx0 hul hneed HU3 hbW
      obtain ⟨i0, hi, hi2⟩ := Option.map_eq_some_iff.1 infoI
      obtain ⟨hz0, hz1, hz2⟩ : i0.zero = some (.int .i64 0) ∧ i0.size = 1 ∧ i0.bytes = 8 := by
        injection hi2 with a b; injection b with b c; exact ⟨a, b, c⟩
      have HI := hideIt (And.intro hi (And.intro hz0 (And.intro hz1 hz2)))
      clear hi hi2 hz0 hz1 hz2
      obtain ⟨W4, hW4, hwb4, hws4, r0, r1, r2, g0, g1, g2⟩ := room_new w3 25 (.int .i64 g) (.int .i64 d) (.slice (some ⟨b, off, none⟩) (n + 1) cap)
      have hal5 : Below W4.heap.size W4 (W4.alloc (.cells #[] 3)) := (Below.refl _ _).alloc (Nat.le_refl _) _
      have hB5 : Below w3.heap.size w3 (W4.alloc (.cells #[] 3)) := hwb4.trans (hal5.mono hwb4.size)
      have HON : Hid ((W4.alloc (.cells #[] 3)).ownsRow (w3.heap.size + 1) 3 1 (.slice (some ⟨w3.heap.size + 1, 0, none⟩) 0 0) 0 []) := by
        have := World.ownsRow_made (base := w3.heap.size + 1) (e := 3) (size := 1) W4 #[] 0 (by omega) (by decide) rfl
        rw [hws4] at this
        exact hideIt this
      have HUN := hideIt (RowIn.kept HUW.out (Kept.of_below (HV3.out.next hB5).1 (fun _ h _ => h)))
      have hlen : (0 + S.length) * 8 ≤ 140737488355328 := by have := HSN.out; omega
      have HLEN := hideIt hlen
      clear hlen
      have e0 := (hB5.cell (lt_of_cell d0)).trans d0
      have e1 := (hB5.cell (lt_of_cell d1)).trans d1
      have e2 := (hB5.cell (lt_of_cell d2)).trans d2
      have q0 := (hal5.cell (lt_of_cell r0)).trans r0
      have q1 := (hal5.cell (lt_of_cell r1)).trans r1
      have q2 := (hal5.cell (lt_of_cell r2)).trans r2
      have hq2 : w3.heap.size < W4.heap.size := by omega
      have p2 := (hal5.frozen (p := ⟨w3.heap.size, 2, none⟩) hq2).trans g2
      have HB5 := hideIt hB5
      have hsz5 : (W4.alloc (.cells #[] 3)).heap.size = w3.heap.size + 2 := by simp [hws4]
      subst hW4
      clear hal5 hB5 hwb4 hws4 r0 r1 r2 g0 g1 g2 hq2
      go_wp2_with (at_builtin; refine wpList_append_nums rfl _ _ 23 rfl (w3.heap.size + 1) 3 i0 (.int .i64 0) Tryd.underlying23 HI.out.1 HI.out.2.1 HI.out.2.2.1 HI.out.2.2.2 rfl _ 0 [] rfl HON.out _ _ S rfl HUN.out HLEN.out (by simp) ?_)
      intro v' w6 hown hgrow _
      rw [HSN.out] at hown
      have hB6 : Below (w3.heap.size + 1) ((w3.alloc (.cells #[.int .i64 g, .int .i64 d, .slice (some ⟨b, off, none⟩) (n + 1) cap] 25)).alloc (.cells #[] 3)) w6 := (Below.refl _ _).grown hgrow (by simp) (fun k hk => by simp [Value.ownBlock] at hk; omega)
      have HB6 := hideIt (HB5.out.trans (hB6.mono (by omega)))
      have hsz6 := hB6.size
      rw [hsz5] at hsz6
      have hq : w3.heap.size < w3.heap.size + 1 := by omega
      have r0 := (hB6.cell (p := ⟨w3.heap.size, 0, none⟩) hq).trans q0
      have r1 := (hB6.cell (p := ⟨w3.heap.size, 1, none⟩) hq).trans q1
      have r2 := (hB6.cell (p := ⟨w3.heap.size, 2, none⟩) hq).trans q2
      have s2 := (hB6.frozen (p := ⟨w3.heap.size, 2, none⟩) hq).trans p2
      have HR6 := hideIt hown
      obtain ⟨a6, cap6, rfl⟩ := own_form hown
      clear hown hgrow hB6 q0 q1 q2 p2 e0 e1 e2 hsz5 HON HUN HB5 HLEN hq
      go_wp2_with (at_builtin; refine wpList_append_own_at _ rfl _ _ 23 rfl (w3.heap.size + 1) 3 i0 (.int .i64 0) 1 8 Tryd.underlying23 HI.out.1 HI.out.2.1 HI.out.2.2.1 HI.out.2.2.2 rfl (by decide) _ _ _ rfl (HR6.out.alloc _) ⟨w6.heap.size, 0, none⟩ 1 1 [.int .i64 more] rfl rfl ?k1 ?k2 ?k3 ?k4 ?k5 ?_)
      case k1 => exact cell_one_new _ _ _
      case k2 => intro u hu; simp at hu; subst hu; rfl
      case k3 => unfold maxLen; omega
      case k4 => omega
      case k5 => simp; omega
      intro v' w8 hown hgrow _ _
      have HG8 := hideIt (grown_trans (World.grownBy_alloc w6 _ _) hgrow)
      have hB8 : Below (w3.heap.size + 1) w6 w8 := (Below.refl _ _).grown HG8.out (by omega) (fun k hk => (HR6.out.lt k hk).1)
      have HB8 := hideIt (HB6.out.trans (hB8.mono (by omega)))
      have hsz8 : w3.heap.size + 2 ≤ w8.heap.size := Nat.le_trans hsz6 hB8.size
      have hq : w3.heap.size < w3.heap.size + 1 := by omega
      have q0 := (hB8.cell (p := ⟨w3.heap.size, 0, none⟩) hq).trans r0
      have q1 := (hB8.cell (p := ⟨w3.heap.size, 1, none⟩) hq).trans r1
      have q2 := (hB8.cell (p := ⟨w3.heap.size, 2, none⟩) hq).trans r2
      have p2 := (hB8.frozen (p := ⟨w3.heap.size, 2, none⟩) hq).trans s2
      have HN8 : Hid (NumsIn w8 (w3.heap.size < ·) v' (S ++ [more])) := by
        refine RowIn.of_own (B := w3.heap.size + 1) (e := 3) (size := 1) ?_ (fun k hk => hk)
        rw [List.length_append, HSN.out]
        simpa [numCells] using hown
      obtain ⟨a8, cap8, rfl⟩ := own_form hown
      clear hown hgrow hB8 HG8 r0 r1 r2 s2 HR6 HB6 hsz6 hq
      obtain ⟨W9, hW9, D0, D1, D2, hk9, hb9, hs9⟩ := room_put w8 w3.heap.size _ _ _ (.slice a8 (n + 1 + 1) cap8) q0 q1 q2
      have hB9 : Below w3.heap.size w3 W9 := hb9 _ _ HB8.out (Nat.le_refl _)
      have HN9 := hideIt (RowIn.kept (RowIn.mono HN8.out (A' := fun k => w3.heap.size < k ∧ k < w8.heap.size) (fun k h hl => ⟨h, hl⟩)) (hk9 _ (by omega)))
      obtain ⟨W10, hW10, hwb10, hws10, r0, r1, r2, g0, g1, g2⟩ := room_new W9 25 (.int .i64 g) (.int .i64 d) (.slice (some ⟨b, off, none⟩) (n + 1) cap)
      have hB10 : Below w3.heap.size w3 W10 := hB9.trans (hwb10.mono hB9.size)
      have m0 := (hB9.cell (lt_of_cell d0)).trans d0
      have m1 := (hB9.cell (lt_of_cell d1)).trans d1
      have m2 := (hB9.cell (lt_of_cell d2)).trans d2
      have n0 := (hB10.cell (lt_of_cell d0)).trans d0
      have n1 := (hB10.cell (lt_of_cell d1)).trans d1
      have n2 := (hB10.cell (lt_of_cell d2)).trans d2
      have nx := (hB10.cell (lt_of_cell cx)).trans cx
      have nz := (hB10.cell (lt_of_cell cz)).trans cz
      rw [hs9] at r0 r1 r2 g0 g1 g2
      have hl9 : w3.heap.size < W9.heap.size := by omega
      have E0 := (hwb10.cell (p := ⟨w3.heap.size, 0, none⟩) hl9).trans D0
      have E1 := (hwb10.cell (p := ⟨w3.heap.size, 1, none⟩) hl9).trans D1
      have E2 := (hwb10.cell (p := ⟨w3.heap.size, 2, none⟩) hl9).trans D2
      have HN10 : Hid (NumsIn W10 (fun k => w3.heap.size < k ∧ k < w8.heap.size) (.slice a8 (n + 1 + 1) cap8) (S ++ [more])) := RowIn.kept HN9.out (Kept.of_all hwb10)
      have HV10 := hideIt (HV3.out.next hB10)
      have HS10 := hideIt (HS3.out.kept (Kept.of_all hB10))
      have hsz10 : W10.heap.size = w8.heap.size + 1 := by omega
      have HLEN : Hid ((1 + S.length) * 8 ≤ 140737488355328) := hideIt (by have := HSN.out; omega)
      clear hB9 hB10 hl9 hwb10 hws10 g0 g1 D0 D1 D2 hk9 hb9 hs9 HN8 HN9 HB8
      subst hW10 hW9
      go_wp2
      clear m0 m1 m2 d0 d1 d2 cx cz HV3 HS3 q0 q1 q2 p2
      generalize (w8.setCell ⟨w3.heap.size, 2, none⟩ (.slice a8 (n + 1 + 1) cap8)).alloc (.cells #[.int .i64 g, .int .i64 d, .slice (some ⟨b, off, none⟩) (n + 1) cap] 25) = w10 at n0 n1 n2 nx nz r0 r1 r2 g2 E0 E1 E2 HN10 HV10 HS10 hsz10 ⊢
      have HON : Hid ((w10.drew.alloc (.cells #[.int .i64 x0] 3)).ownsRow w10.heap.size 3 1 (.slice (some ⟨w10.heap.size, 0, none⟩) 1 1) 1 [.int .i64 x0]) := hideIt ⟨by simp, .inr ⟨w10.heap.size, 1, #[.int .i64 x0], rfl, Nat.le_refl _, heap_alloc_new w10.drew _, Nat.le_refl _, by decide, by simp, by simp⟩⟩
      have hal11 : Below w10.heap.size w10 (w10.drew.alloc (.cells #[.int .i64 x0] 3)) := (below_drew w10).alloc (Nat.le_refl _) _
      have HAL := hideIt hal11
      have HUN : Hid (NumsIn (w10.drew.alloc (.cells #[.int .i64 x0] 3)) (· < W.heap.size) (.slice (some ⟨b, off, none⟩) (n + 1) cap) S) := RowIn.kept HUW.out (Kept.of_below (HV10.out.next hal11).1 (fun _ h _ => h))
      have o2 : (w10.alloc (.cells #[.int .i64 x0] 3)).cell? ⟨w.heap.size, 2, none⟩ = some (.slice (some ⟨b, off, none⟩) (n + 1) cap) := (((Below.refl w10.heap.size w10).alloc (Nat.le_refl _) _).cell (lt_of_cell n2)).trans n2
      clear hal11
      go_region_law (refine step_append_nums rfl (.tmp 59) (.tmp 61) 23 rfl w10.heap.size 3 i0 (.int .i64 0) Tryd.underlying23 HI.out.1 HI.out.2.1 HI.out.2.2.1 HI.out.2.2.2 rfl (.slice (some ⟨w10.heap.size, 0, none⟩) 1 1) 1 [.int .i64 x0] (by simp [Act.eval]) HON.out (· < W.heap.size) (.slice (some ⟨b, off, none⟩) (n + 1) cap) S (by simp [Act.eval]) HUN.out HLEN.out (by simp) ?_; intro v1 w12 hown hgrow _; rw [HSN.out] at hown; obtain ⟨a12, cap12, hv12⟩ := own_form hown; subst hv12; have HO12 := hideIt hown; have HB12 : Hid (Below w10.heap.size w10 w12) := Below.grown HAL.out hgrow (by simp) (fun k hk => by simp [Value.ownBlock] at hk; omega); clear hown hgrow; have s2 := (HB12.out.cell (lt_of_cell r2)).trans r2; have sf := (HB12.out.frozen (p := ⟨w8.heap.size, 2, none⟩) (lt_of_cell r2)).trans g2)
      all_goals
        have s0 := (HB12.out.cell (lt_of_cell r0)).trans r0
        have s1 := (HB12.out.cell (lt_of_cell r1)).trans r1
        obtain ⟨wA, hWA, F0, F1, F2, hkA, hbA, _⟩ := room_put w12 w8.heap.size _ _ _ (.slice a12 (1 + (n + 1)) cap12) s0 s1 s2
        rw [← hWA]
        have hBA : Below w8.heap.size w10 wA := hbA _ _ (HB12.out.mono (by omega)) (Nat.le_refl _)
        have hW8 : W.heap.size ≤ w8.heap.size := by have := HV10.out.1.size; have := HW3.out; omega
        have HVA : Hid (Env W wA) := ⟨HV10.out.1.trans (hBA.mono hW8), HV10.out.2⟩
        have HSA := hideIt (HS10.out.kept (Kept.of_below hBA (fun k hk _ => by have := HOL3.out k hk; omega)))
        have HNA : Hid (NumsIn wA _ _ (S ++ [more])) := RowIn.kept HN10.out (Kept.of_below hBA (fun k hk _ => hk.2))
        have HMA : Hid (NumsIn wA (fun k => w8.heap.size < k) (.slice a12 (1 + (n + 1)) cap12) (x0 :: S)) := by
          refine RowIn.kept (RowIn.of_own (A := fun k => w8.heap.size < k) (B := w10.heap.size) (e := 3) (size := 1) ?_ (fun k hk => by omega)) (hkA _ (by omega))
          have := HO12.out
          rw [show (x0 :: S).length = 1 + (n + 1) by simp [HSN.out]; omega]
          simpa [numCells] using this
        have l1 : w.heap.size < w8.heap.size := by have := HWL.out; omega
        have l2 : b < w8.heap.size := by have := HBW.out; omega
        have l3 : w3.heap.size < w8.heap.size := by omega
        have k0 := (hBA.cell (p := ⟨w.heap.size, 0, none⟩) l1).trans n0
        have k1 := (hBA.cell (p := ⟨w.heap.size, 1, none⟩) l1).trans n1
        have k2 := (hBA.cell (p := ⟨w.heap.size, 2, none⟩) l1).trans n2
        have kz := (hBA.cell (p := ⟨b, off + n, none⟩) l2).trans nz
        have J0 := (hBA.cell (p := ⟨w3.heap.size, 0, none⟩) l3).trans E0
        have J1 := (hBA.cell (p := ⟨w3.heap.size, 1, none⟩) l3).trans E1
        have J2 := (hBA.cell (p := ⟨w3.heap.size, 2, none⟩) l3).trans E2
        clear l1 l2 l3 hWA hkA hbA hBA s0 s1 s2 sf r0 r1 r2 g2 n0 n1 n2 nx nz E0 E1 E2 o2 HN10 HV10 HS10 HON HUN HAL HO12 HB12 hsz10
        obtain ⟨m, hm⟩ : ∃ m, memb g more = m := ⟨_, rfl⟩
        have HFM := hideIt (fits_memb g more)
        rw [hm] at HSNOC HFM
        go_wp2_with fail
        refine (sMember_any g more _).mono ?_
        rw [hm]
        rintro e wa ⟨rfl, rfl⟩
        clear hm
        by_cases h1 : m < 0
        · have HMAY : Hid (¬ (0 ≤ m ∧ z < more ∧ (m, d) ∈ L)) := hideIt (fun h => by omega)
          go_wp2_with fail
          refine (cCheck_any _ p O _ L g d _ (S ++ [more]) need HSA.out HNA.out HF.out.1 HL1.out).mono ?_
          rintro e wB ⟨er, rfl, he, hbB⟩
          obtain ⟨ty2, z2, rfl⟩ := chk_iface he (fun hc => HMAY.out (HSNOC.out.1 hc))
          have HVB := hideIt (HVA.out.next hbB)
          have HSB := hideIt (HSA.out.kept (Kept.of_all hbB))
          have HMB : Hid (NumsIn wB _ _ (x0 :: S)) := RowIn.kept HMA.out (Kept.of_all hbB)
          have G0 := (hbB.cell (lt_of_cell F0)).trans F0
          have G1 := (hbB.cell (lt_of_cell F1)).trans F1
          have G2 := (hbB.cell (lt_of_cell F2)).trans F2
          clear he hbB J0 J1 J2 F0 F1 F2 HVA HSA HNA HMA
          go_wp2_with fail
          refine (cCheck_any wB p O _ L g d _ (x0 :: S) need HSB.out HMB.out HF.out.1 HL2.out).mono ?_
          rw [HDUP.out]
          rintro e wC ⟨er, rfl, he, hbC⟩
          obtain ⟨ty3, z3, rfl⟩ := One.iface he
          have HVC := hideIt (HVB.out.next hbC)
          have HAC := hideIt (HVC.out.at he)
          clear he hbC G0 G1 G2 HVB HSB HMB
          go_wp2_with fail
          refine HAC.out.code.mono ?_
          rintro e wD ⟨rfl, -, HBD⟩
          have HVD := hideIt (HVC.out.next HBD.out)
          clear HBD HAC HVC
          go_wp2
          go_ret
          exact ⟨rfl, HWB.out.trans (HVD.out.1.mono HWB.out.size)⟩
        · by_cases h2 : z < more
          · go_wp2_with fail
            refine (sSigned_any _ p O L m d HSA.out HFM.out HF.out.1).mono ?_
            by_cases hin : (m, d) ∈ L
            · have HMAY : Hid (0 ≤ m ∧ z < more ∧ (m, d) ∈ L) := hideIt ⟨by omega, h2, hin⟩
              rw [show decide ((m, d) ∈ L) = true by simp [hin]]
              rintro e wE ⟨rfl, hbE⟩
              replace HVA := hideIt (HVA.out.next hbE)
              replace HSA := hideIt (HSA.out.kept (Kept.of_all hbE))
              replace HNA : Hid (NumsIn wE _ _ (S ++ [more])) := RowIn.kept HNA.out (Kept.of_all hbE)
              replace HMA : Hid (NumsIn wE _ _ (x0 :: S)) := RowIn.kept HMA.out (Kept.of_all hbE)
              replace F0 := (hbE.cell (lt_of_cell F0)).trans F0
              replace F1 := (hbE.cell (lt_of_cell F1)).trans F1
              replace F2 := (hbE.cell (lt_of_cell F2)).trans F2
              replace J0 := (hbE.cell (lt_of_cell J0)).trans J0
              replace J1 := (hbE.cell (lt_of_cell J1)).trans J1
              replace J2 := (hbE.cell (lt_of_cell J2)).trans J2
              clear hbE hin
              go_wp2_with fail
              refine (cCheck_any _ p O _ L g d _ (S ++ [more]) need HSA.out HNA.out HF.out.1 HL1.out).mono ?_
              rintro e wB ⟨er, rfl, he, hbB⟩
              have hnil := chk_nil he (HSNOC.out.2 HMAY.out)
              subst hnil
              have HVB := hideIt (HVA.out.next hbB)
              have HSB := hideIt (HSA.out.kept (Kept.of_all hbB))
              have HMB : Hid (NumsIn wB _ _ (x0 :: S)) := RowIn.kept HMA.out (Kept.of_all hbB)
              have G0 := (hbB.cell (lt_of_cell F0)).trans F0
              have G1 := (hbB.cell (lt_of_cell F1)).trans F1
              have G2 := (hbB.cell (lt_of_cell F2)).trans F2
              clear he hbB J0 J1 J2 F0 F1 F2 HVA HSA HNA HMA
              go_wp2_with fail
              refine (cCheck_any wB p O _ L g d _ (x0 :: S) need HSB.out HMB.out HF.out.1 HL2.out).mono ?_
              rw [HDUP.out]
              rintro e wC ⟨er, rfl, he, hbC⟩
              obtain ⟨ty3, z3, rfl⟩ := One.iface he
              have HVC := hideIt (HVB.out.next hbC)
              have HAC := hideIt (HVC.out.at he)
              clear he hbC G0 G1 G2 HVB HSB HMB
              go_wp2_with fail
              refine HAC.out.code.mono ?_
              rintro e wD ⟨rfl, -, HBD⟩
              have HVD := hideIt (HVC.out.next HBD.out)
              clear HBD HAC HVC
              go_wp2
              go_ret
              exact ⟨rfl, HWB.out.trans (HVD.out.1.mono HWB.out.size)⟩
            · have HMAY : Hid (¬ (0 ≤ m ∧ z < more ∧ (m, d) ∈ L)) := hideIt (fun h => hin h.2.2)
              rw [show decide ((m, d) ∈ L) = false by simp [hin]]
              rintro e wE ⟨rfl, hbE⟩
              replace HVA := hideIt (HVA.out.next hbE)
              replace HSA := hideIt (HSA.out.kept (Kept.of_all hbE))
              replace HNA : Hid (NumsIn wE _ _ (S ++ [more])) := RowIn.kept HNA.out (Kept.of_all hbE)
              replace HMA : Hid (NumsIn wE _ _ (x0 :: S)) := RowIn.kept HMA.out (Kept.of_all hbE)
              replace F0 := (hbE.cell (lt_of_cell F0)).trans F0
              replace F1 := (hbE.cell (lt_of_cell F1)).trans F1
              replace F2 := (hbE.cell (lt_of_cell F2)).trans F2
              replace J0 := (hbE.cell (lt_of_cell J0)).trans J0
              replace J1 := (hbE.cell (lt_of_cell J1)).trans J1
              replace J2 := (hbE.cell (lt_of_cell J2)).trans J2
              clear hbE hin
              go_wp2_with fail
              refine (cCheck_any _ p O _ L g d _ (S ++ [more]) need HSA.out HNA.out HF.out.1 HL1.out).mono ?_
              rintro e wB ⟨er, rfl, he, hbB⟩
              obtain ⟨ty2, z2, rfl⟩ := chk_iface he (fun hc => HMAY.out (HSNOC.out.1 hc))
              have HVB := hideIt (HVA.out.next hbB)
              have HSB := hideIt (HSA.out.kept (Kept.of_all hbB))
              have HMB : Hid (NumsIn wB _ _ (x0 :: S)) := RowIn.kept HMA.out (Kept.of_all hbB)
              have G0 := (hbB.cell (lt_of_cell F0)).trans F0
              have G1 := (hbB.cell (lt_of_cell F1)).trans F1
              have G2 := (hbB.cell (lt_of_cell F2)).trans F2
              clear he hbB J0 J1 J2 F0 F1 F2 HVA HSA HNA HMA
              go_wp2_with fail
              refine (cCheck_any wB p O _ L g d _ (x0 :: S) need HSB.out HMB.out HF.out.1 HL2.out).mono ?_
              rw [HDUP.out]
              rintro e wC ⟨er, rfl, he, hbC⟩
              obtain ⟨ty3, z3, rfl⟩ := One.iface he
              have HVC := hideIt (HVB.out.next hbC)
              have HAC := hideIt (HVC.out.at he)
              clear he hbC G0 G1 G2 HVB HSB HMB
              go_wp2_with fail
              refine HAC.out.code.mono ?_
              rintro e wD ⟨rfl, -, HBD⟩
              have HVD := hideIt (HVC.out.next HBD.out)
              clear HBD HAC HVC
              go_wp2
              go_ret
              exact ⟨rfl, HWB.out.trans (HVD.out.1.mono HWB.out.size)⟩
          · have HMAY : Hid (¬ (0 ≤ m ∧ z < more ∧ (m, d) ∈ L)) := hideIt (fun h => h2 h.2.1)
            go_wp2_with fail
            refine (cCheck_any _ p O _ L g d _ (S ++ [more]) need HSA.out HNA.out HF.out.1 HL1.out).mono ?_
            rintro e wB ⟨er, rfl, he, hbB⟩
            obtain ⟨ty2, z2, rfl⟩ := chk_iface he (fun hc => HMAY.out (HSNOC.out.1 hc))
            have HVB := hideIt (HVA.out.next hbB)
            have HSB := hideIt (HSA.out.kept (Kept.of_all hbB))
            have HMB : Hid (NumsIn wB _ _ (x0 :: S)) := RowIn.kept HMA.out (Kept.of_all hbB)
            have G0 := (hbB.cell (lt_of_cell F0)).trans F0
            have G1 := (hbB.cell (lt_of_cell F1)).trans F1
            have G2 := (hbB.cell (lt_of_cell F2)).trans F2
            clear he hbB J0 J1 J2 F0 F1 F2 HVA HSA HNA HMA
            go_wp2_with fail
            refine (cCheck_any wB p O _ L g d _ (x0 :: S) need HSB.out HMB.out HF.out.1 HL2.out).mono ?_
            rw [HDUP.out]
            rintro e wC ⟨er, rfl, he, hbC⟩
            obtain ⟨ty3, z3, rfl⟩ := One.iface he
            have HVC := hideIt (HVB.out.next hbC)
            have HAC := hideIt (HVC.out.at he)
            clear he hbC G0 G1 G2 HVB HSB HMB
            go_wp2_with fail
            refine HAC.out.code.mono ?_
            rintro e wD ⟨rfl, -, HBD⟩
            have HVD := hideIt (HVC.out.next HBD.out)
            clear HBD HAC HVC
            go_wp2
            go_ret
            exact ⟨rfl, HWB.out.trans (HVD.out.1.mono HWB.out.size)⟩
    · clear he hn
      go_wp2
      go_ret
      exact ⟨rfl, HWB.out.trans (HV3.out.1.mono HWB.out.size)⟩
end Go.Proofs.YtpgahjnjkihmhaaDoor
