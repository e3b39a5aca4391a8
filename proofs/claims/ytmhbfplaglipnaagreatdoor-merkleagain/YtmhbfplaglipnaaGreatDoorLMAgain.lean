/-
  What is proved here: the walk of cohortlaw06.MerkleAgain, over this program.
-/
import Derived.Test.YtmhbfplaglipnaaGreatDoorMZ
namespace Go.Proofs.YtmhbfplaglipnaaGreatDoor
open Go.RowKit Go.Extern.Stop Go.Stop Go.Extern

set_option maxRecDepth 100000 in
set_option maxHeartbeats 16000000 in
theorem magain_true (v v2 : Value) (l l2 : List Ent) (key : List UInt8) (N F : Int) (vl vb : Value) (L : List Ent) (Bs : List Int) (w : World) (hv : EntsIn w (· < w.heap.size) v l) (hn : l.length ≤ maxLen) (hm : ∀ e ∈ l, EntOk e) (hv2 : EntsIn w (· < w.heap.size) v2 l2) (hn2 : l2.length ≤ maxLen) (hcap2 : ∀ a cap, v2 = .slice a l2.length cap → l2.length ≤ cap) (hm2 : ∀ e ∈ l2, EntOk e) (hp : ProofOk w (fun _ => False) N F vl vb L Bs) (hpm : ∀ e ∈ L, EntOk e) (hg : ET w) (ht : PT w) :
    Calls Tryz.prog 8 #[v, v2, .agg #[.int .i64 N, .int .i64 F, vl, vb], .string ⟨key.toArray⟩] w fun e w' => e = .returned (.bool true) ∧ Below w.heap.size w w' := by
  have HV0 : Hid (Env w w) := ⟨Below.refl _ _, hg, ht⟩
  have HH := hideIt (fun (w' : World) (h : Env w w') => head06_true w' h.et h.pt)
  have HA := hideIt (And.intro hv (And.intro hn (And.intro hm (And.intro hp hpm))))
  have HA2 := hideIt (And.intro hv2 (And.intro hn2 (And.intro hcap2 hm2)))
  obtain ⟨a, cap, rfl⟩ := hv.form
  obtain ⟨a2, cap2, rfl⟩ := EntsIn.form hv2
  obtain ⟨al, cl, rfl⟩ := hp.ap.1.form
  obtain ⟨ab, cb, rfl⟩ := NumsIn.form hp.ap.2
  obtain ⟨W, hW, hwb, hws, hc4, _⟩ := room4 w 25 (.int .i64 N) (.int .i64 F) (.slice al L.length cl) (.slice ab Bs.length cb)
  have HC : Hid (R4 W w.heap.size (.int .i64 N) (.int .i64 F) (.slice al L.length cl) (.slice ab Bs.length cb)) := hideIt hc4
  have HVW := hideIt (HV0.out.next hwb)
  have HWS := hideIt hws
  have HWB := hideIt hwb
  clear hg ht hv hn hm hv2 hn2 hcap2 hm2 hp hpm hc4 hwb hws
  go_enter Tryz.func8, Tryz.ntmps8
  go_wp2_with fail
  rw [← hW]
  clear hW
  refine (HH.out W HVW.out).mono ?_
  rintro e w1 ⟨rfl, hb1⟩
  have HE1 : Hid (Below W.heap.size W w1) := hideIt hb1
  have HV1 := hideIt (HVW.out.next hb1)
  clear hb1 HH
  go_wp2_with fail
  refine (bNew_any w1).mono ?_
  rintro e w2 ⟨p, rfl, hs, hb⟩
  have HS2 := hideIt (St.new HV1.out hs hb)
  have HE2 := hideIt (HE1.out.trans (hb.mono HE1.out.size))
  obtain ⟨O2, hO2⟩ : ∃ O2 : Nat → Prop, O2 = fun k => w1.heap.size ≤ k ∧ k < w2.heap.size := ⟨_, rfl⟩
  rw [← hO2] at HS2
  have HO2 : Hid (∀ k, O2 k → W.heap.size ≤ k) := hideIt (fun k hk => by rw [hO2] at hk; exact Nat.le_trans HE1.out.size hk.1)
  clear hs hb hO2
  go_wp2_with fail
  refine (great06_any _ _ l w2 (HA.out.1.kept (Kept.of_below (HWB.out.trans (HE2.out.mono HWB.out.size)) (fun _ h _ => h))) HA.out.2.1 (fun x hx => ⟨(HA.out.2.2.1 x hx).1, (HA.out.2.2.1 x hx).2.1⟩)).mono ?_
  rintro e w3 ⟨⟨g, rfl, hgl⟩, hb3⟩
  have HE3 := hideIt (HE2.out.trans (hb3.mono HE2.out.size))
  have HS3 := hideIt (HS2.out.next hb3)
  clear hb3 hgl HE2 HS2
  cases g with
  | true =>
    go_wp2
    go_ret
    exact ⟨rfl, HS3.out.env.1⟩
  | false =>
  have HC3 := hideIt (HC.out.next HE3.out)
  have HP3 : Hid (ProofOk w3 O2 N F (.slice al L.length cl) (.slice ab Bs.length cb) L Bs) := hideIt (HA.out.2.2.2.1.start (HWB.out.trans (HE3.out.mono HWB.out.size)) (fun k hk => Nat.le_trans HWB.out.size (HO2.out k hk)))
  have HL3 : Hid (EntsAp w3 O2 (.slice a l.length cap) l) := hideIt (EntsAp.start HA.out.1 (HWB.out.trans (HE3.out.mono HWB.out.size)) (fun k hk => Nat.le_trans HWB.out.size (HO2.out k hk)))
  have HM3 : Hid (EntsAp w3 O2 (.slice a2 l2.length cap2) l2) := hideIt (EntsAp.start HA2.out.1 (HWB.out.trans (HE3.out.mono HWB.out.size)) (fun k hk => Nat.le_trans HWB.out.size (HO2.out k hk)))
  have HNO : Hid (¬ O2 w.heap.size) := hideIt (fun o => by have := HO2.out _ o; have := HWS.out; omega)
  clear HE3
  go_wp2_with fail
  refine (great06_any _ _ l2 w3 HM3.out HA2.out.2.1 (fun x hx => ⟨(HA2.out.2.2.2 x hx).1, (HA2.out.2.2.2 x hx).2.1⟩)).mono ?_
  rintro e w4 ⟨⟨g, rfl, _⟩, hb4⟩
  have HS4 := hideIt (HS3.out.next hb4)
  have HP4 := hideIt (HP3.out.next hb4)
  have HL4 := hideIt (HL3.out.next hb4)
  have HM4 := hideIt (HM3.out.next hb4)
  have HC4 := hideIt (HC3.out.next hb4)
  clear hb4 HS3 HP3 HL3 HM3 HC3
  cases g with
  | true =>
    go_wp2
    go_ret
    exact ⟨rfl, HS4.out.env.1⟩
  | false =>
  obtain ⟨c0, c1, c2, c3⟩ := HC4.out
  go_wp2_with fail
  refine (greatP06_any _ N F _ ab Bs.length cb L w4 HP4.out.ap.1 HP4.out.lL (fun x hx => ⟨(HA.out.2.2.2.2 x hx).1, (HA.out.2.2.2.2 x hx).2.1⟩) HP4.out.lB).mono ?_
  rintro e w5 ⟨⟨g, rfl, _⟩, hb4⟩
  have HS5 := hideIt (HS4.out.next hb4)
  have HP5 := hideIt (HP4.out.next hb4)
  have HL5 := hideIt (HL4.out.next hb4)
  have HM5 := hideIt (HM4.out.next hb4)
  have HC5 := hideIt (HC4.out.next hb4)
  clear hb4 HS4 HP4 HL4 HM4 HC4 c0 c1 c2 c3
  cases g with
  | true =>
    go_wp2
    go_ret
    exact ⟨rfl, HS5.out.env.1⟩
  | false =>
  go_wp2_with fail
  refine (mRoot_any w5 p O2 [] _ l HS5.out.bk HL5.out HA.out.2.1 (fun e he => (HA.out.2.2.1 e he).2.2) (by simp)).mono ?_
  rintro e w6 ⟨x, er, c, O6, T6, rfl, g1, g2, g3, g4⟩
  have HS6 := hideIt (HS5.out.goes g1 g2)
  have HP6 := hideIt (HP5.out.goes g2)
  have HL6 := hideIt (HL5.out.goes g2)
  have HM6 := hideIt (HM5.out.goes g2)
  have HC6 := hideIt (HC5.out.goes g2 HNO.out)
  have HN6 := hideIt (g2.not HC5.out.lt HNO.out)
  have HT6 : Hid (T6.length ≤ 2048) := hideIt (by have h := g2.len; simp at h; omega)
  have HR6 := hideIt g4
  have HQ6 := hideIt g3
  clear g1 g2 g3 g4 HS5 HP5 HL5 HM5 HC5 HNO
  obtain ⟨c0, c1, c2, c3⟩ := HC6.out
  go_wp2_with fail
  refine (mHas_any w6 p O6 T6 x N F _ _ L Bs key HS6.out.bk HP6.out (by have := HT6.out; omega)).mono ?_
  rintro e w7 ⟨fr, cf, y, is, O7, T7, rfl, g1, g2, g3, g4⟩
  unfold entV
  obtain ⟨W7, hW, hwb, hws, y0, y1, y2⟩ := room3 w7 42 (.string ⟨y.1.toArray⟩) (.string ⟨y.2.1.toArray⟩) (.int .i64 y.2.2)
  have HS7 := hideIt ((HS6.out.goes g1 g2).next hwb)
  have HP7 := hideIt ((HP6.out.goes g2).next hwb)
  have HL7 := hideIt ((HL6.out.goes g2).next hwb)
  have HM7 := hideIt ((HM6.out.goes g2).next hwb)
  have HC7 := hideIt ((HC6.out.goes g2 HN6.out).next hwb)
  have HN7 := hideIt (And.intro (g2.not HC6.out.lt HN6.out) (fun o => absurd (g1.2 w7.heap.size o) (Nat.lt_irrefl _) : ¬ O7 w7.heap.size))
  have HT7 : Hid (T7.length ≤ 4096) := hideIt (by have h := g2.len; have := HT6.out; omega)
  have HX7 := hideIt g2.exts
  have HR7 := hideIt g4
  have HF7 := hideIt (g3.ap.next hwb)
  have HY7 : Hid (R3 W7 w7.heap.size (.string ⟨y.1.toArray⟩) (.string ⟨y.2.1.toArray⟩) (.int .i64 y.2.2)) := hideIt ⟨y0, y1, y2⟩
  clear g1 g2 g3 g4 hwb hws y0 y1 y2 HS6 HP6 HL6 HM6 HC6 HN6 HT6 c0 c1 c2 c3
  go_wp2_with fail
  rw [← hW]
  clear hW
  refine (mRoot_any W7 p O7 T7 _ l2 HS7.out.bk HM7.out HA2.out.2.1 (fun e he => (HA2.out.2.2.2 e he).2.2) (by have := HT7.out; omega)).mono ?_
  rintro e w8 ⟨x8, er8, c8, O8, T8, rfl, g1, g2, _, _⟩
  have HS8 := hideIt (HS7.out.goes g1 g2)
  have HP8 := hideIt (HP7.out.goes g2)
  have HL8 := hideIt (HL7.out.goes g2)
  have HM8 := hideIt (HM7.out.goes g2)
  have HC8 := hideIt (HC7.out.goes g2 HN7.out.1)
  have HY8 := hideIt (HY7.out.goes g2 HN7.out.2)
  have HN8 := hideIt (And.intro (g2.not HC7.out.lt HN7.out.1) (g2.not HY7.out.lt HN7.out.2))
  have HF8 := hideIt (HF7.out.goes g2)
  have HT8 : Hid (T8.length ≤ 6144) := hideIt (by have h := g2.len; have := HT7.out; omega)
  have HX8 := hideIt g2.exts
  clear g1 g2 HS7 HP7 HL7 HM7 HC7 HY7 HN7 HF7 HT7
  go_wp2_with fail
  refine (mProve_any w8 p O8 T8 _ l2 0 l2.length HS8.out.bk HM8.out HA2.out.2.1 (fun e he => (HA2.out.2.2.2 e he).2.2) (by omega) (by have := HT8.out; omega) HA2.out.2.2.1).mono ?_
  rintro e w9 ⟨p1, p2, a3, n3, c3, a4, n4, c4, er9, c9, O9, T9, rfl, g1, g2, _, _⟩
  have HS9 := hideIt (HS8.out.goes g1 g2)
  have HP9 := hideIt (HP8.out.goes g2)
  have HL9 := hideIt (HL8.out.goes g2)
  have HC9 := hideIt (HC8.out.goes g2 HN8.out.1)
  have HY9 := hideIt (HY8.out.goes g2 HN8.out.2)
  have HN9 := hideIt (And.intro (g2.not HC8.out.lt HN8.out.1) (g2.not HY8.out.lt HN8.out.2))
  have HF9 := hideIt (HF8.out.goes g2)
  have HT9 : Hid (T9.length ≤ 8192) := hideIt (by have h := g2.len; have := HT8.out; omega)
  have HX9 := hideIt g2.exts
  clear g1 g2 HS8 HP8 HL8 HM8 HC8 HY8 HN8 HF8 HT8
  go_wp2_with fail
  refine (mRoot_any w9 p O9 T9 _ l HS9.out.bk HL9.out HA.out.2.1 (fun e he => (HA.out.2.2.1 e he).2.2) (by have := HT9.out; omega)).mono ?_
  rintro e wa ⟨xa, era, ca, Oa, Ta, rfl, g1, g2, g3, g4⟩
  have HSA := hideIt (HS9.out.goes g1 g2)
  have HPA := hideIt (HP9.out.goes g2)
  have HCA := hideIt (HC9.out.goes g2 HN9.out.1)
  have HYA := hideIt (HY9.out.goes g2 HN9.out.2)
  have HNA := hideIt (And.intro (g2.not HC9.out.lt HN9.out.1) (g2.not HY9.out.lt HN9.out.2))
  have HFA := hideIt (HF9.out.goes g2)
  have HTA : Hid (Ta.length ≤ 10240) := hideIt (by have h := g2.len; have := HT9.out; omega)
  have HXA := hideIt (((HX7.out.trans HX8.out).trans HX9.out).trans g2.exts)
  have HXB := hideIt ((HX8.out.trans HX9.out).trans g2.exts)
  obtain ⟨hx1, hx2⟩ := root_fun HXA.out g1.once HR6.out g4
  subst hx1 hx2
  have hee : (er = .nilIface ∧ era = .nilIface) ∨ (∃ t y t' y', er = .iface t y ∧ era = .iface t' y') := by
    rcases HQ6.out.form with ⟨h1, h2⟩ | ⟨h1, t, y, h2⟩ <;> rcases g3.form with ⟨h3, h4⟩ | ⟨h3, t', y', h4⟩
    · exact Or.inl ⟨h2, h4⟩
    · exact absurd h1 h3
    · exact absurd h3 h1
    · exact Or.inr ⟨t, y, t', y', h2, h4⟩
  clear g1 g2 g3 g4 HS9 HP9 HL9 HC9 HY9 HN9 HF9 HT9 HX7 HX8 HX9 HR6 HQ6 HXA
  obtain ⟨c0, c1, c2, c3⟩ := HCA.out
  go_wp2_with fail
  refine (mHas_any wa p Oa Ta xa N F _ _ L Bs key HSA.out.bk HPA.out (by have := HTA.out; omega)).mono ?_
  rintro e wb ⟨fb, cb2, yb, isb, Ob, Tb, rfl, g1, g2, g3, g4⟩
  obtain ⟨rfl, rfl, rfl⟩ := has_fun (HXB.out.trans g2.exts) g1.once HR7.out g4
  unfold entV
  obtain ⟨WB, hW, hwb, hws, y0, y1, y2⟩ := room3 wb 42 (.string ⟨yb.1.toArray⟩) (.string ⟨yb.2.1.toArray⟩) (.int .i64 yb.2.2)
  have HSB := hideIt ((HSA.out.goes g1 g2).next hwb)
  have HYB := hideIt ((HYA.out.goes g2 HNA.out.2).next hwb)
  have HFB := hideIt ((HFA.out.goes g2).next hwb)
  have HGB := hideIt (g3.ap.next hwb)
  have HZB : Hid (R3 WB wb.heap.size (.string ⟨yb.1.toArray⟩) (.string ⟨yb.2.1.toArray⟩) (.int .i64 yb.2.2)) := hideIt ⟨y0, y1, y2⟩
  clear g1 g2 g3 g4 hwb hws y0 y1 y2 HSA HPA HCA HYA HNA HFA HTA HXB HR7 c0 c1 c2 c3
  go_wp2_with fail
  rw [← hW]
  clear hW
  have heq0 := eq_ent yb yb
  rw [decide_eq_true (rfl : yb = yb)] at heq0
  rcases hee with ⟨rfl, rfl⟩ | ⟨t, y, t', y', rfl, rfl⟩
  all_goals
    refine wp_region_quiet_grow (by kernel_rfl) (by kernel_rfl) ?_
    intro ι _ f hf hn
    have r0 := fun i => ((hf i).cell (lt_of_cell HYB.out.1)).trans HYB.out.1
    have r1 := fun i => ((hf i).cell (lt_of_cell HYB.out.2.1)).trans HYB.out.2.1
    have r2 := fun i => ((hf i).cell (lt_of_cell HYB.out.2.2)).trans HYB.out.2.2
    have s0 := fun i => ((hf i).cell (lt_of_cell HZB.out.1)).trans HZB.out.1
    have s1 := fun i => ((hf i).cell (lt_of_cell HZB.out.2.1)).trans HZB.out.2.1
    have s2 := fun i => ((hf i).cell (lt_of_cell HZB.out.2.2)).trans HZB.out.2.2
    have heq := fun i => heq0 (f i)
    have HSF := hideIt (fun i => HSB.out.next (hf i))
    have HNN := hideIt hn
    have HA1 := hideIt (fun (i : ι) (er : Value) (h : er = fr ∨ er = fb) => (by
      rcases h with rfl | rfl
      · exact (HFB.out.next (hf i)).code (HSB.out.next (hf i)).env.et
      · exact (HGB.out.next (hf i)).code (HSB.out.next (hf i)).env.et : Calls Tryz.prog 20 #[er] (f i) fun e w' => e = .returned (.int .i64 cb2) ∧ Below (f i).heap.size (f i) w'))
    clear hf hn heq0 HYB HZB HFB HGB HSB
    repeat (go_big_quiet_step ((go_at_call 20; exact Calls.grow HNN.out (HA1.out _ _ (by first | exact Or.inl rfl | exact Or.inr rfl)))))
    refine wpQuiet_nil ?_
    rintro wz ⟨i, rfl⟩
    have HSZ := hideIt (HSF.out i)
    clear HSF HA1 HNN r0 r1 r2 s0 s1 s2 heq
    generalize f i = wz at HSZ ⊢
    clear f
    go_wp2
    go_ret
    exact ⟨rfl, HSZ.out.env.1⟩
end Go.Proofs.YtmhbfplaglipnaaGreatDoor
