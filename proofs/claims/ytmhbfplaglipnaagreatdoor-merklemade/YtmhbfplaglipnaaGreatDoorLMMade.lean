/-
  What is proved here: the walk of cohortlaw06.MerkleMade, over this program.
-/
import Derived.Test.YtmhbfplaglipnaaGreatDoorMX
import Derived.Test.YtmhbfplaglipnaaGreatDoorArg6
namespace Go.Proofs.YtmhbfplaglipnaaGreatDoor
open Go.RowKit Go.Extern.Stop Go.Stop Go.Extern

/-- two lists of entries have one root just if they are the same -/
theorem root_same {T : List (List UInt8)} (hT : Once T) {l l2 : List Ent} {d d2 : Int} (h1 : RootIs T l d) (h2 : RootIs T l2 d2) (hl : l.length ≤ 1024) (hl2 : l2.length ≤ 1024) : d2 = d ↔ l = l2 := by
  obtain ⟨f1, t1, a1, a2, a3⟩ := h1
  obtain ⟨f2, t2, b1, b2, b3⟩ := h2
  constructor
  · rintro rfl
    have he := Dig.one a3 b3
    obtain ⟨e1, e2⟩ := rootT_inj ⟨by unfold fits; omega, fits_small a2⟩ ⟨by unfold fits; omega, fits_small b2⟩ he
    have e3 : t1 = t2 := by omega
    subst e3
    exact top_same a1 b1 (by omega)
  · rintro rfl
    have := top_fun hT a1 b1
    have e3 : t1 = t2 := by omega
    subst e3
    exact hT.dig b3 a3

set_option maxRecDepth 100000 in
set_option maxHeartbeats 16000000 in
theorem mmade_true (v v2 : Value) (l l2 : List Ent) (x y : UInt8) (w : World) (hv : EntsIn w (· < w.heap.size) v l) (hn : l.length ≤ maxLen) (hcap : ∀ a cap, v = .slice a l.length cap → l.length ≤ cap) (hm : ∀ e ∈ l, EntOk e) (hv2 : EntsIn w (· < w.heap.size) v2 l2) (hn2 : l2.length ≤ maxLen) (hm2 : ∀ e ∈ l2, EntOk e) (hg : ET w) (ht : PT w) :
    Calls Tryz.prog 4 #[v, v2, .int .u8 x.toNat, .int .u8 y.toNat] w fun e w' => e = .returned (.bool true) ∧ Below w.heap.size w w' := by
  have HV0 : Hid (Env w w) := ⟨Below.refl _ _, hg, ht⟩
  have HH := hideIt (fun (w' : World) (h : Env w w') => head06_true w' h.et h.pt)
  have HA := hideIt (And.intro hv (And.intro hn (And.intro hcap hm)))
  have HA2 := hideIt (And.intro hv2 (And.intro hn2 hm2))
  obtain ⟨a, cap, rfl⟩ := hv.form
  obtain ⟨a2, cap2, rfl⟩ := EntsIn.form hv2
  have hx : x.toNat < 256 := x.toNat_lt
  have hy : y.toNat < 256 := y.toNat_lt
  clear hg ht hv hn hcap hm hv2 hn2 hm2
  go_enter Tryz.func4, Tryz.ntmps4
  go_wp2_with fail
  refine (HH.out w HV0.out).mono ?_
  rintro e w1 ⟨rfl, hb1⟩
  have HE1 : Hid (Below w.heap.size w w1) := hideIt hb1
  have HV1 := hideIt (HV0.out.next hb1)
  clear hb1 HH
  go_wp2_with fail
  refine (bNew_any w1).mono ?_
  rintro e w2 ⟨p, rfl, hs, hb⟩
  have HS2 := hideIt (St.new HV1.out hs hb)
  have HE2 := hideIt (HE1.out.trans (hb.mono HE1.out.size))
  obtain ⟨O2, hO2⟩ : ∃ O2 : Nat → Prop, O2 = fun k => w1.heap.size ≤ k ∧ k < w2.heap.size := ⟨_, rfl⟩
  rw [← hO2] at HS2
  have HO2 : Hid (∀ k, O2 k → w.heap.size ≤ k) := hideIt (fun k hk => by rw [hO2] at hk; exact Nat.le_trans HE1.out.size hk.1)
  clear hs hb hO2
  go_wp2_with fail
  refine (great06_any _ _ l w2 (RowIn.mono (RowIn.kept HA.out.1 (Kept.of_all HE2.out)) (fun _ _ h => h)) HA.out.2.1 (fun x hx => ⟨(HA.out.2.2.2 x hx).1, (HA.out.2.2.2 x hx).2.1⟩)).mono ?_
  rintro e w3 ⟨⟨g, rfl, hgl⟩, hb3⟩
  have HE3 := hideIt (HE2.out.trans (hb3.mono HE2.out.size))
  have HS3 := hideIt (HS2.out.next hb3)
  clear hb3 HE2 HS2
  cases g with
  | true =>
    go_wp2
    go_ret
    exact ⟨rfl, HS3.out.env.1⟩
  | false =>
  have hl6 : l.length ≤ 6000 := hgl rfl
  have HL3 : Hid (EntsAp w3 O2 (.slice a l.length cap) l) := hideIt (EntsAp.start HA.out.1 HE3.out HO2.out)
  have HM3 : Hid (EntsAp w3 O2 (.slice a2 l2.length cap2) l2) := hideIt (EntsAp.start HA2.out.1 HE3.out HO2.out)
  clear hgl
  go_wp2_with fail
  refine (great06_any _ _ l2 w3 HM3.out HA2.out.2.1 (fun x hx => ⟨(HA2.out.2.2 x hx).1, (HA2.out.2.2 x hx).2.1⟩)).mono ?_
  rintro e w4 ⟨⟨g, rfl, _⟩, hb4⟩
  have HS4 := hideIt (HS3.out.next hb4)
  have HL4 := hideIt (HL3.out.next hb4)
  have HM4 := hideIt (HM3.out.next hb4)
  clear hb4 HS3 HL3 HM3 HE3
  cases g with
  | true =>
    go_wp2
    go_ret
    exact ⟨rfl, HS4.out.env.1⟩
  | false =>
  by_cases hr : Right l
  case neg =>
    go_wp2_with fail
    refine (mRoot_bad w4 _ _ _ l HL4.out HA.out.2.1 hr).mono ?_
    rintro e w5 ⟨er, rfl, ho, hb5⟩
    obtain ⟨ty, z, rfl⟩ := ho.iface
    have HS5 := hideIt (HS4.out.next hb5)
    clear ho hb5 hr
    go_wp2
    go_ret
    exact ⟨rfl, HS5.out.env.1⟩
  case pos =>
  have HR := hideIt hr
  have HLE : Hid (cost l.length + 1 ≤ 2048) := hideIt (by have := hr.1; unfold cost; split <;> omega)
  have hl1 : l.length ≤ 1024 := hr.1
  clear hr
  go_wp2_with fail
  refine (mRoot_ok w4 p O2 [] _ l HS4.out.bk HL4.out (fun e he => (HA.out.2.2.2 e he).2.2) HR.out (by simp; have := HLE.out; omega)).mono ?_
  rintro e w5 ⟨root, O5, T5, rfl, g1, g2, g3, g4⟩
  have HS5 := hideIt (HS4.out.goes g1 g2)
  have HL5 := hideIt (HL4.out.goes g2)
  have HM5 := hideIt (HM4.out.goes g2)
  have HT5 : Hid (T5.length ≤ 2048) := hideIt (by have h := g2.len; simp at h; have := HLE.out; omega)
  have HR5 := hideIt g3
  clear g1 g2 g3 HS4 HL4 HM4
  obtain ⟨F, q, m, hFq, hmq, f1, f2, f3, f4⟩ := places x.toNat y.toNat l.length hl6
  have h0 : F + m ≤ l.length := by clear f1 f2 f3 f4; omega
  have f5 : ¬ ((q : Int) + 1 = 0) := by clear f1 f2 f3 f4; omega
  have f6 : ¬ (wrap64 (wrap64 ((l.length : Int) - (x.toNat : Int) % ((l.length : Int) + 1)) + 1) = 0) := by rw [f1, f2, f3]; exact f5
  have f7 : (l.length : Int) - (F : Int) = (q : Int) := by clear f1 f2 f3 f4; omega
  clear hFq hmq
  go_wp2_with fail
  rw [f1, f4]
  clear hx hy
  refine (mProve_ok w5 p O5 T5 _ l F m HS5.out.bk HL5.out (fun e he => (HA.out.2.2.2 e he).2.2) HR.out h0 (by have := HLE.out; have := HT5.out; omega) HA.out.2.2.1).mono ?_
  rintro e w6 ⟨f, vl, vb, ds, O6, T6, rfl, g1, g2, g3, gg, g5⟩
  obtain ⟨al, cl, rfl⟩ := g3.1.form
  obtain ⟨ab, cb, rfl⟩ := NumsIn.form g3.2
  have HS6 := hideIt (HS5.out.goes g1 g2)
  have HL6 := hideIt (HL5.out.goes g2)
  have HM6 := hideIt (HM5.out.goes g2)
  have HR6 := hideIt (HR5.out.more g2.exts)
  have HT6 : Hid (T6.length ≤ 4096) := hideIt (by have h := g2.len; have := HT5.out; have := HLE.out; omega)
  have HP6 := hideIt (And.intro g3 (And.intro gg g5))
  clear g1 g2 g3 gg g5 f1 f2 f3 f4 f5 f6 f7 HS5 HL5 HM5 HR5 HT5
  obtain ⟨W, hW, hwb, hws, ⟨c0, c1, c2, c3⟩, _⟩ := room4 w6 25 (.int .i64 l.length) (.int .i64 F) (.slice al (part l F m).length cl) (.slice ab ds.length cb)
  have HSW := hideIt (HS6.out.next hwb)
  have HLW := hideIt (HL6.out.next hwb)
  have HMW := hideIt (HM6.out.next hwb)
  have hpl : (part l F m).length ≤ 1024 := by rw [part_length h0]; omega
  have HPW : Hid (ProofOk W O6 l.length F (.slice al (part l F m).length cl) (.slice ab ds.length cb) (part l F m) ds) := hideIt
    { ap := ⟨HP6.out.1.1.next hwb, RowIn.mono (RowIn.kept HP6.out.1.2 (Kept.of_all hwb)) (fun _ hk hl => ⟨hl, hk.2⟩)⟩
      fN := by unfold fits; omega
      fF := by unfold fits; omega
      fE := fun e he => (HA.out.2.2.2 e (List.mem_of_mem_drop (List.mem_of_mem_take he))).2.2
      fB := fun d hd => by have := HP6.out.2.1.1 d hd; unfold fits; omega
      lL := by unfold maxLen; omega
      lB := by have := HP6.out.2.1.2; unfold maxLen; omega }
  have HNO : Hid (¬ O6 w6.heap.size) := hideIt (fun o => by have := HS6.out.bk.2 _ o; omega)
  have hcp := HA.out.2.2.1 a cap rfl
  have q1 : (F : Int) + (m : Int) ≤ (cap : Int) := by omega
  have q2 : (F : Int) ≤ (F : Int) + (m : Int) := by omega
  have HQM : Hid (((F : Int) + (m : Int)).toNat - F = m) := hideIt (by omega)
  have q3 : IntKind.i64.wrap ((F : Int) + (m : Int)) = (F : Int) + (m : Int) := by simp [IntKind.wrap, IntKind.bits, IntKind.signed]; omega
  have HCUT := hideIt (fun (wq : World) (O : Nat → Prop) (h : EntsAp wq O (.slice a l.length cap) l) hne => (ents_cut h F m h0 hne).mono (A' := (· < wq.heap.size)) (fun _ h _ => h.1))
  have HCUT0 := hideIt (fun (wq : World) (h : cap = F) => (ents_cut0 (w := wq) (A := (· < wq.heap.size)) (a := a) (l := l) (F := F) (show m = 0 by omega) h0))
  clear hwb hws HS6 HL6 HM6 hcp
  by_cases hcf : cap = F
  case' pos =>
    have HCC := hideIt hcf
    have hcf2 := hcf.symm
    clear hcf
    subst hcf2
    go_wp2_with fail
    rw [← hW]
    clear hW
    go_region_held3 (fun w' => w'.cell? ⟨w6.heap.size, 0, none⟩ = some (.int .i64 l.length) ∧ w'.cell? ⟨w6.heap.size, 1, none⟩ = some (.int .i64 F) ∧ w'.cell? ⟨w6.heap.size, 2, none⟩ = some (.slice al (part l F m).length cl) ∧ w'.cell? ⟨w6.heap.size, 3, none⟩ = some (.slice ab ds.length cb)) (first | exact ⟨c0, c1, c2, c3⟩ | exact HK1.out | exact HK2.out | go_keep) (first
      | (go_at_call 16
         refine (Same06_any _ _ _ _ (part l F m) (part l F m) w7 HP7.out.ap.1 (show EntsIn w7 (· < w7.heap.size) (.slice a 0 0) (part l F m) by rw [show Value.slice a 0 0 = .slice a m 0 by rw [show m = 0 by omega]]; exact HCUT0.out w7 HCC.out) (by unfold maxLen; omega)).mono ?_
         rintro e w8 ⟨rfl, hb8⟩
         have HB8 := hideIt hb8
         have HK2 : Hid (w8.cell? ⟨w6.heap.size, 0, none⟩ = some (.int .i64 l.length) ∧ w8.cell? ⟨w6.heap.size, 1, none⟩ = some (.int .i64 F) ∧ w8.cell? ⟨w6.heap.size, 2, none⟩ = some (.slice al (part l F m).length cl) ∧ w8.cell? ⟨w6.heap.size, 3, none⟩ = some (.slice ab ds.length cb)) := hideIt ⟨(hb8.cell (lt_of_cell HK1.out.1)).trans HK1.out.1, (hb8.cell (lt_of_cell HK1.out.2.1)).trans HK1.out.2.1, (hb8.cell (lt_of_cell HK1.out.2.2.1)).trans HK1.out.2.2.1, (hb8.cell (lt_of_cell HK1.out.2.2.2)).trans HK1.out.2.2.2⟩
         clear hb8)
      | (go_at_call 15
         refine (mCheck_any _ p O6 T6 root l.length F _ _ (part l F m) ds (HSW.out.next (below_drew W)).bk (HPW.out.next (below_drew W)) (by have := HT6.out; omega)).mono ?_
         rintro e w7 ⟨er, c, O7, T7, rfl, g1, g2, g3, g4⟩
         have hc : c = 0 := taken g2.exts g1.once HR6.out HP6.out.2.2 h0 HR.out (fun d hd => (HP6.out.2.1.1 d hd).1) g4
         subst hc
         obtain ⟨_, rfl⟩ := g3.form.resolve_right (fun h => h.1 rfl)
         have HS7 := hideIt ((HSW.out.next (below_drew W)).goes g1 g2)
         have HL7 := hideIt ((HLW.out.next (below_drew W)).goes g2)
         have HM7 := hideIt ((HMW.out.next (below_drew W)).goes g2)
         have HP7 := hideIt ((HPW.out.next (below_drew W)).goes g2)
         have HR7 := hideIt (HR6.out.more g2.exts)
         have HT7 : Hid (T7.length ≤ 6144) := hideIt (by have h := g2.len; have := HT6.out; omega)
         have HK1 : Hid (w7.cell? ⟨w6.heap.size, 0, none⟩ = some (.int .i64 l.length) ∧ w7.cell? ⟨w6.heap.size, 1, none⟩ = some (.int .i64 F) ∧ w7.cell? ⟨w6.heap.size, 2, none⟩ = some (.slice al (part l F m).length cl) ∧ w7.cell? ⟨w6.heap.size, 3, none⟩ = some (.slice ab ds.length cb)) := hideIt ⟨g2.cell (((below_drew W).cell (lt_of_cell c0)).trans c0) HNO.out, g2.cell (((below_drew W).cell (lt_of_cell c1)).trans c1) HNO.out, g2.cell (((below_drew W).cell (lt_of_cell c2)).trans c2) HNO.out, g2.cell (((below_drew W).cell (lt_of_cell c3)).trans c3) HNO.out⟩
         clear g1 g2 g3 g4))
  case' neg =>
    go_wp2_with fail
    rw [← hW]
    clear hW
    go_region_held3 (fun w' => w'.cell? ⟨w6.heap.size, 0, none⟩ = some (.int .i64 l.length) ∧ w'.cell? ⟨w6.heap.size, 1, none⟩ = some (.int .i64 F) ∧ w'.cell? ⟨w6.heap.size, 2, none⟩ = some (.slice al (part l F m).length cl) ∧ w'.cell? ⟨w6.heap.size, 3, none⟩ = some (.slice ab ds.length cb)) (first | exact ⟨c0, c1, c2, c3⟩ | exact HK1.out | exact HK2.out | go_keep) (first
      | (go_at_call 16
         rw [HQM.out]
         refine (Same06_any _ _ _ _ (part l F m) (part l F m) w7 HP7.out.ap.1 (HCUT.out w7 _ HL7.out hcf) (by unfold maxLen; omega)).mono ?_
         rintro e w8 ⟨rfl, hb8⟩
         have HB8 := hideIt hb8
         have HK2 : Hid (w8.cell? ⟨w6.heap.size, 0, none⟩ = some (.int .i64 l.length) ∧ w8.cell? ⟨w6.heap.size, 1, none⟩ = some (.int .i64 F) ∧ w8.cell? ⟨w6.heap.size, 2, none⟩ = some (.slice al (part l F m).length cl) ∧ w8.cell? ⟨w6.heap.size, 3, none⟩ = some (.slice ab ds.length cb)) := hideIt ⟨(hb8.cell (lt_of_cell HK1.out.1)).trans HK1.out.1, (hb8.cell (lt_of_cell HK1.out.2.1)).trans HK1.out.2.1, (hb8.cell (lt_of_cell HK1.out.2.2.1)).trans HK1.out.2.2.1, (hb8.cell (lt_of_cell HK1.out.2.2.2)).trans HK1.out.2.2.2⟩
         clear hb8)
      | (go_at_call 15
         refine (mCheck_any _ p O6 T6 root l.length F _ _ (part l F m) ds (HSW.out.next (below_drew W)).bk (HPW.out.next (below_drew W)) (by have := HT6.out; omega)).mono ?_
         rintro e w7 ⟨er, c, O7, T7, rfl, g1, g2, g3, g4⟩
         have hc : c = 0 := taken g2.exts g1.once HR6.out HP6.out.2.2 h0 HR.out (fun d hd => (HP6.out.2.1.1 d hd).1) g4
         subst hc
         obtain ⟨_, rfl⟩ := g3.form.resolve_right (fun h => h.1 rfl)
         have HS7 := hideIt ((HSW.out.next (below_drew W)).goes g1 g2)
         have HL7 := hideIt ((HLW.out.next (below_drew W)).goes g2)
         have HM7 := hideIt ((HMW.out.next (below_drew W)).goes g2)
         have HP7 := hideIt ((HPW.out.next (below_drew W)).goes g2)
         have HR7 := hideIt (HR6.out.more g2.exts)
         have HT7 : Hid (T7.length ≤ 6144) := hideIt (by have h := g2.len; have := HT6.out; omega)
         have HK1 : Hid (w7.cell? ⟨w6.heap.size, 0, none⟩ = some (.int .i64 l.length) ∧ w7.cell? ⟨w6.heap.size, 1, none⟩ = some (.int .i64 F) ∧ w7.cell? ⟨w6.heap.size, 2, none⟩ = some (.slice al (part l F m).length cl) ∧ w7.cell? ⟨w6.heap.size, 3, none⟩ = some (.slice ab ds.length cb)) := hideIt ⟨g2.cell (((below_drew W).cell (lt_of_cell c0)).trans c0) HNO.out, g2.cell (((below_drew W).cell (lt_of_cell c1)).trans c1) HNO.out, g2.cell (((below_drew W).cell (lt_of_cell c2)).trans c2) HNO.out, g2.cell (((below_drew W).cell (lt_of_cell c3)).trans c3) HNO.out⟩
         clear g1 g2 g3 g4))
  all_goals
    have HS8 := hideIt (HS7.out.next HB8.out)
    have HL8 := hideIt (HL7.out.next HB8.out)
    have HM8 := hideIt (HM7.out.next HB8.out)
    clear HS7 HL7 HM7 HP7 HK1 HK2 HB8 HPW HSW HLW HMW c0 c1 c2 c3 HCUT HCUT0 HQM q1 q2 q3 HP6 HR6 HT6
    by_cases hr2 : Right l2
    case' neg =>
      go_wp2_with fail
      refine (mRoot_bad w8 _ _ _ l2 HM8.out HA2.out.2.1 hr2).mono ?_
      rintro e w9 ⟨er, rfl, ho, hb9⟩
      obtain ⟨ty, z, rfl⟩ := ho.iface
      have HS9 := hideIt (HS8.out.next hb9)
      clear ho hb9 hr2
      go_wp2
      go_ret
      exact ⟨rfl, HS9.out.env.1⟩
    have HRR := hideIt hr2
    have HLE2 : Hid (cost l2.length + 1 ≤ 2048) := hideIt (by have := hr2.1; unfold cost; split <;> omega)
    clear hr2
    go_wp2_with fail
    refine (mRoot_ok w8 p O7 T7 _ l2 HS8.out.bk HM8.out (fun e he => (HA2.out.2.2 e he).2.2) HRR.out (by have := HLE2.out; have := HT7.out; omega)).mono ?_
    rintro e w9 ⟨d2, O9, T9, rfl, g1, g2, g3, g4⟩
    have HS9 := hideIt (HS8.out.goes g1 g2)
    have HL9 := hideIt (HL8.out.goes g2)
    have HM9 := hideIt (HM8.out.goes g2)
    have HQ := root_same g1.once (HR7.out.more g2.exts) g3 hl1 HRR.out.1
    obtain ⟨bq, hbq⟩ : ∃ bq, bq = decide (l = l2) := ⟨_, rfl⟩
    have hd : ((d2 : Int) == (root : Int)) = bq := by
      rw [hbq]
      by_cases h : l = l2
      · rw [decide_eq_true h, HQ.2 h]; simp
      · rw [decide_eq_false h]; simp; intro h2; exact h (HQ.1 (by omega))
    have HBQ := hideIt hbq
    clear g1 g2 g3 g4 HQ hbq HS8 HL8 HM8 HR7 HT7
    go_wp2_with fail
    have h := Same06_any _ _ _ _ l l2 w9 HL9.out HM9.out (by unfold maxLen; omega)
    rw [← HBQ.out] at h
    refine h.mono ?_
    clear h
    rintro e wz ⟨rfl, hbz⟩
    have HSZ := hideIt (HS9.out.next hbz)
    clear hbz HL9 HM9 HS9 HBQ
    cases bq
    all_goals
      go_wp2
      go_ret
      exact ⟨rfl, HSZ.out.env.1⟩
end Go.Proofs.YtmhbfplaglipnaaGreatDoor
