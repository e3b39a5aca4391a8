/-
  What is proved here: the walk of cohortlaw06.MerkleSizes, over this program.
-/
import Derived.Test.YtmhbfplaglipnaaGreatDoorMX
import Derived.Test.YtmhbfplaglipnaaGreatDoorArg6
namespace Go.Proofs.YtmhbfplaglipnaaGreatDoor
open Go.RowKit Go.Extern.Stop Go.Stop Go.Extern

/-- how many digests lie beside -/
theorem prov_sizes {T : List (List UInt8)} {l : List Ent} {F m f : Nat} {ds : List Int} (h0 : F + m ≤ l.length) (h : ProvIs T F m f 0 l ds []) :
    (m = 0 → ds.length = 1) ∧ (∀ h : Nat, 1 ≤ m → l.length ≤ 2 ^ h → ds.length ≤ 2 * h) ∧ (1 ≤ m → m = l.length → ds.length = 0) := by
  have hc := prov_cnt h
  simp only [List.length_nil, Nat.add_zero] at hc
  rw [hc]
  refine ⟨fun e => cntN_out (Or.inr (Or.inr e)), fun h h1 h2 => cnt_le h1 h2 (by omega) (by omega) (by omega), fun h1 h2 => cnt_in (by omega) (by omega) (by omega)⟩

set_option maxRecDepth 100000 in
set_option maxHeartbeats 16000000 in
theorem msizes_true (v : Value) (l : List Ent) (x y : UInt8) (w : World) (hv : EntsIn w (· < w.heap.size) v l) (hn : l.length ≤ maxLen) (hcap : ∀ a cap, v = .slice a l.length cap → l.length ≤ cap) (hm : ∀ e ∈ l, EntOk e) (hg : ET w) (ht : PT w) :
    Calls Tryz.prog 7 #[v, .int .u8 x.toNat, .int .u8 y.toNat] w fun e w' => e = .returned (.bool true) ∧ Below w.heap.size w w' := by
  have HV0 : Hid (Env w w) := ⟨Below.refl _ _, hg, ht⟩
  have HH := hideIt (fun (w' : World) (h : Env w w') => head06_true w' h.et h.pt)
  have HA := hideIt (And.intro hv (And.intro hn (And.intro hcap hm)))
  obtain ⟨a, cap, rfl⟩ := hv.form
  have hx : x.toNat < 256 := x.toNat_lt
  have hy : y.toNat < 256 := y.toNat_lt
  clear hg ht hv hn hcap hm
  go_enter Tryz.func7, Tryz.ntmps7
  go_wp2_with fail
  refine (HH.out w HV0.out).mono ?_
  rintro e w1 ⟨rfl, hb1⟩
  have HE1 : Hid (Below w.heap.size w w1) := hideIt hb1
  have HV1 := hideIt (HV0.out.next hb1)
  clear hb1 HH
  go_wp2_with fail
  refine (bNew_any w1).mono ?_
  rintro e w2 ⟨p, rfl, hs, hb⟩
  have HS2 := hideIt (St.new HV1.out hs hb)
  have HE2 := hideIt (HE1.out.trans (hb.mono HE1.out.size))
  obtain ⟨O2, hO2⟩ : ∃ O2 : Nat → Prop, O2 = fun k => w1.heap.size ≤ k ∧ k < w2.heap.size := ⟨_, rfl⟩
  rw [← hO2] at HS2
  have HO2 : Hid (∀ k, O2 k → w.heap.size ≤ k) := hideIt (fun k hk => by rw [hO2] at hk; exact Nat.le_trans HE1.out.size hk.1)
  clear hs hb hO2
  go_wp2_with fail
  refine (great06_any _ _ l w2 (RowIn.mono (RowIn.kept HA.out.1 (Kept.of_all HE2.out)) (fun _ _ h => h)) HA.out.2.1 (fun x hx => ⟨(HA.out.2.2.2 x hx).1, (HA.out.2.2.2 x hx).2.1⟩)).mono ?_
  rintro e w3 ⟨⟨g, rfl, hgl⟩, hb3⟩
  have HE3 := hideIt (HE2.out.trans (hb3.mono HE2.out.size))
  have HS3 := hideIt (HS2.out.next hb3)
  clear hb3 HE2 HS2
  cases g with
  | true =>
    go_wp2
    go_ret
    exact ⟨rfl, HS3.out.env.1⟩
  | false =>
  have hl6 : l.length ≤ 6000 := hgl rfl
  have HL3 : Hid (EntsAp w3 O2 (.slice a l.length cap) l) := hideIt (EntsAp.start HA.out.1 HE3.out HO2.out)
  obtain ⟨F, q, m, hFq, hmq, f1, f2, f3, f4⟩ := places x.toNat y.toNat l.length hl6
  have h0 : F + m ≤ l.length := by clear f1 f2 f3 f4; omega
  have f7 : (l.length : Int) - (F : Int) = (q : Int) := by clear f1 f2 f3 f4; omega
  clear hgl hFq hmq
  have f5 : ¬ ((q : Int) + 1 = 0) := by clear f1 f2 f3 f4; omega
  have f6 : ¬ (wrap64 (wrap64 ((l.length : Int) - (x.toNat : Int) % ((l.length : Int) + 1)) + 1) = 0) := by rw [f1, f2, f3]; exact f5
  by_cases hr : Right l
  case neg =>
    go_wp2_with fail
    rw [f1, f4]
    refine (mProve_bad w3 _ _ _ l F m HL3.out HA.out.2.1 hr).mono ?_
    rintro e w4 ⟨er, rfl, ho, hb4⟩
    obtain ⟨ty, z, rfl⟩ := ho.iface
    have HS4 := hideIt (HS3.out.next hb4)
    clear ho hb4 hr
    go_wp2
    go_ret
    exact ⟨rfl, HS4.out.env.1.alloc HS4.out.env.1.size _⟩
  case pos =>
  have HR := hideIt hr
  have HLE : Hid (cost l.length ≤ 2048) := hideIt (by have := hr.1; unfold cost; split <;> omega)
  have hl1 : l.length ≤ 1024 := hr.1
  clear hr
  go_wp2_with fail
  rw [f1, f4]
  clear hx hy
  refine (mProve_ok w3 p O2 [] _ l F m HS3.out.bk HL3.out (fun e he => (HA.out.2.2.2 e he).2.2) HR.out h0 (by simp; have := HLE.out; omega) HA.out.2.2.1).mono ?_
  rintro e w4 ⟨f, vl, vb, ds, O4, T4, rfl, g1, g2, g3, g4, g5⟩
  have HS4 := hideIt (HS3.out.goes g1 g2)
  obtain ⟨al, cl, rfl⟩ := g3.1.form
  obtain ⟨ab, cb, rfl⟩ := NumsIn.form g3.2
  have HSZ := hideIt (prov_sizes h0 g5)
  have hd := g4.2
  clear g1 g2 g3 g4 g5 HS3 HL3 f1 f2 f3 f4 f5 f6 f7 HLE HR
  obtain ⟨W, hW, hwb, hws, hc4, _⟩ := room4 w4 25 (.int .i64 l.length) (.int .i64 F) (.slice al (part l F m).length cl) (.slice ab ds.length cb)
  obtain ⟨c0, c1, c2, c3⟩ := hc4
  have HBW := hideIt (HS4.out.env.1.trans (hwb.mono HS4.out.env.1.size))
  clear hwb hws HS4 HA HV0 HV1 HE1 HE3 HO2
  go_wp2
  rw [← hW]
  clear hW
  have hhl : ds.length ≤ 1024 := by omega
  generalize l.length = n at *
  go_loop [13, 14] (fun mv kv => ∃ h K : Nat, mv = .int .i64 (2 * (h : Int) + 2) ∧ kv = .int .i64 K ∧ 1 ≤ K ∧ K ≤ 2048 ∧ h ≤ K ∧ Hid (K = 2 ^ h)) (fun _ kv => 2048 - (intOf kv).toNat)
  case atStart => exact ⟨0, 1, rfl, rfl, by omega, by omega, by omega, hideIt rfl⟩
  case round =>
    obtain ⟨h, K, rfl, rfl, h1, h2, h3, h4⟩ := hrel
    by_cases hk : K < n
    case pos =>
      have hk2 : (K : Int) < (n : Int) := by omega
      go_wp2
      go_round
      case rel => exact ⟨h + 1, 2 * K, by go_num, by go_num, by omega, by omega, by omega, hideIt (by rw [h4.out, Nat.pow_succ]; omega)⟩
      case measure => simp [intOf]; omega
    case neg =>
      have hk2 : ¬ (K : Int) < (n : Int) := by omega
      have hz := HSZ.out.2.1 h
      rw [← h4.out] at hz
      by_cases hm0 : m = 0
      case pos =>
        have e1 := HSZ.out.1 hm0
        subst hm0
        rw [e1] at c3 ⊢
        clear hz e1 HSZ
        go_wp2
        go_ret
        exact ⟨rfl, HBW.out⟩
      case neg =>
      have j1 : ¬ ((m : Int) = 0) := by omega
      have j2 : (ds.length : Int) ≤ 2 * (h : Int) + 2 := by have := hz (by omega) (by omega); omega
      have HS := hideIt (HSZ.out.2.2 (by omega))
      clear hz HSZ
      by_cases hmn : m < n
      case pos =>
        have j3 : (m : Int) < (n : Int) := by omega
        clear HS
        go_wp2
        go_ret
        exact ⟨rfl, HBW.out⟩
      case neg =>
        have j3 : ¬ ((m : Int) < (n : Int)) := by omega
        have j4 : (ds.length : Int) = 0 := by have := HS.out (by omega); omega
        clear HS
        go_wp2
        go_ret
        exact ⟨rfl, HBW.out⟩
end Go.Proofs.YtmhbfplaglipnaaGreatDoor
