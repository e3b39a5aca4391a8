/-
  What is proved here: the walk of cohortlaw06.MerkleNothing, over this program.
-/
import Derived.Test.YtmhbfplaglipnaaGreatDoorMX
import Derived.Test.YtmhbfplaglipnaaGreatDoorArg6
namespace Go.Proofs.YtmhbfplaglipnaaGreatDoor
open Go.RowKit Go.Extern.Stop Go.Stop Go.Extern

set_option maxRecDepth 100000 in
set_option maxHeartbeats 16000000 in
theorem mnothing_true (v : Value) (l : List Ent) (N F : Int) (vl vb : Value) (L : List Ent) (Bs : List Int) (w : World) (hv : EntsIn w (· < w.heap.size) v l) (hn : l.length ≤ maxLen) (hcap : ∀ a cap, v = .slice a l.length cap → l.length ≤ cap) (hm : ∀ e ∈ l, EntOk e) (hp : ProofOk w (fun _ => False) N F vl vb L Bs) (hpm : ∀ e ∈ L, EntOk e) (hg : ET w) (ht : PT w) :
    Calls Tryz.prog 3 #[v, .agg #[.int .i64 N, .int .i64 F, vl, vb]] w fun e w' => e = .returned (.bool true) ∧ Below w.heap.size w w' := by
  have HV0 : Hid (Env w w) := ⟨Below.refl _ _, hg, ht⟩
  have HH := hideIt (fun (w' : World) (h : Env w w') => head06_true w' h.et h.pt)
  have HA := hideIt (And.intro hv (And.intro hn (And.intro hcap (And.intro hm (And.intro hp hpm)))))
  obtain ⟨a, cap, rfl⟩ := hv.form
  obtain ⟨al, cl, rfl⟩ := hp.ap.1.form
  obtain ⟨ab, cb, rfl⟩ := NumsIn.form hp.ap.2
  obtain ⟨W, hW, hwb, hws, hc4, _⟩ := room4 w 25 (.int .i64 N) (.int .i64 F) (.slice al L.length cl) (.slice ab Bs.length cb)
  have HC := hideIt hc4
  have HVW := hideIt (HV0.out.next hwb)
  have HWS := hideIt hws
  have HWB := hideIt hwb
  clear hg ht hv hn hcap hm hp hpm hc4 hwb hws
  go_enter Tryz.func3, Tryz.ntmps3
  go_wp2_with fail
  rw [← hW]
  clear hW
  refine (HH.out W HVW.out).mono ?_
  rintro e w1 ⟨rfl, hb1⟩
  have HE1 : Hid (Below W.heap.size W w1) := hideIt hb1
  have HV1 := hideIt (HVW.out.next hb1)
  clear hb1 HH
  go_wp2_with fail
  refine (bNew_any w1).mono ?_
  rintro e w2 ⟨p, rfl, hs, hb⟩
  have HS2 := hideIt (St.new HV1.out hs hb)
  have HE2 := hideIt (HE1.out.trans (hb.mono HE1.out.size))
  obtain ⟨O2, hO2⟩ : ∃ O2 : Nat → Prop, O2 = fun k => w1.heap.size ≤ k ∧ k < w2.heap.size := ⟨_, rfl⟩
  rw [← hO2] at HS2
  have HO2 : Hid (∀ k, O2 k → W.heap.size ≤ k) := hideIt (fun k hk => by rw [hO2] at hk; exact Nat.le_trans HE1.out.size hk.1)
  clear hs hb hO2
  go_wp2_with fail
  refine (great06_any _ _ l w2 (HA.out.1.kept (Kept.of_below (HWB.out.trans (HE2.out.mono HWB.out.size)) (fun _ h _ => h))) HA.out.2.1 (fun x hx => ⟨(HA.out.2.2.2.1 x hx).1, (HA.out.2.2.2.1 x hx).2.1⟩)).mono ?_
  rintro e w3 ⟨⟨g, rfl, hgl⟩, hb3⟩
  have HE3 := hideIt (HE2.out.trans (hb3.mono HE2.out.size))
  have HS3 := hideIt (HS2.out.next hb3)
  clear hb3 hgl HE2 HS2
  cases g with
  | true =>
    go_wp2
    go_ret
    exact ⟨rfl, HS3.out.env.1⟩
  | false =>
  have c0 := (HE3.out.cell (lt_of_cell HC.out.1)).trans HC.out.1
  have c1 := (HE3.out.cell (lt_of_cell HC.out.2.1)).trans HC.out.2.1
  have c2 := (HE3.out.cell (lt_of_cell HC.out.2.2.1)).trans HC.out.2.2.1
  have c3 := (HE3.out.cell (lt_of_cell HC.out.2.2.2)).trans HC.out.2.2.2
  have HP3 : Hid (ProofOk w3 O2 N F (.slice al L.length cl) (.slice ab Bs.length cb) L Bs) := hideIt (HA.out.2.2.2.2.1.start (HWB.out.trans (HE3.out.mono HWB.out.size)) (fun k hk => Nat.le_trans HWB.out.size (HO2.out k hk)))
  have HL3 : Hid (EntsAp w3 O2 (.slice a l.length cap) l) := hideIt (EntsAp.start HA.out.1 (HWB.out.trans (HE3.out.mono HWB.out.size)) (fun k hk => Nat.le_trans HWB.out.size (HO2.out k hk)))
  have HNO : Hid (¬ O2 w.heap.size) := hideIt (fun o => by have := HO2.out _ o; have := HWS.out; omega)
  go_wp2_with fail
  refine (greatP06_any _ N F _ ab Bs.length cb L w3 HP3.out.ap.1 HP3.out.lL (fun x hx => ⟨(HA.out.2.2.2.2.2 x hx).1, (HA.out.2.2.2.2.2 x hx).2.1⟩) HP3.out.lB).mono ?_
  rintro e w4 ⟨⟨g, rfl, _⟩, hb4⟩
  have HS4 := hideIt (HS3.out.next hb4)
  have HP4 := hideIt (HP3.out.next hb4)
  have HL4 := hideIt (HL3.out.next hb4)
  have d0 := (hb4.cell (lt_of_cell c0)).trans c0
  have d1 := (hb4.cell (lt_of_cell c1)).trans c1
  have d2 := (hb4.cell (lt_of_cell c2)).trans c2
  have d3 := (hb4.cell (lt_of_cell c3)).trans c3
  clear hb4 HS3 HP3 HL3 c0 c1 c2 c3 HE3
  cases g with
  | true =>
    go_wp2
    go_ret
    exact ⟨rfl, HS4.out.env.1⟩
  | false =>
  by_cases hr : Right l
  case neg =>
    go_wp2_with fail
    refine (mRoot_bad w4 _ _ _ l HL4.out HA.out.2.1 hr).mono ?_
    rintro e w5 ⟨er, rfl, ho, hb5⟩
    obtain ⟨ty, y, rfl⟩ := ho.iface
    have HS5 := hideIt (HS4.out.next hb5)
    clear ho hb5 hr
    go_wp2
    go_ret
    exact ⟨rfl, HS5.out.env.1⟩
  case pos =>
  have HR := hideIt hr
  have HLE : Hid (cost l.length + 1 ≤ 2048) := hideIt (by have := hr.1; unfold cost; split <;> omega)
  clear hr
  go_wp2_with fail
  refine (mRoot_ok w4 p O2 [] _ l HS4.out.bk HL4.out (fun e he => (HA.out.2.2.2.1 e he).2.2) HR.out (by simp; have := HLE.out; omega)).mono ?_
  rintro e w5 ⟨root, O5, T5, rfl, g1, g2, g3, g4⟩
  have HS5 := hideIt (HS4.out.goes g1 g2)
  have HP5 := hideIt (HP4.out.goes g2)
  have HL5 := hideIt (HL4.out.goes g2)
  have HT5 : Hid (T5.length ≤ 3000) := hideIt (by have h := g2.len; simp at h; have := HLE.out; omega)
  have HR5 := hideIt g3
  have HN5 : Hid (¬ O5 w.heap.size) := hideIt (g2.not (lt_of_cell d0) HNO.out)
  have c0 := g2.cell d0 HNO.out
  have c1 := g2.cell d1 HNO.out
  have c2 := g2.cell d2 HNO.out
  have c3 := g2.cell d3 HNO.out
  clear g1 g2 g3 HS4 HP4 HL4 d0 d1 d2 d3 HNO
  go_wp2_with fail
  refine (mCheck_any w5 p O5 T5 root N F _ _ L Bs HS5.out.bk HP5.out (by have := HT5.out; omega)).mono ?_
  rintro e w6 ⟨er, c, O6, T6, rfl, g1, g2, g3, g4⟩
  rcases g3.form with ⟨hc, rfl⟩ | ⟨hc, ty, y, rfl⟩
  case inr =>
    have HS6 := hideIt (HS5.out.goes g1 g2)
    clear g1 g2 g3 g4 hc
    go_wp2
    go_ret
    exact ⟨rfl, HS6.out.env.1⟩
  case inl =>
  have hs : Shaped N F L Bs ∧ RootMade T6 N.toNat F.toNat L Bs root := by
    rcases g4 with ⟨_, h1, h2⟩ | ⟨e, _⟩ | ⟨e, _⟩
    · exact ⟨h1, h2⟩
    · omega
    · omega
  have hml := made_leaves HR.out.1 (HR5.out.more g2.exts) hs.1 hs.2
  have HS6 := hideIt (HS5.out.goes g1 g2)
  have HP6 := hideIt (HP5.out.goes g2)
  have HL6 := hideIt (HL5.out.goes g2)
  have d0 := g2.cell c0 HN5.out
  have d1 := g2.cell c1 HN5.out
  have d2 := g2.cell c2 HN5.out
  have d3 := g2.cell c3 HN5.out
  clear g1 g2 g3 g4 hc hs HS5 HP5 HL5 c0 c1 c2 c3
  obtain ⟨m1, m2, m3, m4⟩ := hml
  obtain ⟨F', hF'⟩ : ∃ F' : Nat, F = F' := ⟨F.toNat, by omega⟩
  subst hF' m1
  simp only [Int.toNat_natCast] at m3 m4
  have hcp := HA.out.2.2.1 a cap rfl
  have hll := HR.out.1
  have q1 : (F' : Int) + (L.length : Int) ≤ (cap : Int) := by omega
  have q2 : (F' : Int) ≤ (F' : Int) + (L.length : Int) := by omega
  have q3 : (F' : Int) + (L.length : Int) ≤ (l.length : Int) := by omega
  have q4 : (0 : Int) ≤ (F' : Int) := by omega
  have HM := hideIt m4
  clear m2 m4 hcp
  have hPL : L.length ≤ 100000 := by omega
  have HSM : Hid (∀ (va vb : Value) (wq : World), EntsIn wq (· < wq.heap.size) va (part l F' L.length) → EntsIn wq (· < wq.heap.size) vb (part l F' L.length) → Calls Tryz.prog 16 #[va, vb] wq fun e w' => e = .returned (.bool true) ∧ Below wq.heap.size wq w') := hideIt (fun va vb wq h1 h2 => (Same06_any _ _ va vb _ _ wq h1 h2 (by rw [part_length (by omega)]; unfold maxLen; omega)).mono (fun e w' h => ⟨by simpa using h.1, h.2⟩))
  have HCL := hideIt (show EntsIn w6 (· < w6.heap.size) (.slice al L.length cl) (part l F' L.length) by rw [← HM.out]; exact HP6.out.ap.1.mono (A' := (· < w6.heap.size)) (fun _ h _ => h.1))
  have HCUT := hideIt (fun hne => (ents_cut HL6.out F' L.length (by omega) hne).mono (A' := (· < w6.heap.size)) (fun _ h _ => h.1))
  have HCUT0 := hideIt (fun (h : cap = F') => (ents_cut0 (w := w6) (A := (· < w6.heap.size)) (a := a) (l := l) (F := F') (show L.length = 0 by omega) (by omega)))
  have HL := hideIt (show (l.length : Int) = (l.length : Int) from rfl)
  clear HN5 HR5 HLE HR HM HP6 HL6
  by_cases hcf : cap = F'
  case' pos =>
    have HE : Hid (EntsIn w6 (· < w6.heap.size) (.slice a 0 0) (part l F' L.length)) := hideIt (by rw [show Value.slice a 0 0 = .slice a L.length 0 by rw [show L.length = 0 by omega]]; exact HCUT0.out hcf)
    have hcf2 := hcf.symm
    clear hcf
    subst hcf2
  case' neg =>
    have HE := hideIt (HCUT.out hcf)
  all_goals
    clear HCUT HCUT0
    go_wp2_with fail
    refine wp_region_quiet_grow (by kernel_rfl) (by kernel_rfl) ?_
    intro ι _ f hf hn
    have r0 := fun i => ((hf i).cell (lt_of_cell d0)).trans d0
    have r1 := fun i => ((hf i).cell (lt_of_cell d1)).trans d1
    have r2 := fun i => ((hf i).cell (lt_of_cell d2)).trans d2
    have HSF := hideIt (fun i => HS6.out.next (hf i))
    have HNN := hideIt hn
    have HA1 := hideIt (fun i => HSM.out _ _ (f i) (RowIn.mono (RowIn.kept HCL.out (Kept.of_all (hf i))) (fun _ _ h => h)) (RowIn.mono (RowIn.kept HE.out (Kept.of_all (hf i))) (fun _ _ h => h)))
    clear hf hn HSM HCL HE HS6 d0 d1 d2 d3
    repeat (go_big_quiet_step ((go_at_call 16; exact Calls.grow HNN.out (HA1.out _))))
    refine wpQuiet_nil ?_
    rintro w8 ⟨i, rfl⟩
    have HS8 := hideIt (HSF.out i)
    clear HSF HA1 HNN r0 r1 r2
    generalize f i = w8 at HS8 ⊢
    clear f
    go_wp2
    go_ret
    exact ⟨rfl, HS8.out.env.1⟩
end Go.Proofs.YtmhbfplaglipnaaGreatDoor
