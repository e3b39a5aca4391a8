/-
  What is proved here: the walk of cohortlaw06.MerkleHas, over this program.
-/
import Derived.Test.YtmhbfplaglipnaaGreatDoorMX
import Derived.Test.YtmhbfplaglipnaaGreatDoorArg6
namespace Go.Proofs.YtmhbfplaglipnaaGreatDoor
open Go.RowKit Go.Extern.Stop Go.Stop Go.Extern

/-- what Has tells of the root's entries -/
theorem has_plain {l : List Ent} {F : Nat} {L : List Ent} {key : List UInt8} (hr : Right l) (hL : L = part l F L.length) :
    (∀ x, findE L key = some x → x.1 = key ∧ ∃ i : Nat, l[i]? = some x) ∧
    (findE L key = none → reachB F L key = true → reachT l.length F L key = true → ∀ (i : Nat) e, l[i]? = some e → e.1 ≠ key) := by
  have hg : ∀ j, j < L.length → L[j]? = l[F + j]? := fun j hj => by
    have := part_get (l := l) (F := F) (m := L.length) hj
    rw [← hL] at this
    exact this
  refine ⟨fun x hx => ?_, fun hn hb ht i e he ek => ?_⟩
  · unfold findE at hx
    refine ⟨by simpa using List.find?_some hx, ?_⟩
    obtain ⟨j, hj⟩ := List.getElem?_of_mem (List.mem_of_find?_eq_some hx)
    exact ⟨F + j, by rw [← hg j (List.getElem?_eq_some_iff.1 hj).1]; exact hj⟩
  · have hil : i < l.length := (List.getElem?_eq_some_iff.1 he).1
    by_cases c1 : i < F
    · unfold reachB at hb
      rw [Bool.or_eq_true] at hb
      rcases hb with hb | hb
      · have := eq_of_beq hb; omega
      · cases h0 : L[0]? with
        | none => rw [h0] at hb; cases hb
        | some e0 =>
          rw [h0] at hb
          have hl0 : 0 < L.length := (List.getElem?_eq_some_iff.1 h0).1
          have h1 := right_rise hr (j := F + 0) (by omega) he (by rw [← hg 0 hl0]; exact h0)
          rw [ek] at h1
          exact kLt_asymm h1 hb
    · by_cases c2 : i < F + L.length
      · have h1 := hg (i - F) (by omega)
        rw [show F + (i - F) = i by omega, he] at h1
        unfold findE at hn
        have := List.find?_eq_none.1 hn e (List.mem_of_getElem? h1)
        simp [ek] at this
      · unfold reachT reachE at ht
        rw [Bool.or_eq_true] at ht
        rcases ht with ht | ht
        · have := eq_of_beq ht; omega
        · cases h0 : L[L.length - 1]? with
          | none => rw [h0] at ht; cases ht
          | some e1 =>
            rw [h0] at ht
            have hl0 : L.length - 1 < L.length := (List.getElem?_eq_some_iff.1 h0).1
            have h1 := right_rise hr (i := F + (L.length - 1)) (by omega) (by rw [← hg _ hl0]; exact h0) he
            rw [ek] at h1
            unfold kLt at h1
            simp only [h1] at ht
            cases ht

set_option maxRecDepth 100000 in
set_option maxHeartbeats 16000000 in
theorem mhas_true (v : Value) (l : List Ent) (key : List UInt8) (N F : Int) (vl vb : Value) (L : List Ent) (Bs : List Int) (w : World) (hv : EntsIn w (· < w.heap.size) v l) (hn : l.length ≤ maxLen) (hcap : ∀ a cap, v = .slice a l.length cap → l.length ≤ cap) (hm : ∀ e ∈ l, EntOk e) (hp : ProofOk w (fun _ => False) N F vl vb L Bs) (hpm : ∀ e ∈ L, EntOk e) (hg : ET w) (ht : PT w) :
    Calls Tryz.prog 5 #[v, .string ⟨key.toArray⟩, .agg #[.int .i64 N, .int .i64 F, vl, vb]] w fun e w' => e = .returned (.bool true) ∧ Below w.heap.size w w' := by
  have HV0 : Hid (Env w w) := ⟨Below.refl _ _, hg, ht⟩
  have HH := hideIt (fun (w' : World) (h : Env w w') => head06_true w' h.et h.pt)
  have HA := hideIt (And.intro hv (And.intro hn (And.intro hcap (And.intro hm (And.intro hp hpm)))))
  obtain ⟨a, cap, rfl⟩ := hv.form
  obtain ⟨al, cl, rfl⟩ := hp.ap.1.form
  obtain ⟨ab, cb, rfl⟩ := NumsIn.form hp.ap.2
  obtain ⟨W, hW, hwb, hws, hc4, _⟩ := room4 w 25 (.int .i64 N) (.int .i64 F) (.slice al L.length cl) (.slice ab Bs.length cb)
  have HC := hideIt hc4
  have HVW := hideIt (HV0.out.next hwb)
  have HWS := hideIt hws
  have HWB := hideIt hwb
  clear hg ht hv hn hcap hm hp hpm hc4 hwb hws
  go_enter Tryz.func5, Tryz.ntmps5
  go_wp2_with fail
  rw [← hW]
  clear hW
  refine (HH.out W HVW.out).mono ?_
  rintro e w1 ⟨rfl, hb1⟩
  have HE1 : Hid (Below W.heap.size W w1) := hideIt hb1
  have HV1 := hideIt (HVW.out.next hb1)
  clear hb1 HH
  go_wp2_with fail
  refine (bNew_any w1).mono ?_
  rintro e w2 ⟨p, rfl, hs, hb⟩
  have HS2 := hideIt (St.new HV1.out hs hb)
  have HE2 := hideIt (HE1.out.trans (hb.mono HE1.out.size))
  obtain ⟨O2, hO2⟩ : ∃ O2 : Nat → Prop, O2 = fun k => w1.heap.size ≤ k ∧ k < w2.heap.size := ⟨_, rfl⟩
  rw [← hO2] at HS2
  have HO2 : Hid (∀ k, O2 k → W.heap.size ≤ k) := hideIt (fun k hk => by rw [hO2] at hk; exact Nat.le_trans HE1.out.size hk.1)
  clear hs hb hO2
  go_wp2_with fail
  refine (great06_any _ _ l w2 (HA.out.1.kept (Kept.of_below (HWB.out.trans (HE2.out.mono HWB.out.size)) (fun _ h _ => h))) HA.out.2.1 (fun x hx => ⟨(HA.out.2.2.2.1 x hx).1, (HA.out.2.2.2.1 x hx).2.1⟩)).mono ?_
  rintro e w3 ⟨⟨g, rfl, hgl⟩, hb3⟩
  have HE3 := hideIt (HE2.out.trans (hb3.mono HE2.out.size))
  have HS3 := hideIt (HS2.out.next hb3)
  clear hb3 hgl HE2 HS2
  cases g with
  | true =>
    go_wp2
    go_ret
    exact ⟨rfl, HS3.out.env.1⟩
  | false =>
  have c0 := (HE3.out.cell (lt_of_cell HC.out.1)).trans HC.out.1
  have c1 := (HE3.out.cell (lt_of_cell HC.out.2.1)).trans HC.out.2.1
  have c2 := (HE3.out.cell (lt_of_cell HC.out.2.2.1)).trans HC.out.2.2.1
  have c3 := (HE3.out.cell (lt_of_cell HC.out.2.2.2)).trans HC.out.2.2.2
  have HP3 : Hid (ProofOk w3 O2 N F (.slice al L.length cl) (.slice ab Bs.length cb) L Bs) := hideIt (HA.out.2.2.2.2.1.start (HWB.out.trans (HE3.out.mono HWB.out.size)) (fun k hk => Nat.le_trans HWB.out.size (HO2.out k hk)))
  have HL3 : Hid (EntsAp w3 O2 (.slice a l.length cap) l) := hideIt (EntsAp.start HA.out.1 (HWB.out.trans (HE3.out.mono HWB.out.size)) (fun k hk => Nat.le_trans HWB.out.size (HO2.out k hk)))
  have HNO : Hid (¬ O2 w.heap.size) := hideIt (fun o => by have := HO2.out _ o; have := HWS.out; omega)
  go_wp2_with fail
  refine (greatP06_any _ N F _ ab Bs.length cb L w3 HP3.out.ap.1 HP3.out.lL (fun x hx => ⟨(HA.out.2.2.2.2.2 x hx).1, (HA.out.2.2.2.2.2 x hx).2.1⟩) HP3.out.lB).mono ?_
  rintro e w4 ⟨⟨g, rfl, _⟩, hb4⟩
  have HS4 := hideIt (HS3.out.next hb4)
  have HP4 := hideIt (HP3.out.next hb4)
  have HL4 := hideIt (HL3.out.next hb4)
  have d0 := (hb4.cell (lt_of_cell c0)).trans c0
  have d1 := (hb4.cell (lt_of_cell c1)).trans c1
  have d2 := (hb4.cell (lt_of_cell c2)).trans c2
  have d3 := (hb4.cell (lt_of_cell c3)).trans c3
  clear hb4 HS3 HP3 HL3 c0 c1 c2 c3 HE3
  cases g with
  | true =>
    go_wp2
    go_ret
    exact ⟨rfl, HS4.out.env.1⟩
  | false =>
  by_cases hr : Right l
  case neg =>
    go_wp2_with fail
    refine (mRoot_bad w4 _ _ _ l HL4.out HA.out.2.1 hr).mono ?_
    rintro e w5 ⟨er, rfl, ho, hb5⟩
    obtain ⟨ty, y, rfl⟩ := ho.iface
    have HS5 := hideIt (HS4.out.next hb5)
    have HP5 := hideIt (HP4.out.next hb5)
    have c0 := (hb5.cell (lt_of_cell d0)).trans d0
    have c1 := (hb5.cell (lt_of_cell d1)).trans d1
    have c2 := (hb5.cell (lt_of_cell d2)).trans d2
    have c3 := (hb5.cell (lt_of_cell d3)).trans d3
    clear ho hb5 hr HS4 HP4 HL4 HO2 HE1 HV0 HV1 d0 d1 d2 d3
    go_wp2_with fail
    refine (mHas_any w5 p O2 [] (-1) N F _ _ L Bs key HS5.out.bk HP5.out (by simp)).mono ?_
    rintro e w6 ⟨er, c, x, is, O6, T6, rfl, g1, g2, g3, g4⟩
    have HS6 := hideIt (HS5.out.goes g1 g2)
    obtain rfl : is = false := by
      obtain ⟨c0, h1, h2⟩ := g4
      rcases h2 with ⟨_, _, _, h⟩ | ⟨h, _⟩ | ⟨_, _, h, _⟩
      · exact h
      · rcases h1 with ⟨_, _, f, t, _, _, hd⟩ | ⟨h1, _⟩ | ⟨h1, _⟩
        · have := hd.1; omega
        · omega
        · omega
      · exact h
    have hf : (∃ t x, er = .iface t x) ∨ er = .nilIface := by
      rcases g3.form with ⟨_, h⟩ | ⟨_, h⟩
      · exact Or.inr h
      · exact Or.inl h
    clear g1 g2 g3 g4
    unfold entV
    rcases hf with ⟨ty2, y2, rfl⟩ | rfl
    all_goals
      go_wp2
      go_ret
      exact ⟨rfl, HS6.out.env.1.alloc HS6.out.env.1.size _⟩
  case pos =>
  have HR := hideIt hr
  have HLE : Hid (cost l.length + 1 ≤ 2048) := hideIt (by have := hr.1; unfold cost; split <;> omega)
  have hll : l.length ≤ 1024 := hr.1
  clear hr
  go_wp2_with fail
  refine (mRoot_ok w4 p O2 [] _ l HS4.out.bk HL4.out (fun e he => (HA.out.2.2.2.1 e he).2.2) HR.out (by simp; have := HLE.out; omega)).mono ?_
  rintro e w5 ⟨root, O5, T5, rfl, g1, g2, g3, g4⟩
  have HS5 := hideIt (HS4.out.goes g1 g2)
  have HP5 := hideIt (HP4.out.goes g2)
  have HL5 := hideIt (HL4.out.goes g2)
  have HT5 : Hid (T5.length ≤ 3000) := hideIt (by have h := g2.len; simp at h; have := HLE.out; omega)
  have HR5 := hideIt g3
  have c0 := g2.cell d0 HNO.out
  have c1 := g2.cell d1 HNO.out
  have c2 := g2.cell d2 HNO.out
  have c3 := g2.cell d3 HNO.out
  clear g1 g2 g3 HS4 HP4 HL4 d0 d1 d2 d3 HNO HLE HO2 HE1 HV0 HV1
  go_wp2_with fail
  refine (mHas_any w5 p O5 T5 root N F _ _ L Bs key HS5.out.bk HP5.out (by have := HT5.out; omega)).mono ?_
  rintro e w6 ⟨er, c, x, is, O6, T6, rfl, g1, g2, g3, g4⟩
  have HS6 := hideIt (HS5.out.goes g1 g2)
  have HL6 := hideIt (HL5.out.goes g2)
  rcases g3.form with ⟨hc, rfl⟩ | ⟨hc, ty, y, rfl⟩
  case inr =>
    obtain rfl : is = false := by
      obtain ⟨c0, h1, h2⟩ := g4
      rcases h2 with ⟨_, _, _, h⟩ | ⟨_, _, _, h⟩ | ⟨_, _, h, _⟩
      · exact h
      · exact absurd h hc
      · exact h
    clear g1 g2 g3 g4 hc c0 c1 c2 c3
    unfold entV
    go_wp2
    go_ret
    exact ⟨rfl, HS6.out.env.1.alloc HS6.out.env.1.size _⟩
  case inl =>
  have HX : Hid ((is = false → ∀ (i : Nat) e, l[i]? = some e → e.1 ≠ key) ∧ (is = true → x.1 = key ∧ ∃ i : Nat, l[i]? = some x)) := hideIt (by
    obtain ⟨z, h1, h2⟩ := g4
    have hz : z = 0 := by
      rcases h2 with ⟨h, h3, _⟩ | ⟨h, _⟩ | ⟨h, _⟩
      · omega
      · exact h
      · exact h
    have hs : Shaped N F L Bs ∧ RootMade T6 N.toNat F.toNat L Bs root := by
      rcases h1 with ⟨_, h1, h2⟩ | ⟨e, _⟩ | ⟨e, _⟩
      · exact ⟨h1, h2⟩
      · omega
      · omega
    obtain ⟨m1, m2, m3, m4⟩ := made_leaves HR.out.1 (HR5.out.more g2.exts) hs.1 hs.2
    obtain ⟨F', hF'⟩ : ∃ F' : Nat, F = F' := ⟨F.toNat, by omega⟩
    subst hF' m1
    have hp := has_plain (key := key) HR.out m4
    rcases h2 with ⟨h, _⟩ | ⟨_, h, hi, _⟩ | ⟨_, h, hi, _, h3⟩
    · exact absurd hz h
    · exact ⟨fun e => (by rw [hi] at e; cases e), fun _ => hp.1 x h⟩
    · refine ⟨fun _ => ?_, fun e => (by rw [hi] at e; cases e)⟩
      by_cases hb : (reachB F' L key && reachT l.length F' L key) = true
      · rw [Bool.and_eq_true] at hb
        exact hp.2 h hb.1 hb.2
      · rw [if_neg hb] at h3; omega)
  clear g1 g2 g3 g4 hc c0 c1 c2 c3 HS5 HP5 HL5 HR5 HT5
  unfold entV
  obtain ⟨W6, hW, hwb, hws, y0, y1, y2⟩ := room3 w6 42 (.string ⟨x.1.toArray⟩) (.string ⟨x.2.1.toArray⟩) (.int .i64 x.2.2)
  have HBW := hideIt (HS6.out.env.1.trans (hwb.mono HS6.out.env.1.size))
  have HLW := hideIt (HL6.out.next hwb)
  clear hwb hws
  go_wp2
  rw [← hW]
  clear hW HS6 HL6 HA
  go_loopw [14, 15] (fun tv iv wr => ∃ (t : Bool) (k : Nat), k ≤ l.length ∧ tv = .bool t ∧ iv = .int .i64 k ∧ Hid ((is = false → t = false) ∧ (is = true → ∀ i, l[i]? = some x → i < k → t = true)) ∧ Hid (Below W6.heap.size W6 wr)) (fun _ iv _ => l.length - (intOf iv).toNat)
  case atStart => exact ⟨false, 0, Nat.zero_le _, rfl, rfl, hideIt ⟨fun _ => rfl, fun _ i _ h => by omega⟩, Below.refl _ _⟩
  case round =>
    obtain ⟨t, k, hk, rfl, rfl, HT, HB⟩ := hrel
    have t0 := (HB.out.cell (lt_of_cell y0)).trans y0
    have t1 := (HB.out.cell (lt_of_cell y1)).trans y1
    have t2 := (HB.out.cell (lt_of_cell y2)).trans y2
    by_cases hlt : k < l.length
    case pos =>
      obtain ⟨e, he⟩ : ∃ e, l[k]? = some e := ⟨l[k], by simp [hlt]⟩
      have HEN := hideIt (HLW.out.next HB.out)
      obtain ⟨b, off, rfl, _, e0, e1, e2⟩ := EntsIn.at HEN.out he
      by_cases hek : e.1 = key
      case pos =>
        have hq : (e.1 == key) = true := by simp [hek]
        have hex : is = true ∧ e = x := by
          cases is with
          | false => exact absurd hek (HX.out.1 rfl k e he)
          | true =>
            obtain ⟨h1, i0, h2⟩ := HX.out.2 rfl
            exact ⟨rfl, right_one HR.out he h2 (by rw [hek, h1])⟩
        obtain ⟨hi, hx⟩ := hex
        have HI := hideIt hi
        subst hx
        have hneq := fun w => neq_ent e e w
        rw [show decide (e = e) = true from decide_eq_true rfl] at hneq
        clear he hek hi
        go_wp2_with fail
        go_quiet (fail)
        have HB3 := hideIt (HB.out.trans ((below_drewN wr nq).mono HB.out.size))
        go_wp2
        exact ⟨⟨true, k + 1, by omega, rfl, by go_num, hideIt ⟨fun h => (by have := HI.out; rw [h] at this; cases this), fun _ _ _ _ => rfl⟩, HB3.out⟩, by simp [intOf]; omega⟩
      case neg =>
        have hq : (e.1 == key) = false := by simp [hek]
        have HT2 : Hid ((is = false → t = false) ∧ (is = true → ∀ i, l[i]? = some x → i < k + 1 → t = true)) := hideIt ⟨HT.out.1, fun hi i hx hik => by
          by_cases hc : i = k
          · subst hc
            rw [he] at hx
            cases hx
            exact absurd (HX.out.2 hi).1 hek
          · exact HT.out.2 hi i hx (by omega)⟩
        clear he hek
        go_wp2
        exact ⟨⟨t, k + 1, by omega, rfl, by go_num, HT2, HB.out⟩, by simp [intOf]; omega⟩
    case neg =>
      have hti : t = is := by
        cases is with
        | false => exact HT.out.1 rfl
        | true =>
          obtain ⟨h1, i0, h2⟩ := HX.out.2 rfl
          exact HT.out.2 rfl i0 h2 (by have := (List.getElem?_eq_some_iff.1 h2).1; omega)
      subst hti
      have HBF := hideIt (HBW.out.trans (HB.out.mono HBW.out.size))
      clear HT HX
      cases t
      all_goals
        go_wp2
        go_ret
        exact ⟨rfl, HBF.out⟩
end Go.Proofs.YtmhbfplaglipnaaGreatDoor
