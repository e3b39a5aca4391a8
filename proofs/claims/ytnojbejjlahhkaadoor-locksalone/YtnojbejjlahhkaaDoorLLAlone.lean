/-
  What is proved here: the walk of cohortlaw08.LocksAlone, over this program.
-/
import Derived.Test.YtnojbejjlahhkaaDoorHH
import Derived.Deep.RegionWith
namespace Go.Proofs.YtnojbejjlahhkaaDoor
open Go.RowKit Go.Extern.Stop Go.Stop Go.Extern

set_option maxRecDepth 100000 in
set_option maxHeartbeats 16000000 in
theorem lalone_true (v : Value) (l : List Op8) (who : Int) (vk : Value) (keys : List (List UInt8)) (other : Int) (w : World) (hv : Ops8In w (· < w.heap.size) v l) (hn : l.length ≤ maxLen) (hok : ∀ o ∈ l, Op8Ok o) (fw : fits who)
    (hk : KeysIn w (· < w.heap.size) vk keys) (hkn : keys.length ≤ maxLen) (hks : ∀ s ∈ keys, s.length ≤ maxLen) (fo : fits other) (hg : ET w) (ht : PT w) :
    Calls Tryd.prog 3 #[v, .int .i64 who, vk, .int .i64 other] w fun e w' => e = .returned (.bool true) ∧ Below w.heap.size w w' := by
  have HV0 : Hid (Env w w) := ⟨Below.refl _ _, hg, ht⟩
  have HH := hideIt (head08_true w hg ht)
  have HO := hideIt hv
  have HZ := hideIt hok
  have HN := hideIt hn
  have HF := hideIt (And.intro fw fo)
  have HKI := hideIt hk
  have HKS := hideIt hks
  have HKN := hideIt hkn
  obtain ⟨a, cap, rfl⟩ := hv.form
  obtain ⟨ak, ck, rfl⟩ := hk.form
  unfold maxLen at hn hkn
  clear hg ht hv hok fw fo hk hks
  go_enter Tryd.func3, Tryd.ntmps3
  go_wp2_with fail
  refine HH.out.mono ?_
  rintro e w1 ⟨rfl, hb1⟩
  have HV1 := hideIt (HV0.out.next hb1)
  clear hb1 HH HV0
  go_wp2_with fail
  refine (lkNew_any w1).mono ?_
  rintro e w2 ⟨p, rfl, hs, hb⟩
  have HS2 := hideIt (Ls.new HV1.out hs hb)
  obtain ⟨O2, hO2⟩ : ∃ O2 : Nat → Prop, O2 = fun k => w1.heap.size ≤ k ∧ k < w2.heap.size := ⟨_, rfl⟩
  rw [← hO2] at HS2
  clear hs hb hO2 HV1
  go_wp2_with fail
  refine (great08_any _ _ l w2 (HO.out.env HS2.out.env) HN.out HZ.out).mono ?_
  rintro e w3 ⟨⟨g, rfl⟩, rfl⟩
  cases g with
  | true =>
    go_wp2
    go_ret
    exact ⟨rfl, HS2.out.env.1⟩
  | false =>
  by_cases hl3 : (300 : Int) < (keys.length : Int)
  · go_wp2
    go_ret
    exact ⟨rfl, HS2.out.env.1⟩
  go_wp2
  go_loopw [11] (fun iv wr => ∃ (k : Nat) (L : Lk) (O : Nat → Prop), k ≤ l.length ∧ iv = .int .i64 k ∧ Hid (Ls w wr p O L)) (fun iv _ => l.length - (intOf iv).toNat)
  case atStart => exact ⟨0, [], O2, Nat.zero_le _, rfl, HS2⟩
  case round =>
    clear HS2
    obtain ⟨k, L, O, hk, rfl, HS⟩ := hrel
    by_cases hlt : k < l.length
    case pos =>
      obtain ⟨o, ho⟩ : ∃ o, l[k]? = some o := ⟨l[k], by simp [hlt]⟩
      obtain ⟨b, off, u, rfl, hbw, c0, c1, c2, hu⟩ := (HO.out.env HS.out.env).at ho
      obtain ⟨hf0, hf1, hun, hus⟩ := HZ.out o (List.mem_of_getElem? ho)
      obtain ⟨au, cu, rfl⟩ := hu.form
      have HU := hideIt hu
      have HUS := hideIt (And.intro hun hus)
      have HF1 := hideIt hf1
      clear ho hu hun hus hf0 hf1
      cases hz : (Go.bits BinOp.and IntKind.i64 o.1 1 == 0) with
      | true =>
        have HSd := hideIt (HS.out.next (below_drew wr))
        have HUd := hideIt (RowIn.mono (A' := (· < wr.drew.heap.size)) (RowIn.kept HU.out (Kept.of_below (B := w.heap.size) ((below_drew wr).mono HS.out.env.1.size) (fun _ h _ => h))) (fun _ _ h => h))
        go_wp2
        go_region_with (go_at_call 9; refine (lkLock_any _ p O L _ _ o.2.2 HSd.out.st HF1.out HUd.out HUS.out.1 HUS.out.2).mono ?_; rintro e w4 ⟨er, L', O', rfl, g1, g2, g3⟩; have HS4 := hideIt (HSd.out.move g1 g2); clear g1 g2 g3)
        all_goals
          go_wp2
          exact ⟨⟨k + 1, L', O', by omega, by go_num, HS4⟩, by simp [intOf]; omega⟩
      | false =>
        go_wp2_with fail
        refine (lkUnlock_any wr p O L o.2.1 HS.out.st).mono ?_
        rintro e w4 ⟨rfl, g1, g2⟩
        have HS4 := hideIt (HS.out.turn g1 g2)
        clear g1 g2
        go_wp2
        exact ⟨⟨k + 1, dropL L o.2.1, O, by omega, by go_num, HS4⟩, by simp [intOf]; omega⟩
    case neg =>
      have HR := hideIt HS.out.st.rise
      obtain rfl : k = l.length := by omega
      go_wp2_with fail
      refine (lkKeys_any wr p O L other HS.out.st).mono ?_
      rintro e w4 ⟨v1, rfl, h1, hb4⟩
      have HW4 := hideIt (KeysOff.of_own h1 HS.out.st.lt)
      obtain ⟨a1, c1, rfl⟩ := own_form h1
      have HS4 := hideIt (HS.out.next hb4)
      clear h1 hb4 HS
      go_wp2_with fail
      refine (lkKeys_any w4 p O L who HS4.out.st).mono ?_
      rintro e w5 ⟨v2, rfl, h1, hb5⟩
      have HX5 := hideIt (KeysOff.of_own h1 HS4.out.st.lt)
      obtain ⟨a2, c2, rfl⟩ := own_form h1
      have HW5 := hideIt (HW4.out.next hb5)
      have HS5 := hideIt (HS4.out.next hb5)
      have hLF := HS5.out.st.few
      have HOF1 := hideIt (show (ownL L other).length ≤ 128 by have := own_few L other; omega)
      have HOF2 := hideIt (show (ownL L who).length ≤ 128 by have := own_few L who; omega)
      clear h1 hb5 HS4 HW4 hLF
      go_wp2_with fail
      refine (lkLock_any w5 p O L who _ keys HS5.out.st HF.out.1 (HKI.out.low HS5.out.env) HKN.out HKS.out).mono ?_
      rintro e w6 ⟨er, L6, O6, rfl, g1, g2, g3⟩
      have HS6 := hideIt (HS5.out.move g1 g2)
      have HW6 := hideIt (HW5.out.move g2)
      have HX6 := hideIt (HX5.out.move g2)
      have HKW := hideIt (HKI.out.env HS6.out.env)
      have hnl := lock_nil g3
      clear g1 g2 g3 HS5 HW5 HX5
      rcases hnl with ⟨⟨ty, y, rfl⟩, rfl⟩ | ⟨rfl, hw0, hL6, hn128, hbar⟩
      case inl =>
        go_wp2
        go_loopw [15] (fun iv wr => ∃ k : Nat, k ≤ keys.length ∧ iv = .int .i64 k ∧ wr = w6) (fun iv _ => keys.length - (intOf iv).toNat)
        case atStart => exact ⟨0, Nat.zero_le _, rfl, rfl⟩
        case round =>
        obtain ⟨k, hk, rfl, rfl⟩ := hrel
        by_cases hlt : k < keys.length
        case pos =>
          obtain ⟨s, hs⟩ : ∃ s, keys[k]? = some s := ⟨keys[k], by simp [hlt]⟩
          obtain ⟨b, off, rfl, _, c0⟩ := HKW.out.at hs
          have HSZ := hideIt (HKS.out s (List.mem_of_getElem? hs))
          clear hs
          go_wp2_with fail
          refine (lkHolder_any wr p O6 L6 s HS6.out.st HSZ.out).mono ?_
          rintro e w7 ⟨rfl, rfl⟩
          unfold holdV
          generalize (holdL L6 s).getD (-1) = hn
          generalize (holdL L6 s).isSome = hb
          go_wp2
          exact ⟨⟨k + 1, by omega, by go_num, by trivial⟩, by simp [intOf]; omega⟩
        case neg =>
        obtain rfl : k = keys.length := by omega
        cases hq : other == who with
        | true =>
          obtain rfl : who = other := (by simpa using hq : other = who).symm
          go_wp2_with fail
          refine (lkKeys_any wr p O6 L6 who HS6.out.st).mono ?_
          rintro e w7 ⟨v3, rfl, h1, hb7⟩
          have HA7 := hideIt (KeysIn.of_own h1)
          obtain ⟨a3, c3, rfl⟩ := own_form h1
          have HS7 := hideIt (HS6.out.next hb7)
          have HW7 := hideIt (HW6.out.next hb7)
          have HX7 := hideIt (HX6.out.next hb7)
          clear h1 hb7
          go_wp2_with fail
          refine (SameKeys_any _ _ _ _ _ _ w7 HA7.out HX7.out (by unfold maxLen; have := HOF2.out; omega)).mono ?_
          rintro e w8 ⟨rfl, hb8⟩
          rw [show decide (ownL L6 who = ownL L6 who) = true from decide_eq_true rfl]
          have HS8 := hideIt (HS7.out.next hb8)
          have HW8 := hideIt (HW7.out.next hb8)
          clear hb8 HA7 HX7
          have HSA := HS8
          have HWA := HW8
          go_wp2_with fail
          refine (lkUnlock_any w8 p O6 L6 who HSA.out.st).mono ?_
          rintro e w11 ⟨rfl, g1, g2⟩
          have HSB := hideIt (HSA.out.turn g1 g2)
          have HWB := hideIt (HWA.out.turn g2)
          clear g1 g2
          go_wp2_with fail
          refine (lkKeys_any w11 p O6 (dropL L6 who) who HSB.out.st).mono ?_
          rintro e w12 ⟨v5, rfl, h1, hb12⟩
          rw [drop_self] at h1
          obtain ⟨a5, c5, rfl⟩ := own_form h1
          have HSC := hideIt (HSB.out.next hb12)
          have HWC := hideIt (HWB.out.next hb12)
          clear h1 hb12
          rw [show (([] : List (List UInt8)).length) = 0 from rfl]
          have HSE := HSC
          go_wp2_with fail
          refine (lkMany_any w12 p O6 (dropL L6 who) HSE.out.st).mono ?_
          rintro e w15 ⟨rfl, rfl⟩
          have hfew := HSE.out.st.few
          have hdl : decide (((dropL L6 who).length : Int) ≤ 128) = true := decide_eq_true (by omega)
          go_wp2
          go_ret
          exact ⟨rfl, HSE.out.env.1⟩
        | false =>
          have HQ := hideIt hq
          have hq2 : (other != who) = true := by simp [bne, hq]
          go_wp2_with fail
          refine (lkKeys_any wr p O6 L6 who HS6.out.st).mono ?_
          rintro e w7 ⟨v3, rfl, h1, hb7⟩
          have HA7 := hideIt (KeysIn.of_own h1)
          obtain ⟨a3, c3, rfl⟩ := own_form h1
          have HS7 := hideIt (HS6.out.next hb7)
          have HW7 := hideIt (HW6.out.next hb7)
          have HX7 := hideIt (HX6.out.next hb7)
          clear h1 hb7
          go_wp2_with fail
          refine (SameKeys_any _ _ _ _ _ _ w7 HA7.out HX7.out (by unfold maxLen; have := HOF2.out; omega)).mono ?_
          rintro e w8 ⟨rfl, hb8⟩
          rw [show decide (ownL L6 who = ownL L6 who) = true from decide_eq_true rfl]
          have HS8 := hideIt (HS7.out.next hb8)
          have HW8 := hideIt (HW7.out.next hb8)
          clear hb8 HA7 HX7
          go_wp2_with fail
          refine (lkKeys_any w8 p O6 L6 other HS8.out.st).mono ?_
          rintro e w9 ⟨v4, rfl, h1, hb9⟩
          have HA9 := hideIt (KeysIn.of_own h1)
          obtain ⟨a4, c4, rfl⟩ := own_form h1
          have HS9 := hideIt (HS8.out.next hb9)
          have HW9 := hideIt (HW8.out.next hb9)
          clear h1 hb9
          go_wp2_with fail
          refine (SameKeys_any _ _ _ _ _ _ w9 HA9.out HW9.out (by unfold maxLen; have := HOF1.out; omega)).mono ?_
          rintro e w10 ⟨rfl, hb10⟩
          rw [show decide (ownL L6 other = ownL L6 other) = true from decide_eq_true rfl]
          have HSA := hideIt (HS9.out.next hb10)
          have HWA := hideIt (HW9.out.next hb10)
          clear hb10 HA9
          go_wp2_with fail
          refine (lkUnlock_any w10 p O6 L6 who HSA.out.st).mono ?_
          rintro e w11 ⟨rfl, g1, g2⟩
          have HSB := hideIt (HSA.out.turn g1 g2)
          have HWB := hideIt (HWA.out.turn g2)
          clear g1 g2
          go_wp2_with fail
          refine (lkKeys_any w11 p O6 (dropL L6 who) who HSB.out.st).mono ?_
          rintro e w12 ⟨v5, rfl, h1, hb12⟩
          rw [drop_self] at h1
          obtain ⟨a5, c5, rfl⟩ := own_form h1
          have HSC := hideIt (HSB.out.next hb12)
          have HWC := hideIt (HWB.out.next hb12)
          clear h1 hb12
          rw [show (([] : List (List UInt8)).length) = 0 from rfl]
          go_wp2_with fail
          refine (lkKeys_any w12 p O6 (dropL L6 who) other HSC.out.st).mono ?_
          rintro e w13 ⟨v6, rfl, h1, hb13⟩
          rw [drop_other HQ.out] at h1
          have HAD := hideIt (KeysIn.of_own h1)
          obtain ⟨a6, c6, rfl⟩ := own_form h1
          have HSD := hideIt (HSC.out.next hb13)
          have HWD := hideIt (HWC.out.next hb13)
          clear h1 hb13
          go_wp2_with fail
          refine (SameKeys_any _ _ _ _ _ _ w13 HAD.out HWD.out (by unfold maxLen; have := HOF1.out; omega)).mono ?_
          rintro e w14 ⟨rfl, hb14⟩
          rw [show decide (ownL L6 other = ownL L6 other) = true from decide_eq_true rfl]
          have HSE := hideIt (HSD.out.next hb14)
          clear hb14 HAD
          go_wp2_with fail
          refine (lkMany_any w14 p O6 (dropL L6 who) HSE.out.st).mono ?_
          rintro e w15 ⟨rfl, rfl⟩
          have hfew := HSE.out.st.few
          have hdl : decide (((dropL L6 who).length : Int) ≤ 128) = true := decide_eq_true (by omega)
          go_wp2
          go_ret
          exact ⟨rfl, HSE.out.env.1⟩
      case inr =>
        have HL6 := hideIt hL6
        have HBR := hideIt hbar
        clear hL6 hbar hn128 HX6
        go_wp2
        go_loopw [15] (fun iv wr => ∃ k : Nat, k ≤ keys.length ∧ iv = .int .i64 k ∧ wr = w6) (fun iv _ => keys.length - (intOf iv).toNat)
        case atStart => exact ⟨0, Nat.zero_le _, rfl, rfl⟩
        case round =>
        obtain ⟨k, hk, rfl, rfl⟩ := hrel
        by_cases hlt : k < keys.length
        case pos =>
          obtain ⟨s, hs⟩ : ∃ s, keys[k]? = some s := ⟨keys[k], by simp [hlt]⟩
          obtain ⟨b, off, rfl, _, c0⟩ := HKW.out.at hs
          have HSZ := hideIt (HKS.out s (List.mem_of_getElem? hs))
          have hh : holdL L6 s = some who := by rw [HL6.out]; exact puts_own HR.out hs
          have HHD := hideIt hh
          clear hs hh
          go_wp2_with fail
          refine (lkHolder_any wr p O6 L6 s HS6.out.st HSZ.out).mono ?_
          rintro e w7 ⟨rfl, rfl⟩
          rw [HHD.out, show holdV (some who) = .tuple #[.int .i64 who, .bool true] from rfl]
          have hww : (who != who) = false := by simp
          go_wp2
          exact ⟨⟨k + 1, by omega, by go_num, by trivial⟩, by simp [intOf]; omega⟩
        case neg =>
        obtain rfl : k = keys.length := by omega
        cases hq : other == who with
        | true =>
          obtain rfl : who = other := (by simpa using hq : other = who).symm
          have HS8 := HS6
          have HW8 := HW6
          have HSA := HS8
          have HWA := HW8
          go_wp2_with fail
          refine (lkUnlock_any wr p O6 L6 who HSA.out.st).mono ?_
          rintro e w11 ⟨rfl, g1, g2⟩
          have HSB := hideIt (HSA.out.turn g1 g2)
          have HWB := hideIt (HWA.out.turn g2)
          clear g1 g2
          go_wp2_with fail
          refine (lkKeys_any w11 p O6 (dropL L6 who) who HSB.out.st).mono ?_
          rintro e w12 ⟨v5, rfl, h1, hb12⟩
          rw [drop_self] at h1
          obtain ⟨a5, c5, rfl⟩ := own_form h1
          have HSC := hideIt (HSB.out.next hb12)
          have HWC := hideIt (HWB.out.next hb12)
          clear h1 hb12
          rw [show (([] : List (List UInt8)).length) = 0 from rfl]
          have HSE := HSC
          go_wp2_with fail
          refine (lkMany_any w12 p O6 (dropL L6 who) HSE.out.st).mono ?_
          rintro e w15 ⟨rfl, rfl⟩
          have hfew := HSE.out.st.few
          have hdl : decide (((dropL L6 who).length : Int) ≤ 128) = true := decide_eq_true (by omega)
          go_wp2
          go_ret
          exact ⟨rfl, HSE.out.env.1⟩
        | false =>
          have HQ := hideIt hq
          have hq2 : (other != who) = true := by simp [bne, hq]
          have HOT : Hid (ownL L6 other = ownL L other) := hideIt (by rw [HL6.out]; exact puts_other HR.out HBR.out hq)
          have HS8 := HS6
          have HW8 := HW6
          go_wp2_with fail
          refine (lkKeys_any wr p O6 L6 other HS8.out.st).mono ?_
          rintro e w9 ⟨v4, rfl, h1, hb9⟩
          rw [HOT.out] at h1
          have HA9 := hideIt (KeysIn.of_own h1)
          obtain ⟨a4, c4, rfl⟩ := own_form h1
          have HS9 := hideIt (HS8.out.next hb9)
          have HW9 := hideIt (HW8.out.next hb9)
          clear h1 hb9
          go_wp2_with fail
          refine (SameKeys_any _ _ _ _ _ _ w9 HA9.out HW9.out (by unfold maxLen; have := HOF1.out; omega)).mono ?_
          rintro e w10 ⟨rfl, hb10⟩
          rw [show decide (ownL L other = ownL L other) = true from decide_eq_true rfl]
          have HSA := hideIt (HS9.out.next hb10)
          have HWA := hideIt (HW9.out.next hb10)
          clear hb10 HA9
          go_wp2_with fail
          refine (lkUnlock_any w10 p O6 L6 who HSA.out.st).mono ?_
          rintro e w11 ⟨rfl, g1, g2⟩
          have HSB := hideIt (HSA.out.turn g1 g2)
          have HWB := hideIt (HWA.out.turn g2)
          clear g1 g2
          go_wp2_with fail
          refine (lkKeys_any w11 p O6 (dropL L6 who) who HSB.out.st).mono ?_
          rintro e w12 ⟨v5, rfl, h1, hb12⟩
          rw [drop_self] at h1
          obtain ⟨a5, c5, rfl⟩ := own_form h1
          have HSC := hideIt (HSB.out.next hb12)
          have HWC := hideIt (HWB.out.next hb12)
          clear h1 hb12
          rw [show (([] : List (List UInt8)).length) = 0 from rfl]
          go_wp2_with fail
          refine (lkKeys_any w12 p O6 (dropL L6 who) other HSC.out.st).mono ?_
          rintro e w13 ⟨v6, rfl, h1, hb13⟩
          rw [drop_other HQ.out, HOT.out] at h1
          have HAD := hideIt (KeysIn.of_own h1)
          obtain ⟨a6, c6, rfl⟩ := own_form h1
          have HSD := hideIt (HSC.out.next hb13)
          have HWD := hideIt (HWC.out.next hb13)
          clear h1 hb13
          go_wp2_with fail
          refine (SameKeys_any _ _ _ _ _ _ w13 HAD.out HWD.out (by unfold maxLen; have := HOF1.out; omega)).mono ?_
          rintro e w14 ⟨rfl, hb14⟩
          rw [show decide (ownL L other = ownL L other) = true from decide_eq_true rfl]
          have HSE := hideIt (HSD.out.next hb14)
          clear hb14 HAD
          go_wp2_with fail
          refine (lkMany_any w14 p O6 (dropL L6 who) HSE.out.st).mono ?_
          rintro e w15 ⟨rfl, rfl⟩
          have hfew := HSE.out.st.few
          have hdl : decide (((dropL L6 who).length : Int) ≤ 128) = true := decide_eq_true (by omega)
          go_wp2
          go_ret
          exact ⟨rfl, HSE.out.env.1⟩
end Go.Proofs.YtnojbejjlahhkaaDoor
