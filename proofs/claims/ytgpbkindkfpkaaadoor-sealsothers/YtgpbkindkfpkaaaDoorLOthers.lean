/-
  What is proved here: the walk of cohortlaw04.SealsOthers, over this program.
-/
import Derived.Test.YtgpbkindkfpkaaaDoorSF
import Derived.Test.YtgpbkindkfpkaaaDoorArg4
import Derived.Deep.RegionWith
namespace Go.Proofs.YtgpbkindkfpkaaaDoor
open Go.RowKit Go.Extern.Stop Go.Stop Go.Extern

set_option maxRecDepth 100000 in
set_option maxHeartbeats 8000000 in
theorem others_true (v : Value) (l : List Op4) (who digest other d : Int) (w : World) (hv : Ops4In w (· < w.heap.size) v l) (hll : l.length ≤ maxLen) (hok : ∀ y ∈ l, Op4Ok y) (f1 : fits who) (f2 : fits digest) (f3 : fits other) (f4 : fits d) (hg : ET w) (ht : PT w) :
    Calls Tryd.prog 7 #[v, .int .i64 who, .int .i64 digest, .int .i64 other, .int .i64 d] w fun e w' => e = .returned (.bool true) ∧ Below w.heap.size w w' := by
  have HV0 : Hid (Env w w) := ⟨Below.refl _ _, hg, ht⟩
  have HH := hideIt (head04_true w hg ht)
  have HY := hideIt hv
  have HF := hideIt (And.intro f1 (And.intro f2 (And.intro f3 f4)))
  have HK := hideIt hok
  obtain ⟨a, cap, rfl⟩ := hv.form
  unfold maxLen at hll
  clear hg ht hv f1 f2 f3 f4 hok
  go_enter Tryd.func7, Tryd.ntmps7
  go_wp2_with fail
  refine HH.out.mono ?_
  rintro e w1 ⟨rfl, hb1⟩
  have HV1 := hideIt (HV0.out.next hb1)
  clear hb1 HH HV0
  go_wp2_with fail
  refine (sNew_any w1).mono ?_
  rintro e w2 ⟨p, rfl, hs, hb⟩
  have HV2 := hideIt (HV1.out.next hb)
  obtain ⟨O, HS2, HO⟩ : ∃ O : Nat → Prop, Hid (SealSt w2 p O []) ∧ Hid (∀ k, O k → w.heap.size ≤ k) := ⟨_, hs, fun k hk => by have := HV1.out.1.size; have := hk.1; omega⟩
  clear hs hb HV1
  by_cases hl2 : (200 : Int) < (l.length : Int)
  · go_wp2
    go_ret
    exact ⟨rfl, HV2.out.1⟩
  · go_wp2
    go_loopw [13] (fun i wr => ∃ (k : Nat) (L : List (Int × Int)), k ≤ l.length ∧ i = .int .i64 k ∧ L.length ≤ k ∧ Hid (SealSt wr p O L) ∧ Hid (Env w wr)) (fun i _ => l.length - (intOf i).toNat)
    case atStart => exact ⟨0, [], Nat.zero_le _, rfl, Nat.le_refl _, HS2.out, HV2.out⟩
    case round =>
      clear HS2 HV2
      obtain ⟨k, L, hk, rfl, hL, HS, HV⟩ := hrel
      by_cases hlt : k < l.length
      · obtain ⟨x, hx⟩ : ∃ x, l[k]? = some x := ⟨l[k], by simp [hlt]⟩
        obtain ⟨b, off, rfl, hbw, c0, c1, c2⟩ := (HY.out.kept (Kept.of_below HV.out.1 (fun _ h _ => h))).at hx
        have HX := hideIt (HK.out x (List.mem_of_getElem? hx))
        have HSd := hideIt HS.out.drew
        have hL2 : L.length < 131072 := by omega
        have HL2 := hideIt hL2
        have HSL := hideIt (signs_le L x.2.1 x.2.2)
        clear hx hbw c0 hL2
        go_wp2
        go_region_with (go_at_call 10; refine (sSign_any _ p O L _ _ HSd.out HX.out.2.1 HX.out.2.2 HL2.out).mono ?_; rintro e w4 ⟨er, rfl, _, hs4, ht4⟩; have HS4 := hideIt hs4; have HV4 := hideIt (HV.out.turned ht4.drew HO.out); clear hs4 ht4)
        all_goals
          go_wp2
          have := HSL.out
          exact ⟨⟨k + 1, signs L x.2.1 x.2.2, by omega, by go_num, by omega, HS4.out, HV4.out⟩, by simp [intOf]; omega⟩
      · have hL2 : L.length < 131072 := by omega
        have HL2 := hideIt hL2
        clear hL2
        go_wp2_with fail
        refine (sSigned_any _ p O L other d HS.out HF.out.2.2.1 HF.out.2.2.2).mono ?_
        rintro e w3 ⟨rfl, hb3⟩
        have HS3 := hideIt (HS.out.kept (Kept.of_all hb3))
        have HV3 := hideIt (HV.out.next hb3)
        clear hb3 HS HV
        obtain ⟨bw, hbw⟩ : ∃ bw, decide ((other, d) ∈ L) = bw := ⟨_, rfl⟩
        rw [hbw]
        have HBW := hideIt hbw
        clear hbw
        go_wp2_with fail
        refine (sSign_any _ p O L who digest HS3.out HF.out.1 HF.out.2.1 HL2.out).mono ?_
        rintro e w4 ⟨er, rfl, hp4, hs4, ht4⟩
        have HS4 := hideIt hs4
        have HV4 := hideIt (HV3.out.turned ht4 HO.out)
        have HP := hideIt hp4
        have hform : er = .nilIface ∧ okS who digest ∨ (∃ ty y, er = .iface ty y) ∧ ¬ okS who digest := by
          rcases hp4 with ⟨h1, h2⟩ | ⟨h1, h2⟩
          · exact Or.inl ⟨h2, h1⟩
          · exact Or.inr ⟨h2.iface, h1⟩
        clear hp4 hs4 ht4 HS3 HV3 HP
        obtain ⟨bn, hbn⟩ : ∃ bn, decide ((other, d) ∈ signs L who digest) = bn := ⟨_, rfl⟩
        have HM := hideIt (signs_mem L who digest)
        rcases hform with ⟨rfl, hk2⟩ | ⟨⟨ty, y, rfl⟩, hk2⟩
        · have hin : decide ((who, digest) ∈ signs L who digest) = true := by rw [decide_eq_true_eq, HM.out]; exact Or.inr ⟨hk2, rfl⟩
          have HIN := hideIt hin
          have hbn2 : bn = (bw || ((who == other) && (digest == d))) := by rw [← hbn, ← HBW.out]; exact signs_bool hk2 other d
          have HBN := hideIt hbn
          clear hbn hin hk2
          obtain ⟨q1, hq1⟩ : ∃ q, (who == other) = q := ⟨_, rfl⟩
          obtain ⟨q2, hq2⟩ : ∃ q, (digest == d) = q := ⟨_, rfl⟩
          have hbn3 : bn = (bw || (q1 && q2)) := by rw [hbn2, hq1, hq2]
          clear hbn2
          go_wp2_with fail
          refine (sSigned_any _ p O _ other d HS4.out HF.out.2.2.1 HF.out.2.2.2).mono ?_
          rw [HBN.out]
          rintro e w5 ⟨rfl, hb5⟩
          have HS5 := hideIt (HS4.out.kept (Kept.of_all hb5))
          have HV5 := hideIt (HV4.out.next hb5)
          clear hb5 HS4 HV4
          subst hbn3
          cases bw <;> cases q1 <;> cases q2
          all_goals
            go_wp2_with fail
            refine (sSigned_any _ p O _ who digest HS5.out HF.out.1 HF.out.2.1).mono ?_
            rw [HIN.out]
            rintro e w6 ⟨rfl, hb6⟩
            have HV6 := hideIt (HV5.out.next hb6)
            clear hb6
            go_wp2
            go_ret
            exact ⟨rfl, HV6.out.1⟩
        · have hbn2 : bn = bw := by
            rw [← hbn, ← HBW.out, signs_not hk2]
          have HBN := hideIt hbn
          clear hbn hk2
          subst hbn2
          go_wp2_with fail
          refine (sSigned_any _ p O _ other d HS4.out HF.out.2.2.1 HF.out.2.2.2).mono ?_
          rw [HBN.out]
          rintro e w5 ⟨rfl, hb5⟩
          have HV5 := hideIt (HV4.out.next hb5)
          clear hb5 HS4 HV4 HBN HBW
          cases bn
          all_goals
            go_wp2
            go_ret
            exact ⟨rfl, HV5.out.1⟩
end Go.Proofs.YtgpbkindkfpkaaaDoor
