/-
  What is proved here: the walk of cohortlaw04.SealsNames, over this program.
-/
import Derived.Test.YtgpbkindkfpkaaaDoorSD
import Derived.Test.YtgpbkindkfpkaaaDoorSE
namespace Go.Proofs.YtgpbkindkfpkaaaDoor
open Go.RowKit Go.Extern.Stop Go.Stop Go.Extern

set_option maxRecDepth 100000 in
set_option maxHeartbeats 8000000 in
theorem names_true (a b : Int) (w : World) (ha : fits a) (hg : ET w) (ht : PT w) :
    Calls Tryd.prog 4 #[.int .i64 a, .int .i64 b] w fun e w' => e = .returned (.bool true) ∧ Below w.heap.size w w' := by
  have HH := hideIt (head04_true w hg ht)
  have HA := hideIt ha
  clear hg ht ha
  go_enter Tryd.func4, Tryd.ntmps4
  go_wp2_with fail
  refine HH.out.mono ?_
  rintro e w1 ⟨rfl, hb1⟩
  have HB1 := hideIt hb1
  clear hb1 HH
  go_wp2_with fail
  refine (sGroup_any a HA.out w1).mono ?_
  rintro e w2 ⟨rfl, rfl⟩
  go_wp2_with fail
  refine (dsGroup_any a _).mono ?_
  rintro e w3 ⟨rfl, rfl⟩
  obtain ⟨g, hg⟩ : ∃ g, grp a = g := ⟨_, rfl⟩
  obtain ⟨i, hi⟩ : ∃ i, plc a = i := ⟨_, rfl⟩
  obtain ⟨m, hm⟩ : ∃ m, memb a b = m := ⟨_, rfl⟩
  obtain ⟨c, hc⟩ : ∃ c, cli a = c := ⟨_, rfl⟩
  have HG := hideIt (And.intro hg hi)
  rw [hg, hi]
  clear hg hi
  go_wp2_with fail
  refine (sMember_any a b _).mono ?_
  rw [hm]
  rintro e w4 ⟨rfl, rfl⟩
  go_wp2_with fail
  refine (sClient_any a _).mono ?_
  rw [hc]
  rintro e w5 ⟨rfl, rfl⟩
  go_wp2_with fail
  refine (dsClient_any a _).mono ?_
  rw [hc]
  rintro e w6 ⟨rfl, rfl⟩
  go_wp2_with fail
  refine (dsMember_any a b _).mono ?_
  rw [hm]
  rintro e w7 ⟨rfl, rfl⟩
  have HM := hideIt hm
  clear hm hc
  by_cases hm0 : 0 ≤ m
  · have hb : (0 ≤ a ∧ a < 8) ∧ (0 ≤ b ∧ b < 10) := by
      have h1 := HM.out
      unfold memb at h1
      split at h1 <;> omega
    have HT := hideIt (memb_tells hb.1 hb.2)
    have hmf : fits m := by have := fits_memb a b; rw [HM.out] at this; exact this
    have HMF := hideIt hmf
    have hcm : cli m = -1 := by
      have h1 := HT.out.1
      rw [HM.out] at h1
      have h2 := h1.1
      unfold cli
      rw [if_neg (by omega)]
    have hgm : grp m = a := by have := HT.out.2.1; rw [HM.out] at this; exact this
    have hpm : plc m = b := by have := HT.out.2.2; rw [HM.out] at this; exact this
    clear hb hmf
    go_wp2_with fail
    refine (sGroup_any m HMF.out _).mono ?_
    rw [hgm, hpm]
    rintro e w8 ⟨rfl, rfl⟩
    clear hgm hpm
    go_wp2_with fail
    refine (sClient_any m _).mono ?_
    rw [hcm]
    rintro e w9 ⟨rfl, rfl⟩
    clear hcm
    by_cases hg0 : g < 0
    · go_wp2
      go_ret
      exact ⟨rfl, HB1.out⟩
    · have hgi : memb g i = a := by
        have h1 : isMem a := by
          by_cases h : isMem a
          · exact h
          · have := grp_none.2 h
            rw [HG.out.1] at this
            omega
        have := (grp_tells h1).1
        rw [HG.out.1, HG.out.2] at this
        exact this
      go_wp2_with fail
      refine (sMember_any g i _).mono ?_
      rw [hgi]
      rintro e w10 ⟨rfl, rfl⟩
      go_wp2
      go_ret
      exact ⟨rfl, HB1.out⟩
  · by_cases hg0 : g < 0
    · go_wp2
      go_ret
      exact ⟨rfl, HB1.out⟩
    · have hgi : memb g i = a := by
        have h1 : isMem a := by
          by_cases h : isMem a
          · exact h
          · have := grp_none.2 h
            rw [HG.out.1] at this
            omega
        have := (grp_tells h1).1
        rw [HG.out.1, HG.out.2] at this
        exact this
      go_wp2_with fail
      refine (sMember_any g i _).mono ?_
      rw [hgi]
      rintro e w10 ⟨rfl, rfl⟩
      go_wp2
      go_ret
      exact ⟨rfl, HB1.out⟩
end Go.Proofs.YtgpbkindkfpkaaaDoor
