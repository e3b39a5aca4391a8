/-
  What is proved here: the document's numbers: Client, Member, Group (cohortref04), over this program.
-/
import Derived.Test.YtpgahjnjkihmhaaGreatDoorSA
namespace Go.Proofs.YtpgahjnjkihmhaaGreatDoor
open Go.RowKit Go.Extern.Stop Go.Stop Go.Extern

theorem dsClient_any (i : Int) (w : World) : Calls Tryz.prog 55 #[.int .i64 i] w fun e w' => e = .returned (.int .i64 (cli i)) ∧ w' = w := by
  by_cases h1 : i < 0
  · have e : cli i = -1 := by unfold cli; rw [if_neg (by omega)]
    rw [e]
    go_enter Tryz.func55, Tryz.ntmps55
    go_wp2
    go_ret
    exact ⟨rfl, rfl⟩
  · by_cases h2 : 16 ≤ i
    · have e : cli i = -1 := by unfold cli; rw [if_neg (by omega)]
      rw [e]
      go_enter Tryz.func55, Tryz.ntmps55
      go_wp2
      go_ret
      exact ⟨rfl, rfl⟩
    · have e : cli i = i := by unfold cli; rw [if_pos (by omega)]
      rw [e]
      go_enter Tryz.func55, Tryz.ntmps55
      go_wp2
      go_ret
      exact ⟨rfl, rfl⟩

theorem dsMember_any (g i : Int) (w : World) : Calls Tryz.prog 27 #[.int .i64 g, .int .i64 i] w fun e w' => e = .returned (.int .i64 (memb g i)) ∧ w' = w := by
  by_cases h1 : g < 0
  · have e : memb g i = -1 := by unfold memb; rw [if_neg (by omega)]
    rw [e]
    go_enter Tryz.func27, Tryz.ntmps27
    go_wp2
    go_ret
    exact ⟨rfl, rfl⟩
  by_cases h2 : 8 ≤ g
  · have e : memb g i = -1 := by unfold memb; rw [if_neg (by omega)]
    rw [e]
    go_enter Tryz.func27, Tryz.ntmps27
    go_wp2
    go_ret
    exact ⟨rfl, rfl⟩
  by_cases h3 : i < 0
  · have e : memb g i = -1 := by unfold memb; rw [if_neg (by omega)]
    rw [e]
    go_enter Tryz.func27, Tryz.ntmps27
    go_wp2
    go_ret
    exact ⟨rfl, rfl⟩
  by_cases h4 : 9 < i
  · have e : memb g i = -1 := by unfold memb; rw [if_neg (by omega)]
    rw [e]
    go_enter Tryz.func27, Tryz.ntmps27
    go_wp2
    go_ret
    exact ⟨rfl, rfl⟩
  · have e : memb g i = 100 + 16 * g + i := by unfold memb; rw [if_pos (by omega)]
    rw [e]
    go_enter Tryz.func27, Tryz.ntmps27
    go_wp2
    go_ret
    exact ⟨rfl, rfl⟩

/-- a member's number tells its group and place -/
theorem memb_tells {g i : Int} (hg : 0 ≤ g ∧ g < 8) (hi : 0 ≤ i ∧ i < 10) : isMem (memb g i) ∧ grp (memb g i) = g ∧ plc (memb g i) = i := by
  have e : memb g i = 100 + 16 * g + i := by unfold memb; rw [if_pos (by omega)]
  have h : isMem (100 + 16 * g + i) := ⟨by omega, by omega, by omega⟩
  rw [e]
  refine ⟨h, ?_, ?_⟩
  · unfold grp; rw [if_pos h]; omega
  · unfold plc; rw [if_pos h]; omega
theorem grp_tells {who : Int} (h : isMem who) : memb (grp who) (plc who) = who ∧ (0 ≤ grp who ∧ grp who < 8) ∧ (0 ≤ plc who ∧ plc who < 10) := by
  have h' := h
  obtain ⟨h1, h2, h3⟩ := h'
  unfold grp plc
  rw [if_pos h, if_pos h]
  unfold memb
  rw [if_pos (by omega)]
  omega

set_option maxHeartbeats 4000000 in
theorem dsGroup_any (who : Int) (w : World) : Calls Tryz.prog 54 #[.int .i64 who] w fun e w' => e = .returned (.tuple #[.int .i64 (grp who), .int .i64 (plc who)]) ∧ w' = w := by
  go_enter Tryz.func54, Tryz.ntmps54
  go_wp2
  go_loop [4] (fun gv => ∃ g : Nat, g ≤ 8 ∧ gv = .int .i64 g ∧ Hid (isMem who → (g : Int) ≤ grp who)) (fun gv => 8 - (intOf gv).toNat)
  case atStart => exact ⟨0, by omega, rfl, fun h => by have := grp_tells h; simp; omega⟩
  case round =>
    obtain ⟨g, hg, rfl, HG⟩ := hrel
    by_cases hlt : g < 8
    · go_wp2
      go_loop [5] (fun iv => ∃ i : Nat, i ≤ 10 ∧ iv = .int .i64 i ∧ Hid (isMem who → grp who = g → (i : Int) ≤ plc who)) (fun iv => 10 - (intOf iv).toNat)
      case atStart => exact ⟨0, by omega, rfl, fun h _ => by have := grp_tells h; simp; omega⟩
      case round =>
        obtain ⟨i, hi, rfl, HI⟩ := hrel
        by_cases hli : i < 10
        · have ht := memb_tells (g := g) (i := i) (by omega) (by omega)
          by_cases he : memb g i = who
          · go_wp2_with fail
            refine (dsMember_any g i _).mono ?_
            rw [he] at ht
            rw [he]
            rintro e w1 ⟨rfl, rfl⟩
            obtain ⟨_, t1, t2⟩ := ht
            clear he
            have HT := hideIt (And.intro t1 t2)
            clear t1 t2
            go_wp2
            go_ret2
            exact ⟨by rw [HT.out.1, HT.out.2]; rfl, rfl⟩
          · have HNE := hideIt he
            obtain ⟨z, hz, hzw⟩ : ∃ z, memb g i = z ∧ ¬ z = who := ⟨_, rfl, he⟩
            go_wp2_with fail
            refine (dsMember_any g i _).mono ?_
            rw [hz]
            rintro e w1 ⟨rfl, rfl⟩
            clear ht he hz
            go_wp2
            refine ⟨⟨i + 1, by omega, by go_num, fun h1 h2 => ?_⟩, by simp [intOf]; omega⟩
            have h3 := HI.out h1 h2
            have h4 := grp_tells h1
            have h5 : (i : Int) ≠ plc who := fun e => HNE.out (by rw [e, ← h2]; exact h4.1)
            simp
            omega
        · have ei : i = 10 := by omega
          subst ei
          go_wp2
          refine ⟨⟨g + 1, by omega, by go_num, fun h1 => ?_⟩, by simp [intOf]; omega⟩
          have h3 := HG.out h1
          have h4 := grp_tells h1
          have h5 : grp who ≠ g := fun e => by have := HI.out h1 e; simp at this; omega
          simp
          omega
    · have eg : g = 8 := by omega
      subst eg
      have hm : ¬ isMem who := fun h => by
        have h3 := HG.out h
        have h4 := grp_tells h
        simp at h3
        omega
      have HT : Hid (grp who = -1 ∧ plc who = -1) := ⟨by unfold grp; rw [if_neg hm], by unfold plc; rw [if_neg hm]⟩
      clear hm
      go_wp2
      go_ret2
      exact ⟨by rw [HT.out.1, HT.out.2]; rfl, rfl⟩
end Go.Proofs.YtpgahjnjkihmhaaGreatDoor
