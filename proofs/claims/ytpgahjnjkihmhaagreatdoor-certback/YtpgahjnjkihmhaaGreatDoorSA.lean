/-
  What is proved here: seals' numbers: Client, Member, Group, somebody, over this program.
-/
import Derived.Test.YtpgahjnjkihmhaaGreatDoorMem
namespace Go.Proofs.YtpgahjnjkihmhaaGreatDoor
open Go.RowKit Go.Extern.Stop Go.Stop Go.Extern

/-- a client's number, or -1 -/
def cli (i : Int) : Int := if 0 ≤ i ∧ i < 16 then i else -1
/-- a member's number, or -1 -/
def memb (g i : Int) : Int := if 0 ≤ g ∧ g < 8 ∧ 0 ≤ i ∧ i < 10 then 100 + 16 * g + i else -1
/-- is it a member's number? -/
abbrev isMem (who : Int) : Prop := 100 ≤ who ∧ who < 228 ∧ (who - 100) % 16 < 10
/-- its group, and its place -/
def grp (who : Int) : Int := if isMem who then (who - 100) / 16 else -1
def plc (who : Int) : Int := if isMem who then (who - 100) % 16 else -1
/-- is it anybody's number? -/
abbrev smb (who : Int) : Prop := isMem who ∨ (0 ≤ who ∧ who < 16)

theorem sClient_any (i : Int) (w : World) : Calls Tryz.prog 69 #[.int .i64 i] w fun e w' => e = .returned (.int .i64 (cli i)) ∧ w' = w := by
  by_cases h1 : i < 0
  · have e : cli i = -1 := by unfold cli; rw [if_neg (by omega)]
    rw [e]
    go_enter Tryz.func69, Tryz.ntmps69
    go_wp2
    go_ret
    exact ⟨rfl, rfl⟩
  · by_cases h2 : 16 ≤ i
    · have e : cli i = -1 := by unfold cli; rw [if_neg (by omega)]
      rw [e]
      go_enter Tryz.func69, Tryz.ntmps69
      go_wp2
      go_ret
      exact ⟨rfl, rfl⟩
    · have e : cli i = i := by unfold cli; rw [if_pos (by omega)]
      rw [e]
      go_enter Tryz.func69, Tryz.ntmps69
      go_wp2
      go_ret
      exact ⟨rfl, rfl⟩

theorem sMember_any (g i : Int) (w : World) : Calls Tryz.prog 34 #[.int .i64 g, .int .i64 i] w fun e w' => e = .returned (.int .i64 (memb g i)) ∧ w' = w := by
  by_cases h1 : g < 0
  · have e : memb g i = -1 := by unfold memb; rw [if_neg (by omega)]
    rw [e]
    go_enter Tryz.func34, Tryz.ntmps34
    go_wp2
    go_ret
    exact ⟨rfl, rfl⟩
  by_cases h2 : 8 ≤ g
  · have e : memb g i = -1 := by unfold memb; rw [if_neg (by omega)]
    rw [e]
    go_enter Tryz.func34, Tryz.ntmps34
    go_wp2
    go_ret
    exact ⟨rfl, rfl⟩
  by_cases h3 : i < 0
  · have e : memb g i = -1 := by unfold memb; rw [if_neg (by omega)]
    rw [e]
    go_enter Tryz.func34, Tryz.ntmps34
    go_wp2
    go_ret
    exact ⟨rfl, rfl⟩
  by_cases h4 : 10 ≤ i
  · have e : memb g i = -1 := by unfold memb; rw [if_neg (by omega)]
    rw [e]
    go_enter Tryz.func34, Tryz.ntmps34
    go_wp2
    go_ret
    exact ⟨rfl, rfl⟩
  · have e : memb g i = 100 + 16 * g + i := by unfold memb; rw [if_pos (by omega)]
    rw [e]
    go_enter Tryz.func34, Tryz.ntmps34
    go_wp2
    go_ret
    exact ⟨rfl, rfl⟩

theorem sGroup_any (who : Int) (hf : fits who) (w : World) : Calls Tryz.prog 68 #[.int .i64 who] w fun e w' => e = .returned (.tuple #[.int .i64 (grp who), .int .i64 (plc who)]) ∧ w' = w := by
  obtain ⟨hf1, hf2⟩ := hf
  by_cases h1 : who < 100
  · have hm : ¬ isMem who := by unfold isMem; omega
    have e : grp who = -1 := by unfold grp; rw [if_neg hm]
    have e2 : plc who = -1 := by unfold plc; rw [if_neg hm]
    rw [e, e2]
    clear hm e e2
    go_enter Tryz.func68, Tryz.ntmps68
    go_wp2
    go_ret2
    exact ⟨rfl, rfl⟩
  · obtain ⟨g, hg⟩ : ∃ g, (who - 100) / 16 = g := ⟨_, rfl⟩
    obtain ⟨p, hp⟩ : ∃ p, (who - 100) % 16 = p := ⟨_, rfl⟩
    have q2 : IntKind.i64.wrap ((who - 100).tdiv 16) = g := by rw [Int.tdiv_eq_ediv_of_nonneg (by omega), hg, IntKind.wrap_i64]; omega
    by_cases hm : isMem who
    · have e : grp who = g := by unfold grp; rw [if_pos hm, hg]
      have e2 : plc who = p := by unfold plc; rw [if_pos hm, hp]
      have e3 : memb g p = who := by unfold isMem at hm; unfold memb; rw [if_pos (by omega)]; omega
      have h2 : ¬ who = -1 := by omega
      have HM := hideIt (And.intro hg (And.intro hp hm))
      rw [e, e2]
      clear hm hg e e2
      go_enter Tryz.func68, Tryz.ntmps68
      go_wp2_with fail
      refine (sMember_any _ _ w).mono ?_
      rintro e w1 ⟨rfl, rfl⟩
      rw [e3]
      go_wp2
      go_ret2
      exact ⟨rfl, rfl⟩
    · have e : grp who = -1 := by unfold grp; rw [if_neg hm]
      have e2 : plc who = -1 := by unfold plc; rw [if_neg hm]
      have e3 : memb g p = -1 := by unfold isMem at hm; unfold memb; rw [if_neg (by omega)]
      rw [e, e2]
      clear hm hg e e2
      go_enter Tryz.func68, Tryz.ntmps68
      go_wp2_with fail
      refine (sMember_any _ _ w).mono ?_
      rintro e w1 ⟨rfl, rfl⟩
      rw [e3]
      go_wp2
      go_ret2
      exact ⟨rfl, rfl⟩

theorem grp_none {who : Int} : grp who = -1 ↔ ¬ isMem who := by
  unfold grp
  by_cases h : isMem who
  · rw [if_pos h]
    unfold isMem at h
    constructor
    · intro e; omega
    · intro e; exact absurd h e
  · rw [if_neg h]; simp [h]

theorem ssomebody_any (who : Int) (hf : fits who) (w : World) : Calls Tryz.prog 57 #[.int .i64 who] w fun e w' => e = .returned (.bool (decide (smb who))) ∧ w' = w := by
  have HF := hideIt hf
  clear hf
  by_cases hm : isMem who
  · have e : decide (smb who) = true := by simp [smb, hm]
    have h1 : ¬ grp who = -1 := fun h => grp_none.1 h hm
    rw [e]
    clear hm e
    go_enter Tryz.func57, Tryz.ntmps57
    go_wp2_with fail
    refine (sGroup_any who HF.out w).mono ?_
    rintro e w1 ⟨rfl, rfl⟩
    go_wp2
    go_ret
    exact ⟨rfl, rfl⟩
  · have h1 : grp who = -1 := grp_none.2 hm
    by_cases hc : 0 ≤ who ∧ who < 16
    · have e : decide (smb who) = true := by simp [smb, hc]
      have h2 : cli who = who := by unfold cli; rw [if_pos hc]
      have h3 : (who != -1) = true := by simp; omega
      rw [e]
      clear hm hc e
      go_enter Tryz.func57, Tryz.ntmps57
      go_wp2_with fail
      refine (sGroup_any who HF.out w).mono ?_
      rintro e w1 ⟨rfl, rfl⟩
      rw [h1]
      go_wp2_with fail
      refine (sClient_any who _).mono ?_
      rintro e w2 ⟨rfl, rfl⟩
      rw [h2]
      go_wp2
      go_ret
      exact ⟨rfl, rfl⟩
    · have e : decide (smb who) = false := by simp [smb, hm]; omega
      have h2 : cli who = -1 := by unfold cli; rw [if_neg hc]
      rw [e]
      clear hm hc e
      go_enter Tryz.func57, Tryz.ntmps57
      go_wp2_with fail
      refine (sGroup_any who HF.out w).mono ?_
      rintro e w1 ⟨rfl, rfl⟩
      rw [h1]
      go_wp2_with fail
      refine (sClient_any who _).mono ?_
      rintro e w2 ⟨rfl, rfl⟩
      rw [h2]
      go_wp2
      go_ret
      exact ⟨rfl, rfl⟩
end Go.Proofs.YtpgahjnjkihmhaaGreatDoor
