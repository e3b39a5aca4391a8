/-
  What is proved here: the statements' own head (cohortlaw04), over this program.
-/
import Derived.Test.YtgpbkindkfpkaaaDoorSC
namespace Go.Proofs.YtgpbkindkfpkaaaDoor
open Go.RowKit Go.Extern.Stop Go.Stop Go.Extern

theorem head_text4 : textL [(⟨#[115, 101, 97, 108, 115]⟩, 99)] ++ errText 1 = [115, 101, 97, 108, 115, 32, 57, 57, 58, 32, 99, 111, 104, 111, 114, 116, 58, 32, 101, 114, 114, 111, 114, 32, 49] := by decide +kernel
theorem head_who : whoTo [(135, 4)] 2 4 10 = [3] := by decide +kernel

set_option maxRecDepth 100000 in
set_option maxHeartbeats 8000000 in
theorem head04_true (w : World) (hg : ET w) (ht : PT w) : Calls Tryd.prog 8 #[] w fun e w' => e = .returned (.bool true) ∧ Below w.heap.size w w' := by
  have HV0 : Hid (Env w w) := ⟨Below.refl _ _, hg, ht⟩
  clear hg ht
  go_enter Tryd.func8, Tryd.ntmps8
  go_wp2_with fail
  refine (sNew_any w).mono ?_
  rintro e w1 ⟨p, rfl, hs, hb⟩
  have HV1 := hideIt (HV0.out.next hb)
  have HS1 := hideIt hs
  clear hs hb
  go_wp2_with fail
  refine (sSign_ok w1 p _ [] 135 4 HS1.out (by unfold fits; omega) (by decide) (by decide)).mono ?_
  rintro e w2 ⟨rfl, hs, ht2⟩
  have e0 : signs [] 135 4 = [(135, 4)] := by decide
  rw [e0] at hs
  have HS2 := hideIt hs
  have HV2 := hideIt (HV1.out.turned ht2 (fun k hk => hk.1))
  clear hs ht2 e0
  go_wp2_with fail
  refine (sGroup_any 135 (by unfold fits; omega) w2).mono ?_
  rw [show grp 135 = 2 by decide, show plc 135 = 3 by decide]
  rintro e w3 ⟨rfl, rfl⟩
  go_wp2_with fail
  refine (sSign_bad w3 p 99 4 (by unfold fits; omega) (by decide)).mono ?_
  rintro e w4 ⟨er, rfl, ho, hb4⟩
  have HV4 := hideIt (HV2.out.next hb4)
  have HS4 := hideIt (HS2.out.kept (Kept.of_all hb4))
  have HO4 := hideIt ho
  obtain ⟨ty, y, rfl⟩ := ho.iface
  clear ho hb4
  go_wp2_with fail
  refine (sWho_any w4 p _ [(135, 4)] 2 4 HS4.out (by unfold fits; omega)).mono ?_
  rw [head_who]
  rintro e w5 ⟨v, rfl, hr, hb5⟩
  have HV5 := hideIt (HV4.out.next hb5)
  have HS5 := hideIt (HS4.out.kept (Kept.of_all hb5))
  have HO5 := hideIt (HO4.out.kept (Kept.of_all hb5))
  obtain ⟨g, cap, rfl, c5, hcap⟩ := own_cell hr (j := 0) (z := 3) rfl
  clear hr hb5
  go_wp2_with fail
  refine (sMember_any 2 3 w5).mono ?_
  rw [show memb 2 3 = 135 by decide]
  rintro e w6 ⟨rfl, rfl⟩
  go_wp2_with fail
  refine (sSigned_any w6 p _ [(135, 4)] 135 4 HS5.out (by unfold fits; omega) (by unfold fits; omega)).mono ?_
  rw [show decide (((135 : Int), (4 : Int)) ∈ [((135 : Int), (4 : Int))]) = true by decide]
  rintro e w7 ⟨rfl, hb7⟩
  have HV7 := hideIt (HV5.out.next hb7)
  have HS7 := hideIt (HS5.out.kept (Kept.of_all hb7))
  have HO7 := hideIt (HO5.out.kept (Kept.of_all hb7))
  have c7 := (hb7.cell (lt_of_cell c5)).trans c5
  clear hb7 c5
  go_wp2_with fail
  refine (sSigned_any w7 p _ [(135, 4)] 135 5 HS7.out (by unfold fits; omega) (by unfold fits; omega)).mono ?_
  rw [show decide (((135 : Int), (5 : Int)) ∈ [((135 : Int), (4 : Int))]) = false by decide]
  rintro e w8 ⟨rfl, hb8⟩
  have HV8 := hideIt (HV7.out.next hb8)
  have HS8 := hideIt (HS7.out.kept (Kept.of_all hb8))
  have HO8 := hideIt (HO7.out.kept (Kept.of_all hb8))
  have HA8 := hideIt (HV8.out.at HO8.out)
  have c8 := (hb8.cell (lt_of_cell c7)).trans c7
  clear hb8 c7
  go_wp2_with fail
  refine (HA8.out.text (by unfold fits; omega) (by decide) (by intro x hx; simp at hx; subst hx; unfold fits; simp) (by decide +kernel)).mono ?_
  rintro e w9 ⟨he, H9, HB9⟩
  have he' : e = Ending.returned (.string ⟨#[115, 101, 97, 108, 115, 32, 57, 57, 58, 32, 99, 111, 104, 111, 114, 116, 58, 32, 101, 114, 114, 111, 114, 32, 49]⟩) := by rw [he]; exact congrArg (fun x => Ending.returned (.string ⟨List.toArray x⟩)) head_text4
  clear he
  subst he'
  have HV9 := hideIt (HV8.out.next HB9.out)
  have HS9 := hideIt (HS8.out.kept (Kept.of_all HB9.out))
  have c9 := (HB9.out.cell (lt_of_cell c8)).trans c8
  clear c8
  go_wp2_with fail
  refine (sMany_any w9 p _ [(135, 4)] HS9.out).mono ?_
  rintro e w10 ⟨rfl, rfl⟩
  go_wp2
  go_ret
  exact ⟨rfl, HV9.out.1⟩
end Go.Proofs.YtgpbkindkfpkaaaDoor
