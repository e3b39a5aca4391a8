/-
  What is proved here: the statements' own head (cohortlaw05), over this program.
-/
import Derived.Test.YtpgahjnjkihmhaaGreatDoorCB
import Derived.Test.YtpgahjnjkihmhaaGreatDoorCC
namespace Go.Proofs.YtpgahjnjkihmhaaGreatDoor
open Go.RowKit Go.Extern.Stop Go.Stop Go.Extern

/-- a literal row of ints -/
theorem nums_lit2 (w : World) (t : TypeId) (x y : Int) : NumsIn (w.alloc (.cells #[.int .i64 x, .int .i64 y] t)) (fun k => k = w.heap.size) (.slice (some ⟨w.heap.size, 0, none⟩) 2 2) [x, y] := by
  refine ⟨_, _, rfl, (fun e => nomatch e), fun k z hz => ⟨w.heap.size, 0, rfl, rfl, ?_⟩⟩
  match k, hz with
  | 0, hz => simp [numCells] at hz; subst hz; rw [World.cell?_alloc_at _ _ _ _ rfl]; rfl
  | 1, hz => simp [numCells] at hz; subst hz; rw [World.cell?_alloc_at _ _ _ _ rfl]; rfl
  | k + 2, hz => simp [numCells] at hz
theorem nums_lit3 (w : World) (t : TypeId) (x y z : Int) : NumsIn (w.alloc (.cells #[.int .i64 x, .int .i64 y, .int .i64 z] t)) (fun k => k = w.heap.size) (.slice (some ⟨w.heap.size, 0, none⟩) 3 3) [x, y, z] := by
  refine ⟨_, _, rfl, (fun e => nomatch e), fun k u hu => ⟨w.heap.size, 0, rfl, rfl, ?_⟩⟩
  match k, hu with
  | 0, hu => simp [numCells] at hu; subst hu; rw [World.cell?_alloc_at _ _ _ _ rfl]; rfl
  | 1, hu => simp [numCells] at hu; subst hu; rw [World.cell?_alloc_at _ _ _ _ rfl]; rfl
  | 2, hu => simp [numCells] at hu; subst hu; rw [World.cell?_alloc_at _ _ _ _ rfl]; rfl
  | k + 3, hu => simp [numCells] at hu

/-- head's seals -/
def hSeals : List Op4 := [(1, 0, 5), (1, 1, 5), (1, 3, 5)]
theorem hSeals_ok : ∀ y ∈ hSeals, Op4Ok y := by
  intro y hy
  simp [hSeals] at hy
  rcases hy with rfl | rfl | rfl <;> (unfold Op4Ok fits; simp)
theorem hSeals_in (w : World) (t : TypeId) : Ops4In (w.alloc (.cells #[.int .i64 1, .int .i64 0, .int .i64 5, .int .i64 1, .int .i64 1, .int .i64 5, .int .i64 1, .int .i64 3, .int .i64 5] t)) (· < (w.alloc (.cells #[.int .i64 1, .int .i64 0, .int .i64 5, .int .i64 1, .int .i64 1, .int .i64 5, .int .i64 1, .int .i64 3, .int .i64 5] t)).heap.size) (.slice (some ⟨w.heap.size, 0, none⟩) 3 3) hSeals := by
  refine ⟨_, _, rfl, fun k x hx => ⟨w.heap.size, 0, rfl, by simp, ?_⟩⟩
  match k, hx with
  | 0, hx => simp [hSeals] at hx; subst hx; exact ⟨by rw [World.cell?_alloc_at _ _ _ _ rfl]; rfl, by rw [World.cell?_alloc_at _ _ _ _ rfl]; rfl, by rw [World.cell?_alloc_at _ _ _ _ rfl]; rfl⟩
  | 1, hx => simp [hSeals] at hx; subst hx; exact ⟨by rw [World.cell?_alloc_at _ _ _ _ rfl]; rfl, by rw [World.cell?_alloc_at _ _ _ _ rfl]; rfl, by rw [World.cell?_alloc_at _ _ _ _ rfl]; rfl⟩
  | 2, hx => simp [hSeals] at hx; subst hx; exact ⟨by rw [World.cell?_alloc_at _ _ _ _ rfl]; rfl, by rw [World.cell?_alloc_at _ _ _ _ rfl]; rfl, by rw [World.cell?_alloc_at _ _ _ _ rfl]; rfl⟩
  | k + 3, hx => simp [hSeals] at hx
theorem hSeals_all : sealedTo [] hSeals (min hSeals.length 200) = [(116, 5), (117, 5), (119, 5)] := by decide +kernel
theorem hSeals_who : whoTo [(116, 5), (117, 5), (119, 5)] 1 5 10 = [0, 1, 3] := by decide +kernel
theorem hSeals_chk1 : chk [(116, 5), (117, 5), (119, 5)] 1 5 [0, 1, 3] 3 = none := by decide +kernel
theorem hSeals_chk2 : chk [(116, 5), (117, 5), (119, 5)] 1 5 [0, 1, 1] 3 = some (52, ⟨#[115, 105, 103, 110, 101, 114]⟩, 2) := by decide +kernel
theorem hSeals_chk3 : chk [(116, 5), (117, 5), (119, 5)] 1 5 [0, 1] 3 = some (51, ⟨#[99, 104, 101, 99, 107]⟩, 2) := by decide +kernel
theorem hText1 : textL [(⟨#[115, 105, 103, 110, 101, 114]⟩, 2)] ++ errText 52 = [115, 105, 103, 110, 101, 114, 32, 50, 58, 32, 99, 111, 104, 111, 114, 116, 58, 32, 101, 114, 114, 111, 114, 32, 53, 50] := by decide +kernel
theorem hText2 : textL [(⟨#[99, 104, 101, 99, 107]⟩, 2)] ++ errText 51 = [99, 104, 101, 99, 107, 32, 50, 58, 32, 99, 111, 104, 111, 114, 116, 58, 32, 101, 114, 114, 111, 114, 32, 53, 49] := by decide +kernel

set_option maxRecDepth 100000 in
set_option maxHeartbeats 8000000 in
theorem head05_true (w : World) (hg : ET w) (ht : PT w) : Calls Tryz.prog 4 #[] w fun e w' => e = .returned (.bool true) ∧ Below w.heap.size w w' := by
  have HV0 : Hid (Env w w) := ⟨Below.refl _ _, hg, ht⟩
  clear hg ht
  go_enter Tryz.func4, Tryz.ntmps4
  go_wp2_with fail
  have hal := (Below.refl w.heap.size w).alloc (Nat.le_refl _) (Obj.cells #[.int .i64 1, .int .i64 0, .int .i64 5, .int .i64 1, .int .i64 1, .int .i64 5, .int .i64 1, .int .i64 3, .int .i64 5] 40)
  have HV1 := hideIt (HV0.out.next hal)
  clear hal
  refine (signed_any _ hSeals _ (hSeals_in w 40) (by decide) hSeals_ok).mono ?_
  rw [hSeals_all]
  rintro e w2 ⟨p, q, rfl, C, O, O2, hs, -, -, -, -, -, hb⟩
  have HV2 := hideIt (HV1.out.next hb)
  have HS2 := hideIt hs
  clear hs hb HV0 HV1
  have hmk := cMake_ok w2 p O _ 1 5 3 HS2.out (by unfold fits; omega) (by omega) (by rw [hSeals_who]; decide)
  rw [hSeals_who, show ((3 : Nat) : Int) = 3 from rfl, show List.take 3 [(0 : Int), 1, 3] = [0, 1, 3] from rfl] at hmk
  have HMK := hideIt hmk
  clear hmk
  go_wp2_with fail
  refine HMK.out.mono ?_
  rintro e w3 ⟨a, cap, rfl, hn3, hb3⟩
  have HV3 := hideIt (HV2.out.next hb3)
  have HS3 := hideIt (HS2.out.kept (Kept.of_all hb3))
  have HN3 := hideIt hn3
  have hsz3 := hb3.size
  have hc3 := HN3.out.at (k := 2) (x := 3) rfl
  obtain ⟨b, off, rfl, hb, c3⟩ := hc3
  clear hn3 hb3 HMK HS2
  go_wp2_with fail
  obtain ⟨W, hW, hwb, hws, c0, c1, c2, _, _, _⟩ := room_new w3 24 (.int .i64 1) (.int .i64 5) (.slice (some ⟨b, off, none⟩) 3 cap)
  rw [← hW]
  have HV4 := hideIt (HV3.out.next hwb)
  have HS4 := hideIt (HS3.out.kept (Kept.of_all hwb))
  have HN4 := hideIt (RowIn.kept HN3.out (Kept.of_all hwb))
  have c4 := (hwb.cell (lt_of_cell c3)).trans c3
  clear hW hwb HS3 HN3 c3
  refine (cCheck_any W p O _ _ 1 5 _ [0, 1, 3] 3 HS4.out HN4.out (by unfold fits; omega) (by decide)).mono ?_
  rw [hSeals_chk1]
  rintro e w5 ⟨er, rfl, he, hb5⟩
  simp only [ErrAs] at he
  subst he
  have HV5 := hideIt (HV4.out.next hb5)
  have HS5 := hideIt (HS4.out.kept (Kept.of_all hb5))
  have c5 := (hb5.cell (lt_of_cell c4)).trans c4
  have q2 := (hb5.cell (lt_of_cell c2)).trans c2
  clear hb5 HS4 HN4 c4 c0 c1 c2 hws
  go_wp2_with fail
  have hal := (Below.refl w5.heap.size w5).alloc (Nat.le_refl _) (Obj.cells #[.int .i64 0, .int .i64 1, .int .i64 1] 3)
  have HV6 := hideIt (HV5.out.next hal)
  have HS6 := hideIt (HS5.out.kept (Kept.of_all hal))
  have c6 := (hal.cell (lt_of_cell c5)).trans c5
  have q6 := (hal.cell (lt_of_cell q2)).trans q2
  have HN6 := hideIt (nums_lit3 w5 3 0 1 1)
  clear hal HS5 c5 q2
  refine (cCheck_any _ p O _ _ 1 5 _ [0, 1, 1] 3 HS6.out HN6.out (by unfold fits; omega) (by decide)).mono ?_
  rw [hSeals_chk2]
  generalize w5.alloc (Obj.cells #[.int .i64 0, .int .i64 1, .int .i64 1] 3) = w6 at HV6 HS6 HN6 c6 q6 ⊢
  rintro e w7 ⟨er, rfl, he, hb7⟩
  obtain ⟨ty, y, rfl⟩ := One.iface he
  have HE7 := hideIt he
  have HV7 := hideIt (HV6.out.next hb7)
  have HS7 := hideIt (HS6.out.kept (Kept.of_all hb7))
  have c7 := (hb7.cell (lt_of_cell c6)).trans c6
  have q7 := (hb7.cell (lt_of_cell q6)).trans q6
  clear hb7 HS6 HN6 c6 q6 he
  go_wp2_with fail
  have hal := (Below.refl w7.heap.size w7).alloc (Nat.le_refl _) (Obj.cells #[.int .i64 0, .int .i64 1] 3)
  have HV8 := hideIt (HV7.out.next hal)
  have HS8 := hideIt (HS7.out.kept (Kept.of_all hal))
  have HE8 := hideIt (One.kept HE7.out (Kept.of_all hal))
  have c8 := (hal.cell (lt_of_cell c7)).trans c7
  have q8 := (hal.cell (lt_of_cell q7)).trans q7
  have HN8 := hideIt (nums_lit2 w7 3 0 1)
  clear hal HS7 c7 q7 HE7
  refine (cCheck_any _ p O _ _ 1 5 _ [0, 1] 3 HS8.out HN8.out (by unfold fits; omega) (by decide)).mono ?_
  rw [hSeals_chk3]
  generalize w7.alloc (Obj.cells #[.int .i64 0, .int .i64 1] 3) = w8 at HV8 HS8 HN8 HE8 c8 q8 ⊢
  rintro e w9 ⟨er, rfl, he, hb9⟩
  obtain ⟨ty2, y2, rfl⟩ := One.iface he
  have HF9 := hideIt he
  have HE9 := hideIt (One.kept HE8.out (Kept.of_all hb9))
  have HV9 := hideIt (HV8.out.next hb9)
  have c9 := (hb9.cell (lt_of_cell c8)).trans c8
  have q9 := (hb9.cell (lt_of_cell q8)).trans q8
  clear hb9 HS8 HN8 HE8 c8 q8 he
  have HA9 := hideIt (HV9.out.at HE9.out)
  go_wp2_with fail
  refine (HA9.out.text (by unfold fits; omega) (by decide) (by intro x hx; simp at hx; subst hx; unfold fits; simp) (by decide +kernel)).mono ?_
  rintro e w10 ⟨he, -, HB10⟩
  have he' : e = Ending.returned (.string ⟨#[115, 105, 103, 110, 101, 114, 32, 50, 58, 32, 99, 111, 104, 111, 114, 116, 58, 32, 101, 114, 114, 111, 114, 32, 53, 50]⟩) := by rw [he]; exact congrArg (fun x => Ending.returned (.string ⟨List.toArray x⟩)) hText1
  clear he
  subst he'
  have HV10 := hideIt (HV9.out.next HB10.out)
  have HF10 := hideIt (One.kept HF9.out (Kept.of_all HB10.out))
  have HA10 := hideIt (HV10.out.at HF10.out)
  clear HA9 HE9 HB10 HF9 HF10
  go_wp2_with fail
  refine (HA10.out.text (by unfold fits; omega) (by decide) (by intro x hx; simp at hx; subst hx; unfold fits; simp) (by decide +kernel)).mono ?_
  rintro e w11 ⟨he, -, HB11⟩
  have he' : e = Ending.returned (.string ⟨#[99, 104, 101, 99, 107, 32, 50, 58, 32, 99, 111, 104, 111, 114, 116, 58, 32, 101, 114, 114, 111, 114, 32, 53, 49]⟩) := by rw [he]; exact congrArg (fun x => Ending.returned (.string ⟨List.toArray x⟩)) hText2
  clear he
  subst he'
  have HV11 := hideIt (HV10.out.next HB11.out)
  clear HA10 HB11
  go_wp2
  go_ret
  exact ⟨rfl, HV11.out.1⟩
end Go.Proofs.YtpgahjnjkihmhaaGreatDoor
