/-
  What is proved here: the head of cohortlaw09; over this program.
-/
import Derived.Test.YtafhmbgnldmedaaDoorPJ
namespace Go.Proofs.YtafhmbgnldmedaaDoor
open Go.RowKit Go.Extern.Stop Go.Stop Go.Extern

/-- a world behind w0, with a Route -/
structure Rs (w0 w : World) (p : Nat) (l : List Pc) : Prop where
  env : Env w0 w
  rt : Rt w p (fun k => k ≠ p) l
  low : w0.heap.size ≤ p
  fit : FitP l
theorem Rs.next {w0 w w' : World} {p : Nat} {l : List Pc} (h : Rs w0 w p l) (hb : Below w.heap.size w w') : Rs w0 w' p l := ⟨h.env.next hb, h.rt.next hb, h.low, h.fit⟩
theorem Rs.new {w0 w w' : World} {p : Nat} {l : List Pc} (h : Env w0 w) (hn : NewRt w w' p l) (hf : FitP l) : Rs w0 w' p l :=
  ⟨h.next hn.2.2, hn.2.1.mono (fun _ hk _ => hk.2) (fun h => h rfl), Nat.le_trans h.1.size hn.1, hf⟩
theorem Rs.move {w0 w w' : World} {p : Nat} {l l' : List Pc} {fk tk : List UInt8} {s n at' : Int} (h : Rs w0 w p l) (hr : Rt w' p (fun b => b ≠ p ∨ w.heap.size ≤ b) l') (hg : w.grownBy w' (some p)) (hm : MoveIs l fk tk s n at' l') : Rs w0 w' p l' :=
  ⟨h.env.grown hg h.low, hr.mono (fun b hb _ => by
    rcases hb with e | e
    · exact e
    · have := h.rt.lt; omega) (fun h => h rfl), h.low, move_fit h.fit hm⟩
theorem Rs.few {w0 w : World} {p : Nat} {l : List Pc} (h : Rs w0 w p l) : l.length ≤ 100000 := by have := h.fit.few; omega
theorem hold_dec {L : List Pc} {key : List UInt8} {a : Nat} (h1 : a < L.length) (h2 : (L.take (a + 1)).all (fun x => !(Op.bytesLess key x.1)) = true) (h3 : (L.drop (a + 1)).all (fun x => Op.bytesLess key x.1) = true) : HoldIs L key a := by
  refine ⟨h1, fun j x hj hx hk => ?_, fun j x hj hx => ?_⟩
  · have h4 := List.all_eq_true.1 h2 x (List.mem_of_getElem? (i := j) (by rw [List.getElem?_take_of_lt (by omega)]; exact hx))
    rw [show Op.bytesLess key x.1 = true from hk] at h4; cases h4
  · exact List.all_eq_true.1 h3 x (List.mem_of_getElem? (i := j - (a + 1)) (by rw [List.getElem?_drop, show a + 1 + (j - (a + 1)) = j by omega]; exact hx))
def headL0 : List Pc := [([], 0, 1)]
def headL1 : List Pc := [([], 0, 1), ([107], 0, 1)]
def headL2 : List Pc := [([], 0, 1), ([107], 0, 1), ([112], 0, 1)]
def headL3 : List Pc := [([], 0, 1), ([107], 2, 2), ([112], 0, 1)]
theorem head_fit : FitP headL0 := by
  refine fit_mk (by decide) (by decide) (fun p hp => ?_) ?_ (fun p hp => ?_)
  · simp [headL0] at hp; subst hp; rfl
  · exact List.pairwise_singleton _ _
  · simp [headL0] at hp; subst hp; unfold PcOk; decide
theorem head_move : MoveIs headL0 [107] [112] 2 0 0 headL3 :=
  Or.inr (Or.inr ⟨⟨by decide, Or.inr ⟨by unfold kLt; decide, by decide⟩⟩, by unfold IsShard; decide, headL1, headL2, ⟨0, ([], 0, 1), hold_dec (by decide) (by decide) (by decide), rfl, Or.inr ⟨by decide, rfl⟩⟩,
    ⟨1, ([107], 0, 1), hold_dec (by decide) (by decide) (by decide), rfl, Or.inr ⟨by decide, rfl⟩⟩, Or.inr (Or.inr ⟨fun p hp _ => by simp [headL2] at hp; rcases hp with rfl | rfl | rfl <;> decide, by decide, rfl, rfl, by decide⟩)⟩)
theorem head_bad : MoveIs headL3 [98] [97] 0 91 0 headL3 :=
  Or.inl ⟨fun h => by
    rcases h.2 with h2 | ⟨h2, _⟩
    · cases h2
    · exact absurd h2 (by unfold kLt; decide), rfl, rfl, rfl⟩
theorem head_ownM : OwnIs headL3 [109] ([107], 2, 2) := ⟨1, hold_dec (by decide) (by decide) (by decide), rfl⟩
theorem head_ownP : OwnIs headL3 [112] ([112], 0, 1) := ⟨2, hold_dec (by decide) (by decide) (by decide), rfl⟩
theorem head_text9 : textL [(routeS, 0)] ++ errText 1 = [114, 111, 117, 116, 101, 32, 48, 58, 32, 99, 111, 104, 111, 114, 116, 58, 32, 101, 114, 114, 111, 114, 32, 49] := by decide +kernel
/-- a room's three cells -/
def R3 (w : World) (q : Nat) (a b c : Value) : Prop := w.cell? ⟨q, 0, none⟩ = some a ∧ w.cell? ⟨q, 1, none⟩ = some b ∧ w.cell? ⟨q, 2, none⟩ = some c
theorem R3.next {w w' : World} {q : Nat} {a b c : Value} (h : R3 w q a b c) (hb : Below w.heap.size w w') : R3 w' q a b c :=
  ⟨(hb.cell (lt_of_cell h.1)).trans h.1, (hb.cell (lt_of_cell h.2.1)).trans h.2.1, (hb.cell (lt_of_cell h.2.2)).trans h.2.2⟩
theorem R3.lt {w : World} {q : Nat} {a b c : Value} (h : R3 w q a b c) : q < w.heap.size := lt_of_cell (a := ⟨q, 0, none⟩) h.1
theorem R3.grown {w w' : World} {p q : Nat} {a b c : Value} (h : R3 w q a b c) (hg : w.grownBy w' (some p)) (hn : q ≠ p) : R3 w' q a b c := by
  have hb := hg.block q h.lt (fun e => hn (by cases e; rfl))
  exact ⟨(World.cell?_of_block (a := ⟨q, 0, none⟩) hb).trans h.1, (World.cell?_of_block (a := ⟨q, 1, none⟩) hb).trans h.2.1, (World.cell?_of_block (a := ⟨q, 2, none⟩) hb).trans h.2.2⟩
theorem PcsIn.nextW {w w' : World} {v : Value} {l : List Pc} (h : PcsIn w (· < w.heap.size) v l) (hb : Below w.heap.size w w') : PcsIn w' (· < w.heap.size) v l := RowIn.kept h (Kept.of_all hb)

set_option maxRecDepth 100000 in
set_option maxHeartbeats 8000000 in
theorem head09_true (w : World) (hg : ET w) (ht : PT w) : Calls Tryd.prog 9 #[] w fun e w' => e = .returned (.bool true) ∧ Below w.heap.size w w' := by
  have HV0 : Hid (Env w w) := ⟨Below.refl _ _, hg, ht⟩
  clear hg ht
  obtain ⟨W, hW, hwb, hws, hrow⟩ := lit_one w ([], 0, 1)
  have HOF := hideIt (rqOf_any W (fun _ => True) _ headL0 (RowIn.of_own hrow (fun _ _ => trivial)) (by unfold maxLen; decide))
  have HVW := hideIt (HV0.out.next hwb)
  clear hrow hwb
  go_enter Tryd.func9, Tryd.ntmps9
  go_wp2_with fail
  rw [← hW]
  clear hW
  refine HOF.out.mono ?_
  rintro e w1 ⟨n, k, hof, ⟨hn, _⟩ | ⟨rfl, p, rfl, hnr⟩⟩
  · exact absurd (of_one (Or.inr (Or.inr (Or.inr ⟨head_fit, rfl, rfl⟩))) hof).1 hn
  have HS1 := hideIt (Rs.new HVW.out hnr head_fit)
  clear hnr hof HOF HVW HV0
  go_wp2_with fail
  refine (rqOf_any w1 (fun _ => True) (.slice none 0 0) [] ⟨none, 0, rfl, fun _ => ⟨rfl, rfl, rfl⟩, fun k x hx => by simp [pcsCells] at hx⟩ (by simp)).mono ?_
  rintro e w2 ⟨n, k, hof, ⟨hn, er, rfl, ho, hb⟩ | ⟨rfl, p, rfl, hnr⟩⟩
  case inr => exact absurd (of_one (Or.inl ⟨rfl, rfl, rfl⟩) hof).1 (by decide)
  obtain ⟨rfl, rfl⟩ := of_one (Or.inl ⟨rfl, rfl, rfl⟩) hof
  have HS2 := hideIt (HS1.out.next hb)
  have HO2 := hideIt (And.intro ho (HS1.out.rt.lt))
  obtain ⟨ty, y, rfl⟩ := ho.iface
  clear ho hb hn hof HS1
  go_wp2_with fail
  refine (rqMove_any w2 p _ headL0 [107] [112] 2 HS2.out.rt HS2.out.fit).mono ?_
  rintro e w3 ⟨n, k3, l3, er, rfl, hm, her, hr, hg⟩
  obtain ⟨rfl, _, rfl⟩ := move_one head_move hm
  have HS3 := hideIt (HS2.out.move hr hg hm)
  have HPL := hideIt HO2.out.2
  have HO3 := hideIt (HO2.out.1.kept (Kept.of_grown hg (fun h => by have := HO2.out.2; omega)))
  obtain rfl : er = .nilIface := by
    rcases her with ⟨_, h⟩ | ⟨h, _⟩
    · exact h
    · exact absurd rfl h
  clear hm her hr hg HS2 HO2
  go_wp2_with fail
  refine (rqOwner_any w3 p _ headL3 [109] HS3.out.rt HS3.out.fit.lin HS3.out.few).mono ?_
  rintro e w4 ⟨x, rfl, hx, hb4⟩
  obtain rfl := own_one head_ownM hx
  unfold pcV
  obtain ⟨W4, hW, hwb, _, y0, y1, y2⟩ := room3 w4 39 (.string ⟨#[107]⟩) (.int .i64 2) (.int .i64 2)
  have HS4 := hideIt ((HS3.out.next hb4).next hwb)
  have HO4 := hideIt ((HO3.out.kept (Kept.of_all hb4)).kept (Kept.of_all hwb))
  have HX4 : Hid (R3 W4 w4.heap.size (.string ⟨#[107]⟩) (.int .i64 2) (.int .i64 2)) := hideIt ⟨y0, y1, y2⟩
  have HN4 : Hid (w4.heap.size ≠ p) := hideIt (fun e => by have := (HS3.out.next hb4).rt.lt; omega)
  clear hx hb4 hwb y0 y1 y2 HS3 HO3
  go_wp2_with fail
  rw [← hW]
  clear hW
  refine (rqOwner_any W4 p _ headL3 [112] HS4.out.rt HS4.out.fit.lin HS4.out.few).mono ?_
  rintro e w5 ⟨x, rfl, hx, hb5⟩
  obtain rfl := own_one head_ownP hx
  unfold pcV
  obtain ⟨W5, hW, hwb, _, y0, y1, y2⟩ := room3 w5 39 (.string ⟨#[112]⟩) (.int .i64 0) (.int .i64 1)
  have HS5 := hideIt ((HS4.out.next hb5).next hwb)
  have HO5 := hideIt ((HO4.out.kept (Kept.of_all hb5)).kept (Kept.of_all hwb))
  have HX5 := hideIt ((HX4.out.next hb5).next hwb)
  have HY5 : Hid (R3 W5 w5.heap.size (.string ⟨#[112]⟩) (.int .i64 0) (.int .i64 1)) := hideIt ⟨y0, y1, y2⟩
  have HN5 : Hid (w5.heap.size ≠ p) := hideIt (fun e => by have := (HS4.out.next hb5).rt.lt; omega)
  clear hx hb5 hwb y0 y1 y2 HS4 HO4 HX4
  go_wp2_with fail
  rw [← hW]
  clear hW
  refine (rqMove_any W5 p _ headL3 [98] [97] 0 HS5.out.rt HS5.out.fit).mono ?_
  rintro e w6 ⟨n, k6, l6, er, rfl, hm, her, hr, hg⟩
  obtain ⟨rfl, rfl, rfl⟩ := move_one head_bad hm
  have HS6 := hideIt (HS5.out.move hr hg hm)
  have ho6 : One w6 (W5.heap.size ≤ ·) er 91 routeS 0 := by
    rcases her with ⟨h, _⟩ | ⟨_, h⟩
    · exact absurd h (by decide)
    · exact h
  have HB6 := hideIt ho6
  have HO6 := hideIt (HO5.out.kept (Kept.of_grown hg (fun h => by have := HPL.out; omega)))
  obtain ⟨ty6, y6, rfl⟩ := ho6.iface
  have HX6 := hideIt (HX5.out.grown hg HN4.out)
  have HY6 := hideIt (HY5.out.grown hg HN5.out)
  clear hm her hr hg ho6 HS5 HO5 HX5 HY5 HN4 HN5 HPL
  go_wp2_with fail
  have HA := hideIt (HS6.out.env.at HO6.out)
  refine (HA.out.text (by unfold fits; omega) (by decide) (by intro x hx; simp at hx; subst hx; unfold fits; simp) (by decide +kernel)).mono ?_
  rintro e w8 ⟨he, -, HB8⟩
  have he' : e = Ending.returned (.string ⟨#[114, 111, 117, 116, 101, 32, 48, 58, 32, 99, 111, 104, 111, 114, 116, 58, 32, 101, 114, 114, 111, 114, 32, 49]⟩) := by rw [he]; exact congrArg (fun x => Ending.returned (.string ⟨List.toArray x⟩)) head_text9
  clear he
  subst he'
  have HS8 := hideIt (HS6.out.next HB8.out)
  have HE8 := hideIt (HB6.out.kept (Kept.of_all HB8.out))
  have x0 := (HX6.out.next HB8.out).1
  have x1 := (HX6.out.next HB8.out).2.1
  have x2 := (HX6.out.next HB8.out).2.2
  have y0 := (HY6.out.next HB8.out).1
  have y1 := (HY6.out.next HB8.out).2.1
  have y2 := (HY6.out.next HB8.out).2.2
  clear HA HB8 HS6 HO6 HX6 HY6 HB6
  go_wp2_with fail
  refine ((HS8.out.env.at HE8.out).code).mono ?_
  rintro e w9 ⟨rfl, -, HB9⟩
  have HS9 := hideIt (HS8.out.next HB9.out)
  clear HB9 HS8 HE8 x0 x1 x2 y0 y1 y2
  go_wp2_with fail
  refine (rqPieces_any w9 p _ headL3 HS9.out.rt HS9.out.few).mono ?_
  rintro e wa ⟨z, rfl, ho, hb⟩
  have HSa := hideIt (HS9.out.next hb)
  obtain ⟨az, cz, rfl⟩ := own_form ho
  rw [show headL3.length = 3 from rfl]
  clear ho hb HS9
  go_wp2
  go_ret
  exact ⟨rfl, HSa.out.env.1⟩
end Go.Proofs.YtafhmbgnldmedaaDoor
