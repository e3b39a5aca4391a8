/-
  What is proved here: the walk of cohortlaw07.StorePuts, over this program.
-/
import Derived.Test.YtddmjbmfkdhhgaaDoorEJ
import Derived.Test.YtddmjbmfkdhhgaaDoorEG
namespace Go.Proofs.YtddmjbmfkdhhgaaDoor
open Go.RowKit Go.Extern.Stop Go.Stop Go.Extern

def R3 (w : World) (q : Nat) (a b c : Value) : Prop := w.cell? ⟨q, 0, none⟩ = some a ∧ w.cell? ⟨q, 1, none⟩ = some b ∧ w.cell? ⟨q, 2, none⟩ = some c
theorem R3.next {w w' : World} {q : Nat} {a b c : Value} (h : R3 w q a b c) (hb : Below w.heap.size w w') : R3 w' q a b c :=
  ⟨(hb.cell (lt_of_cell h.1)).trans h.1, (hb.cell (lt_of_cell h.2.1)).trans h.2.1, (hb.cell (lt_of_cell h.2.2)).trans h.2.2⟩
theorem R3.lt {w : World} {q : Nat} {a b c : Value} (h : R3 w q a b c) : q < w.heap.size := lt_of_cell (a := ⟨q, 0, none⟩) h.1
theorem R3.move {w w' : World} {q : Nat} {a b c : Value} {O O' : Nat → Prop} (h : R3 w q a b c) (hm : Move w O w' O') (hn : ¬ O q) : R3 w' q a b c := by
  have z := hm.turn.kept (A := fun k => k = q) (fun k hk _ => by subst hk; exact hn)
  exact ⟨z.cell (a := ⟨q, 0, none⟩) rfl h.1, z.cell (a := ⟨q, 1, none⟩) rfl h.2.1, z.cell (a := ⟨q, 2, none⟩) rfl h.2.2⟩
theorem Ss.not {w0 w : World} {p q : Nat} {O : Nat → Prop} {l : List Ent} (h : Ss w0 w p O l) (hq : w.heap.size ≤ q) : ¬ O q := fun o => by
  obtain ⟨_, _, _, _, h, _⟩ := h.sto
  have := h _ o
  omega
theorem all_in (l : List Ent) : l.filter (inR [] []) = l := by
  refine List.filter_eq_self.2 fun e _ => ?_
  have h : Op.bytesLess e.1 [] = false := by cases e.1 <;> rfl
  simp [inR, h, upB]
theorem put_nil {w' : World} {B : Nat} {er : Value} {l l' : List Ent} {key val : List UInt8} (h : PutIs l key val w' B er l') : (∃ ty y, er = .iface ty y ∧ l' = l) ∨ er = .nilIface := by
  rcases h with ⟨n, ho, e, _⟩ | ⟨h, _⟩
  · obtain ⟨ty, y, rfl⟩ := ho.iface
    exact Or.inl ⟨ty, y, rfl, e⟩
  · exact Or.inr h
theorem put_got {w' : World} {B : Nat} {l l' : List Ent} {key val : List UInt8} {old : Ent} {is : Bool} (hf : Fit l) (hg : GetIs l key old is) (h : PutIs l key val w' B .nilIface l') :
    Fit l' ∧ GetIs l' key (key, val, old.2.2 + 1) true ∧ IntKind.i64.wrap (old.2.2 + 1) = old.2.2 + 1 ∧ l'.length = (if is then l.length else l.length + 1) := by
  have hr := hf.rising
  rcases h with ⟨n, ho, _⟩ | ⟨_, h2, _, a, hp, ⟨o, h, hk, hlt, rfl⟩ | ⟨hn, rfl⟩⟩
  · obtain ⟨ty, y, e⟩ := ho.iface
    cases e
  · obtain ⟨e1, e2⟩ := GetIs.one hr (Or.inl ⟨rfl, hk, a, h⟩) hg
    subst e1 e2
    have hal : a < l.length := (List.getElem?_eq_some_iff.1 h).1
    have hv := (hf.mem (List.mem_of_getElem? h)).2.2
    subst hk
    refine ⟨h2, Or.inl ⟨rfl, rfl, a, by simp [hal]⟩, ?_, by simp⟩
    simp [IntKind.wrap, IntKind.bits, IntKind.signed]; omega
  · have hne := place_get hr hp hn
    obtain ⟨e1, e2⟩ := GetIs.one hr (Or.inr ⟨rfl, rfl, hne⟩) hg
    subst e1 e2
    refine ⟨h2, Or.inl ⟨rfl, rfl, a, by rw [ins_get hp.1]; simp [zeroE]⟩, by simp [zeroE, IntKind.wrap, IntKind.bits, IntKind.signed], ?_⟩
    have := hp.1
    simp only [List.length_append, List.length_take, List.length_drop, List.length_cons, List.length_nil, Bool.false_eq_true, if_false]
    omega
theorem put_kept {w' : World} {B : Nat} {l l' : List Ent} {key val oth : List UInt8} {was : Ent} {is : Bool} (ho : oth ≠ key) (hg : GetIs l oth was is) (h : PutIs l key val w' B .nilIface l') : GetIs l' oth was is := by
  rcases h with ⟨n, ho, _⟩ | ⟨_, _, _, a, hp, ⟨o, h, hk, _, rfl⟩ | ⟨hn, rfl⟩⟩
  · obtain ⟨ty, y, e⟩ := ho.iface
    cases e
  · rcases hg with ⟨rfl, g1, i, g2⟩ | ⟨rfl, g1, g2⟩
    · refine Or.inl ⟨rfl, g1, i, ?_⟩
      have hia : a ≠ i := fun e => by subst e; rw [h] at g2; cases g2; exact ho (g1.symm.trans hk)
      rw [List.getElem?_set_ne hia]; exact g2
    · refine Or.inr ⟨rfl, g1, fun i e he => ?_⟩
      by_cases hia : a = i
      · subst hia
        have hal : a < l.length := (List.getElem?_eq_some_iff.1 h).1
        simp [hal] at he
        subst he
        exact fun e => ho (e.symm.trans hk)
      · rw [List.getElem?_set_ne hia] at he; exact g2 i e he
  · rcases hg with ⟨rfl, g1, i, g2⟩ | ⟨rfl, g1, g2⟩
    · by_cases hia : i < a
      · exact Or.inl ⟨rfl, g1, i, by rw [ins_get hp.1, if_pos hia]; exact g2⟩
      · exact Or.inl ⟨rfl, g1, i + 1, by rw [ins_get hp.1, if_neg (by omega), if_neg (by omega)]; exact g2⟩
    · refine Or.inr ⟨rfl, g1, fun i e he => ?_⟩
      rw [ins_get hp.1] at he
      split at he
      · exact g2 i e he
      · split at he
        · cases he; exact fun e => ho e.symm
        · exact g2 _ e he

set_option maxRecDepth 100000 in
set_option maxHeartbeats 16000000 in
theorem sputs_true (v : Value) (l : List Ent) (key val oth : List UInt8) (w : World) (hv : EntsIn w (· < w.heap.size) v l) (hn : l.length ≤ maxLen) (hg : ET w) (ht : PT w) :
    Calls Tryd.prog 3 #[v, .string ⟨key.toArray⟩, .string ⟨val.toArray⟩, .string ⟨oth.toArray⟩] w fun e w' => e = .returned (.bool true) ∧ Below w.heap.size w w' := by
  have HV0 : Hid (Env w w) := ⟨Below.refl _ _, hg, ht⟩
  have HH := hideIt (head07_true w hg ht)
  have HA := hideIt (And.intro hv hn)
  obtain ⟨a, cap, rfl⟩ := hv.form
  clear hg ht hv hn
  go_enter Tryd.func3, Tryd.ntmps3
  go_wp2_with fail
  refine HH.out.mono ?_
  rintro e w1 ⟨rfl, hb1⟩
  have HV1 := hideIt (HV0.out.next hb1)
  have HA1 := hideIt (HA.out.1.kept (Kept.of_below hb1 (fun _ h _ => h)))
  clear hb1 HH
  go_wp2_with fail
  refine (stof_any w1 _ _ l HA1.out HA.out.2).mono ?_
  rintro e w2 (⟨hf, p, rfl, hns⟩ | ⟨_, rfl, hb2⟩)
  case inr =>
    have HV2 := hideIt (HV1.out.next hb2)
    clear hb2
    go_wp2
    go_ret
    exact ⟨rfl, HV2.out.1⟩
  have HS2 := hideIt (Ss.new HV1.out hns)
  obtain ⟨O2, hO2⟩ : ∃ O2 : Nat → Prop, O2 = fun k => w1.heap.size ≤ k ∧ k < w2.heap.size := ⟨_, rfl⟩
  rw [← hO2] at HS2
  have HF := hideIt hf
  have HL := hideIt (show l.length ≤ 100000 by have := hf.1; omega)
  clear hns hf hO2 HA HA1 HV0 HV1
  go_wp2_with fail
  refine (great07_any _ l w2 a cap rfl).mono ?_
  rintro e w3 ⟨⟨g, rfl, _⟩, hb3⟩
  have HS3 := hideIt (HS2.out.next hb3)
  clear hb3 HS2
  cases g with
  | true =>
    go_wp2
    go_ret
    exact ⟨rfl, HS3.out.env.1⟩
  | false =>
  go_wp2_with fail
  refine (stget_any w3 p O2 l key HS3.out.sto HF.out.rising HL.out).mono ?_
  rintro e w4 ⟨xo, io, rfl, hgo, hb4⟩
  have HGO := hideIt hgo
  unfold entV
  obtain ⟨W4, hW, hwb, _, y0, y1, y2⟩ := room3 w4 28 (.string ⟨xo.1.toArray⟩) (.string ⟨xo.2.1.toArray⟩) (.int .i64 xo.2.2)
  have HS4 := hideIt ((HS3.out.next hb4).next hwb)
  have HY4 : Hid (R3 W4 w4.heap.size (.string ⟨xo.1.toArray⟩) (.string ⟨xo.2.1.toArray⟩) (.int .i64 xo.2.2)) := hideIt ⟨y0, y1, y2⟩
  have HN4 := hideIt ((HS3.out.next hb4).not (Nat.le_refl _))
  clear hgo hb4 hwb y0 y1 y2 HS3
  go_wp2_with fail
  rw [← hW]
  clear hW
  refine (stget_any W4 p O2 l oth HS4.out.sto HF.out.rising HL.out).mono ?_
  rintro e w5 ⟨xw, iw, rfl, hgw, hb5⟩
  have HGW := hideIt hgw
  unfold entV
  obtain ⟨W5, hW, hwb, _, y0, y1, y2⟩ := room3 w5 28 (.string ⟨xw.1.toArray⟩) (.string ⟨xw.2.1.toArray⟩) (.int .i64 xw.2.2)
  have HS5 := hideIt ((HS4.out.next hb5).next hwb)
  have HY5 := hideIt ((HY4.out.next hb5).next hwb)
  have HZ5 : Hid (R3 W5 w5.heap.size (.string ⟨xw.1.toArray⟩) (.string ⟨xw.2.1.toArray⟩) (.int .i64 xw.2.2)) := hideIt ⟨y0, y1, y2⟩
  have HN5 := hideIt ((HS4.out.next hb5).not (Nat.le_refl _))
  clear hgw hb5 hwb y0 y1 y2 HS4 HY4
  go_wp2_with fail
  rw [← hW]
  clear hW
  refine (strange_any W5 p O2 l [] [] HS5.out.sto HF.out.rising (by have := HF.out.1; omega)).mono ?_
  rintro e w6 ⟨vr, rfl, hrow, hb6⟩
  rw [all_in] at hrow
  obtain ⟨ar, cr, rfl⟩ := own_form hrow
  have HS6 := hideIt (HS5.out.next hb6)
  have HY6 := hideIt (HY5.out.next hb6)
  have HZ6 := hideIt (HZ5.out.next hb6)
  clear hrow hb6 HS5 HY5 HZ5
  go_wp2_with fail
  refine (stput_any w6 p O2 l key val HS6.out.sto HF.out).mono ?_
  rintro e w7 ⟨er, l', O7, rfl, hs7, hm7, hp7⟩
  have HS7 := hideIt (HS6.out.move hs7 hm7)
  have HY7 := hideIt (HY6.out.move hm7 HN4.out)
  have HZ7 := hideIt (HZ6.out.move hm7 HN5.out)
  have HF7 : Hid (Fit l') := hideIt (by
    rcases hp7 with ⟨_, _, rfl, _⟩ | ⟨_, h, _⟩
    · exact HF.out
    · exact h)
  have HL7 := hideIt (show l'.length ≤ 100000 by have := HF7.out.1; omega)
  have HP7 := hideIt hp7
  have her := put_nil hp7
  clear hs7 hm7 hp7 HS6 HY6 HZ6 HN4 HN5
  go_wp2_with fail
  refine (stget_any w7 p O7 l' key HS7.out.sto HF7.out.rising HL7.out).mono ?_
  rintro e w8 ⟨xx, ix, rfl, hgx, hb8⟩
  have HGX := hideIt hgx
  unfold entV
  obtain ⟨W8, hW, hwb, _, y0, y1, y2⟩ := room3 w8 28 (.string ⟨xx.1.toArray⟩) (.string ⟨xx.2.1.toArray⟩) (.int .i64 xx.2.2)
  have HS8 := hideIt ((HS7.out.next hb8).next hwb)
  have HY8 := hideIt ((HY7.out.next hb8).next hwb)
  have HZ8 := hideIt ((HZ7.out.next hb8).next hwb)
  have HX8 : Hid (R3 W8 w8.heap.size (.string ⟨xx.1.toArray⟩) (.string ⟨xx.2.1.toArray⟩) (.int .i64 xx.2.2)) := hideIt ⟨y0, y1, y2⟩
  clear hgx hb8 hwb y0 y1 y2 HS7 HY7 HZ7
  go_wp2_with fail
  rw [← hW]
  clear hW
  refine (stget_any W8 p O7 l' oth HS8.out.sto HF7.out.rising HL7.out).mono ?_
  rintro e w9 ⟨xn, im, rfl, hgn, hb9⟩
  have HGN := hideIt hgn
  unfold entV
  obtain ⟨W9, hW, hwb, _, y0, y1, y2⟩ := room3 w9 28 (.string ⟨xn.1.toArray⟩) (.string ⟨xn.2.1.toArray⟩) (.int .i64 xn.2.2)
  have HS9 := hideIt ((HS8.out.next hb9).next hwb)
  have HY9 := hideIt ((HY8.out.next hb9).next hwb)
  have HZ9 := hideIt ((HZ8.out.next hb9).next hwb)
  have HX9 := hideIt ((HX8.out.next hb9).next hwb)
  have HM9 : Hid (R3 W9 w9.heap.size (.string ⟨xn.1.toArray⟩) (.string ⟨xn.2.1.toArray⟩) (.int .i64 xn.2.2)) := hideIt ⟨y0, y1, y2⟩
  clear hgn hb9 hwb y0 y1 y2 HS8 HY8 HZ8 HX8
  rcases her with ⟨ty, y, rfl, rfl⟩ | rfl
  · obtain ⟨rfl, rfl⟩ := GetIs.one HF.out.rising HGO.out HGX.out
    obtain ⟨rfl, rfl⟩ := GetIs.one HF.out.rising HGW.out HGN.out
    have q1 := eq_ent xx xx
    rw [decide_eq_true (rfl : xx = xx)] at q1
    have q2 := eq_ent xn xn
    rw [decide_eq_true (rfl : xn = xn)] at q2
    have a0 := HY9.out.1
    have a1 := HY9.out.2.1
    have a2 := HY9.out.2.2
    have b0 := HZ9.out.1
    have b1 := HZ9.out.2.1
    have b2 := HZ9.out.2.2
    have c0 := HX9.out.1
    have c1 := HX9.out.2.1
    have c2 := HX9.out.2.2
    have d0 := HM9.out.1
    have d1 := HM9.out.2.1
    have d2 := HM9.out.2.2
    subst hW
    go_wp2
    go_ret
    exact ⟨rfl, HS9.out.env.1⟩
  · obtain ⟨_, hgk, hwr, hlen⟩ := put_got HF.out HGO.out HP7.out
    obtain ⟨rfl, rfl⟩ := GetIs.one HF7.out.rising hgk HGX.out
    have hkeep := fun h => put_kept (oth := oth) h HGW.out HP7.out
    have a0 := HY9.out.1
    have a1 := HY9.out.2.1
    have a2 := HY9.out.2.2
    have b0 := HZ9.out.1
    have b1 := HZ9.out.2.1
    have b2 := HZ9.out.2.2
    have c0 := HX9.out.1
    have c1 := HX9.out.2.1
    have c2 := HX9.out.2.2
    have d0 := HM9.out.1
    have d1 := HM9.out.2.1
    have d2 := HM9.out.2.2
    have hbnd := HF.out.1
    have hwl : IntKind.i64.wrap ((l.length : Int) + 1) = (l.length : Int) + 1 := by simp [IntKind.wrap, IntKind.bits, IntKind.signed]; omega
    subst hW
    cases io
    all_goals
      simp only [Bool.false_eq_true, if_false, if_true] at hlen
      have hli := congrArg (fun (n : Nat) => (n : Int)) hlen
      try rw [Int.natCast_add, Int.natCast_one] at hli
      by_cases hok : oth = key
      · subst hok
        go_wp2_with fail
        refine (strange_any _ p O7 l' [] [] HS9.out.sto HF7.out.rising (by have := HF7.out.1; omega)).mono ?_
        rintro e wa ⟨vr, rfl, hrow, hba⟩
        rw [all_in] at hrow
        obtain ⟨ar, cr, rfl⟩ := own_form hrow
        have HSA := hideIt (HS9.out.next hba)
        clear hrow hba HS9 HY9 HZ9 HX9 HM9
        go_wp2
        go_ret
        exact ⟨rfl, HSA.out.env.1⟩
      · obtain ⟨rfl, rfl⟩ := GetIs.one HF7.out.rising (hkeep hok) HGN.out
        have q2 := eq_ent xn xn
        rw [decide_eq_true (rfl : xn = xn)] at q2
        go_wp2_with fail
        refine (strange_any _ p O7 l' [] [] HS9.out.sto HF7.out.rising (by have := HF7.out.1; omega)).mono ?_
        rintro e wa ⟨vr, rfl, hrow, hba⟩
        rw [all_in] at hrow
        obtain ⟨ar, cr, rfl⟩ := own_form hrow
        have HSA := hideIt (HS9.out.next hba)
        clear hrow hba HS9 HY9 HZ9 HX9 HM9
        go_wp2
        go_ret
        exact ⟨rfl, HSA.out.env.1⟩
end Go.Proofs.YtddmjbmfkdhhgaaDoor
