/-
  What is proved here: cert's Get, over this program.
-/
import Derived.Test.YtpgahjnjkihmhaaGreatDoorCL
import Derived.Deep.RegionWith
namespace Go.Proofs.YtpgahjnjkihmhaaGreatDoor
open Go.RowKit Go.Extern.Stop Go.Stop Go.Extern

/-- what is wrong with a number that is read as a signer -/
def outE (n : Int) : Int := if n < 0 then 23 else if 2147483647 < n then 2 else 0

theorem outside_any (n : Int) (w : World) : Calls Tryz.prog 23 #[.int .i64 n] w fun e w' => e = .returned (.int .i64 (outE n)) ∧ w' = w := by
  by_cases h1 : n < 0
  · have e : outE n = 23 := by unfold outE; rw [if_pos h1]
    rw [e]
    go_enter Tryz.func23, Tryz.ntmps23
    go_wp2
    go_ret
    exact ⟨rfl, rfl⟩
  by_cases h2 : 2147483647 < n
  · have e : outE n = 2 := by unfold outE; rw [if_neg h1, if_pos h2]
    rw [e]
    go_enter Tryz.func23, Tryz.ntmps23
    go_wp2
    go_ret
    exact ⟨rfl, rfl⟩
  · have e : outE n = 0 := by unfold outE; rw [if_neg h1, if_neg h2]
    rw [e]
    go_enter Tryz.func23, Tryz.ntmps23
    go_wp2
    go_ret
    exact ⟨rfl, rfl⟩
theorem cGe1_any (k n : Int) (w : World) : Calls Tryz.prog 22 #[.int .i64 k, .int .i64 n] w fun e w' => e = .returned (.int .i64 (outE n)) ∧ w' = w := by
  obtain ⟨m, hm⟩ : ∃ m, outE n = m := ⟨_, rfl⟩
  rw [hm]
  go_enter Tryz.func22, Tryz.ntmps22
  go_wp2_with fail
  refine (outside_any n w).mono ?_
  rw [hm]
  rintro e w1 ⟨rfl, rfl⟩
  clear hm
  go_wp2
  go_ret
  exact ⟨rfl, rfl⟩

set_option maxRecDepth 100000 in
set_option maxHeartbeats 8000000 in
theorem cfwN_any (w : World) (A : Nat → Prop) (v : Value) (l : List Int) (hv : NumsIn w A v l) (hl : l.length ≤ maxLen) :
    Calls Tryz.prog 21 #[v, .func (.func 22) #[] #[]] w fun e w' => ∃ er, e = .returned er ∧ Below w.heap.size w w' ∧ (((∀ x ∈ l, outE x = 0) ∧ er = .nilIface) ∨ ((¬ ∀ x ∈ l, outE x = 0) ∧ ∃ t y, er = .iface t y)) := by
  have HV := hideIt hv
  unfold maxLen at hl
  obtain ⟨a, cap, rfl⟩ := hv.form
  clear hv
  go_enter Tryz.func21, Tryz.ntmps21
  go_wp2
  go_loopw [10] (fun i wr => ∃ k : Nat, k ≤ l.length ∧ i = .int .i64 k ∧ Hid (∀ x ∈ l.take k, outE x = 0) ∧ Hid (Below w.heap.size w wr)) (fun i _ => l.length - (intOf i).toNat)
  case atStart => exact ⟨0, Nat.zero_le _, rfl, by simp [Hid], Below.refl _ _⟩
  case round =>
    obtain ⟨k, hk, rfl, HN, HB⟩ := hrel
    by_cases hlt : k < l.length
    · obtain ⟨x, hx⟩ : ∃ x, l[k]? = some x := ⟨l[k], by simp [hlt]⟩
      have HR : Hid (NumsIn wr A (.slice a l.length cap) l) := RowIn.kept HV.out (Kept.of_all HB.out)
      obtain ⟨b, off, rfl, _, cx⟩ := NumsIn.at HR.out hx
      have HX := hideIt hx
      obtain ⟨m, hm⟩ : ∃ m, outE x = m := ⟨_, rfl⟩
      have HC := hideIt (cGe1_any k x wr)
      rw [hm] at HC
      have HM := hideIt hm
      clear hx hm HR
      go_wp2_with fail
      refine HC.out.mono ?_
      rintro e w1 ⟨rfl, rfl⟩
      by_cases hm0 : m = 0
      · subst hm0
        have HN2 : Hid (∀ y ∈ l.take (k + 1), outE y = 0) := hideIt (by
          intro y hy
          rw [List.take_succ_eq_append_getElem hlt, (List.getElem?_eq_some_iff.1 HX.out).2] at hy
          rcases List.mem_append.1 hy with h | h
          · exact HN.out y h
          · simp at h; subst h; exact HM.out)
        clear HN
        go_wp2
        go_roundw
        case rel => exact ⟨k + 1, by omega, by go_num, HN2.out, HB.out⟩
        case measure => simp [intOf]; omega
      · have HNO : Hid (¬ ∀ y ∈ l, outE y = 0) := hideIt (fun h => hm0 (by rw [← HM.out]; exact h x (List.mem_of_getElem? HX.out)))
        have hm1 : (m == 0) = false := by simpa using hm0
        have HM1 := hideIt hm1
        clear hm0
        go_wp2_with fail
        refine (Of_err m HM1.out _).mono ?_
        rintro e w2 ⟨rfl, rfl⟩
        go_wp2_with fail
        refine (Wrap_some 61 (.int .i64 m) _ _ _).mono ?_
        rintro e w3 ⟨rfl, rfl⟩
        go_wp2
        go_ret
        exact ⟨_, rfl, HB.out.trans (((Below.refl _ _).alloc (Nat.le_refl _) _).mono HB.out.size), Or.inr ⟨HNO.out, _, _, rfl⟩⟩
    · have ek : k = l.length := by omega
      have HN2 : Hid (∀ y ∈ l, outE y = 0) := hideIt (by have := HN.out; rw [ek, List.take_length] at this; exact this)
      clear HN
      go_wp2
      go_ret
      exact ⟨_, rfl, HB.out, Or.inl ⟨HN2.out, rfl⟩⟩

/-- what Get reads -/
def gR1 (bs : List UInt8) : Int × RS := stepR (0 : Int) sInt (rdInt 2147483647) bs (.ok 0)
def gR2 (bs : List UInt8) : Int × RS := stepR (0 : Int) sInt (rdInt 2147483647) bs (gR1 bs).2
def gR3 (bs : List UInt8) : List Int × RS := stepR ([] : List Int) sNums (rdRow rdNum) bs (gR2 bs).2
def gOk (bs : List UInt8) : Prop := endOf bs (gR3 bs).2 = none ∧ ∀ x ∈ (gR3 bs).1, outE x = 0

/-- what Get answers -/
def GetPost (w : World) (bs : List UInt8) (e : Ending) (w' : World) : Prop :=
  ∃ x er, e = .returned (.tuple #[x, er]) ∧ Below w.heap.size w w' ∧ ((gOk bs ∧ er = .nilIface ∧ ∃ a cap, x = .agg #[.int .i64 (gR1 bs).1, .int .i64 (gR2 bs).1, .slice a (gR3 bs).1.length cap] ∧ NumsIn w' (w.heap.size ≤ ·) (.slice a (gR3 bs).1.length cap) (gR3 bs).1) ∨ (¬ gOk bs ∧ x = .agg #[.int .i64 0, .int .i64 0, .slice none 0 0] ∧ ∃ t y, er = .iface t y))

theorem rdMany_len {α : Type} {one : List UInt8 → Except Int (α × Nat)} {n : Nat} {r : List UInt8} {l : List α} {c : Nat} (h : rdMany one n r = .ok (l, c)) : l.length = n := by
  induction n generalizing r l c with
  | zero => simp [rdMany] at h; obtain ⟨rfl, _⟩ := h; rfl
  | succ n ih =>
    simp only [rdMany] at h
    split at h
    · cases h
    · split at h
      · cases h
      · rename_i h2
        injection h with h
        injection h with h3 _
        rw [← h3, List.length_cons, ih h2]
theorem rdRow_len {α : Type} {one : List UInt8 → Except Int (α × Nat)} {r : List UInt8} {l : List α} {c : Nat} (h : rdRow one r = .ok (l, c)) : l.length ≤ 1024 := by
  unfold rdRow at h
  split at h
  · cases h
  · rename_i h1
    split at h
    · cases h
    · rename_i h2
      injection h with h
      injection h with h3 _
      rw [← h3, rdMany_len h2]
      exact (rdLen_ok h1).1.1
theorem gR3_len (bs : List UInt8) : (gR3 bs).1.length ≤ 1024 := by
  unfold gR3 stepR
  split
  · simp
  · split
    · simp
    · rename_i h; exact rdRow_len h

set_option maxRecDepth 100000 in
set_option maxHeartbeats 8000000 in
theorem cGet_any (w : World) (A : Nat → Prop) (v : Value) (bs : List UInt8) (hv : BytesIn w A v bs) (hl : bs.length ≤ 1000000000) :
    Calls Tryz.prog 6 #[v] w (GetPost w bs) := by
  have HV := hideIt hv
  have HL : Hid (bs.length ≤ 1000000000000) := hideIt (by omega)
  obtain ⟨a, cap, rfl, _⟩ := hv.form
  obtain ⟨W, hW, hwb, hws, c0, c1, c2, f0, f1, f2⟩ := room_new w 24 (.int .i64 0) (.int .i64 0) (.slice none 0 0)
  clear hv
  go_enter Tryz.func6, Tryz.ntmps6
  go_wp2_with fail
  rw [← hW]
  have HWB := hideIt hwb
  refine (new_any A _ bs W (RowIn.kept HV.out (Kept.of_all hwb)) (by have := HL.out; omega)).mono ?_
  rintro e w1 ⟨p, rfl, hp, hp1, hr1, hb1⟩
  have HR1 := hideIt hr1
  have HB1 := hideIt (hwb.trans (hb1.mono hwb.size))
  have d0 := (hb1.cell (lt_of_cell c0)).trans c0
  have d1 := (hb1.cell (lt_of_cell c1)).trans c1
  have d2 := (hb1.cell (lt_of_cell c2)).trans c2
  have g0 := (hb1.frozen (p := ⟨w.heap.size, 0, none⟩) (lt_of_cell c0)).trans f0
  have g1 := (hb1.frozen (p := ⟨w.heap.size, 1, none⟩) (lt_of_cell c1)).trans f1
  have g2 := (hb1.frozen (p := ⟨w.heap.size, 2, none⟩) (lt_of_cell c2)).trans f2
  have hpw : w.heap.size < p := by omega
  clear hW hwb hws hr1 hb1 hp c0 c1 c2 f0 f1 f2 HV
  have HP : Hid (¬ (fun k => k ≠ p) p) := hideIt (fun h => h rfl)
  go_wp2_with fail
  refine (rInt_any p _ 2147483647 bs (.ok 0) w1 HR1.out HP.out (fun k hk => by omega) HL.out).mono ?_
  rintro e w2 ⟨v2, rfl, hv2, hst2, hg2⟩
  obtain ⟨y1, hy1⟩ : ∃ y1, (gR1 bs).1 = y1 := ⟨_, rfl⟩
  have hv2' : v2 = .int .i64 y1 := by rw [← hy1]; exact hv2
  subst hv2'
  have HY1 := hideIt hy1
  have HS2 : Hid (RSt w2 p (fun k => k ≠ p) bs (gR1 bs).2) := hst2
  have HB2 := hideIt (HB1.out.grown hg2 (by omega) (fun k hk => by injection hk with hk; omega))
  have hs2 : p + 1 ≤ w2.heap.size := by have := hg2.size; omega
  replace g0 := (World.frozen?_of_block (a := ⟨w.heap.size, 0, none⟩) (hg2.block w.heap.size (lt_of_cell d0) (fun e => Nat.ne_of_lt hpw (by injection e)))).trans g0
  replace g1 := (World.frozen?_of_block (a := ⟨w.heap.size, 1, none⟩) (hg2.block w.heap.size (lt_of_cell d0) (fun e => Nat.ne_of_lt hpw (by injection e)))).trans g1
  replace g2 := (World.frozen?_of_block (a := ⟨w.heap.size, 2, none⟩) (hg2.block w.heap.size (lt_of_cell d0) (fun e => Nat.ne_of_lt hpw (by injection e)))).trans g2
  replace d0 := grown_cell hg2 d0 (Nat.ne_of_lt hpw)
  replace d1 := grown_cell hg2 d1 (Nat.ne_of_lt hpw)
  replace d2 := grown_cell hg2 d2 (Nat.ne_of_lt hpw)
  clear hv2 hst2 hg2 hy1 HR1 HB1 hp1
  go_wp2_with fail
  refine (rInt_any p _ 2147483647 bs (gR1 bs).2 w2 HS2.out HP.out (fun k hk => by omega) HL.out).mono ?_
  rintro e w3 ⟨v3, rfl, hv3, hst3, hg3⟩
  obtain ⟨y2, hy2⟩ : ∃ y2, (gR2 bs).1 = y2 := ⟨_, rfl⟩
  have hv3' : v3 = .int .i64 y2 := by rw [← hy2]; exact hv3
  subst hv3'
  have HY2 := hideIt hy2
  have HS3 : Hid (RSt w3 p (fun k => k ≠ p) bs (gR2 bs).2) := hst3
  have HB3 := hideIt (HB2.out.grown hg3 (by omega) (fun k hk => by injection hk with hk; omega))
  have hs3 : p + 1 ≤ w3.heap.size := by have := hg3.size; omega
  replace g0 := (World.frozen?_of_block (a := ⟨w.heap.size, 0, none⟩) (hg3.block w.heap.size (lt_of_cell d0) (fun e => Nat.ne_of_lt hpw (by injection e)))).trans g0
  replace g1 := (World.frozen?_of_block (a := ⟨w.heap.size, 1, none⟩) (hg3.block w.heap.size (lt_of_cell d0) (fun e => Nat.ne_of_lt hpw (by injection e)))).trans g1
  replace g2 := (World.frozen?_of_block (a := ⟨w.heap.size, 2, none⟩) (hg3.block w.heap.size (lt_of_cell d0) (fun e => Nat.ne_of_lt hpw (by injection e)))).trans g2
  replace d0 := grown_cell hg3 d0 (Nat.ne_of_lt hpw)
  replace d1 := grown_cell hg3 d1 (Nat.ne_of_lt hpw)
  replace d2 := grown_cell hg3 d2 (Nat.ne_of_lt hpw)
  clear hv3 hst3 hg3 hy2 HS2 HB2 hs2
  go_wp2_with fail
  refine (rNums_any p _ bs (gR2 bs).2 w3 HS3.out HP.out (fun k hk => by omega) HL.out).mono ?_
  rintro e w4 ⟨v4, rfl, hv4, hst4, hg4⟩
  obtain ⟨l3, hl3⟩ : ∃ l3, (gR3 bs).1 = l3 := ⟨_, rfl⟩
  have hl3n : l3.length ≤ 1024 := by rw [← hl3]; exact gR3_len bs
  have HV4 : Hid (NumsIn w4 (fun k => k ≠ p) v4 l3) := by rw [← hl3]; exact hv4
  have HL3 := hideIt hl3
  have HL3N := hideIt hl3n
  have HS4 : Hid (RSt w4 p (fun k => k ≠ p) bs (gR3 bs).2) := hst4
  have HB4 := hideIt (HB3.out.grown hg4 (by omega) (fun k hk => by injection hk with hk; omega))
  have hs4 : p + 1 ≤ w4.heap.size := by have := hg4.size; omega
  obtain ⟨a4, cap4, rfl⟩ := HV4.out.form
  replace g0 := (World.frozen?_of_block (a := ⟨w.heap.size, 0, none⟩) (hg4.block w.heap.size (lt_of_cell d0) (fun e => Nat.ne_of_lt hpw (by injection e)))).trans g0
  replace g1 := (World.frozen?_of_block (a := ⟨w.heap.size, 1, none⟩) (hg4.block w.heap.size (lt_of_cell d0) (fun e => Nat.ne_of_lt hpw (by injection e)))).trans g1
  replace g2 := (World.frozen?_of_block (a := ⟨w.heap.size, 2, none⟩) (hg4.block w.heap.size (lt_of_cell d0) (fun e => Nat.ne_of_lt hpw (by injection e)))).trans g2
  replace d0 := grown_cell hg4 d0 (Nat.ne_of_lt hpw)
  replace d1 := grown_cell hg4 d1 (Nat.ne_of_lt hpw)
  replace d2 := grown_cell hg4 d2 (Nat.ne_of_lt hpw)
  clear hv4 hst4 hg4 hl3 HS3 HB3 hs3
  go_wp2_with fail
  refine (rEnd_any p _ bs (gR3 bs).2 w4 HS4.out (fun k hk => by omega) HL.out).mono ?_
  rintro e w5 ⟨v5, rfl, hv5, hb5⟩
  have HV5 : Hid (NumsIn w5 (fun k => k ≠ p) (.slice a4 l3.length cap4) l3) := RowIn.kept HV4.out (Kept.of_all hb5)
  have HB5 := hideIt (HB4.out.trans (hb5.mono HB4.out.size))
  have hform : (endOf bs (gR3 bs).2 = none ∧ v5 = .nilIface) ∨ (endOf bs (gR3 bs).2 ≠ none ∧ ∃ t y, v5 = .iface t y) := by
    cases hE : endOf bs (gR3 bs).2 with
    | none => rw [hE] at hv5; exact Or.inl ⟨rfl, hv5⟩
    | some x => rw [hE] at hv5; obtain ⟨n, s, j⟩ := x; exact Or.inr ⟨(fun e => nomatch e), One.iface hv5⟩
  replace g0 := (hb5.frozen (p := ⟨w.heap.size, 0, none⟩) (lt_of_cell d0)).trans g0
  replace g1 := (hb5.frozen (p := ⟨w.heap.size, 1, none⟩) (lt_of_cell d1)).trans g1
  replace g2 := (hb5.frozen (p := ⟨w.heap.size, 2, none⟩) (lt_of_cell d2)).trans g2
  replace d0 := (hb5.cell (lt_of_cell d0)).trans d0
  replace d1 := (hb5.cell (lt_of_cell d1)).trans d1
  replace d2 := (hb5.cell (lt_of_cell d2)).trans d2
  clear hv5 hb5 HV4 HB4 HS4 hs4
  rcases hform with ⟨hE, rfl⟩ | ⟨hE, t5, y5, rfl⟩
  · have HE := hideIt hE
    clear hE
    go_wp2_with fail
    refine (cfwN_any w5 _ _ l3 HV5.out (by have := HL3N.out; unfold maxLen; omega)).mono ?_
    rintro e w6 ⟨er6, rfl, hb6, hcs6⟩
    have HV6 : Hid (NumsIn w6 (fun k => k ≠ p) (.slice a4 l3.length cap4) l3) := RowIn.kept HV5.out (Kept.of_all hb6)
    have HB6 := hideIt (HB5.out.trans (hb6.mono HB5.out.size))
    replace g0 := (hb6.frozen (p := ⟨w.heap.size, 0, none⟩) (lt_of_cell d0)).trans g0
    replace g1 := (hb6.frozen (p := ⟨w.heap.size, 1, none⟩) (lt_of_cell d1)).trans g1
    replace g2 := (hb6.frozen (p := ⟨w.heap.size, 2, none⟩) (lt_of_cell d2)).trans g2
    replace d0 := (hb6.cell (lt_of_cell d0)).trans d0
    replace d1 := (hb6.cell (lt_of_cell d1)).trans d1
    replace d2 := (hb6.cell (lt_of_cell d2)).trans d2
    clear hb6 HV5 HB5
    rcases hcs6 with ⟨hall, rfl⟩ | ⟨hnot, t6, y6, rfl⟩
    · have HOK : Hid (gOk bs) := hideIt ⟨HE.out, by rw [HL3.out]; exact hall⟩
      clear hall
      go_wp2_with fail
      refine (cnumI_any _ _ l3 w6 HV6.out (by have := HL3N.out; omega)).mono ?_
      rintro e w7 ⟨v7, rfl, hr7, hb7⟩
      have HBX := hideIt (HB6.out.trans (hb7.mono HB6.out.size))
      have HR7 := hideIt hr7
      have hs7 : w.heap.size < w6.heap.size := lt_of_cell d0
      obtain ⟨a7, cap7, rfl⟩ := own_form hr7
      replace g0 := (hb7.frozen (p := ⟨w.heap.size, 0, none⟩) (lt_of_cell d0)).trans g0
      replace g1 := (hb7.frozen (p := ⟨w.heap.size, 1, none⟩) (lt_of_cell d1)).trans g1
      replace g2 := (hb7.frozen (p := ⟨w.heap.size, 2, none⟩) (lt_of_cell d2)).trans g2
      replace d0 := (hb7.cell (lt_of_cell d0)).trans d0
      replace d1 := (hb7.cell (lt_of_cell d1)).trans d1
      replace d2 := (hb7.cell (lt_of_cell d2)).trans d2
      clear hr7 hb7 HV6 HB6
      go_wp2
      obtain ⟨W3, hW3, x0, x1', x2', hk3, hb3⟩ := room_set w7 w.heap.size _ _ _ (.int .i64 y1) (.int .i64 y2) (.slice a7 l3.length cap7) d0 d1 d2
      rw [← hW3]
      have HB9 := hideIt (hb3 _ _ HBX.out (Nat.le_refl _))
      have HK3 := hideIt hk3
      clear hW3 hk3 hb3 d0 d1 d2 g0 g1 g2
      refine bodyPost_ret (v := .tuple #[.agg #[.int .i64 y1, .int .i64 y2, .slice a7 l3.length cap7], .nilIface]) (by simp [results, Tryz.results6, go_sem, x0, x1', x2']) rfl ?_
      refine ⟨_, _, rfl, HB9.out, Or.inl ⟨HOK.out, rfl, a7, cap7, by rw [HY1.out, HY2.out, HL3.out], ?_⟩⟩
      rw [HL3.out]
      exact RowIn.mono (A := fun k => w6.heap.size ≤ k) (RowIn.kept (RowIn.of_own (A := fun k => w6.heap.size ≤ k) HR7.out (fun _ h => h)) (HK3.out _ (by omega))) (fun k hk _ => by omega)
    · have HNOT : Hid (¬ gOk bs) := hideIt (fun h => hnot (by rw [← HL3.out]; exact h.2))
      clear hnot
      go_wp2_with fail
      refine (through_some t6 y6 w6).mono ?_
      rintro e w8 ⟨t8, y8, rfl, hb8⟩
      have HBX := hideIt (HB6.out.trans (hb8.mono HB6.out.size))
      replace g0 := (hb8.frozen (p := ⟨w.heap.size, 0, none⟩) (lt_of_cell d0)).trans g0
      replace g1 := (hb8.frozen (p := ⟨w.heap.size, 1, none⟩) (lt_of_cell d1)).trans g1
      replace g2 := (hb8.frozen (p := ⟨w.heap.size, 2, none⟩) (lt_of_cell d2)).trans g2
      replace d0 := (hb8.cell (lt_of_cell d0)).trans d0
      replace d1 := (hb8.cell (lt_of_cell d1)).trans d1
      replace d2 := (hb8.cell (lt_of_cell d2)).trans d2
      clear hb8 HV6 HB6
      go_wp2
      obtain ⟨W3, hW3, x0, x1', x2', hk3, hb3⟩ := room_set w8 w.heap.size _ _ _ (.int .i64 0) (.int .i64 0) (.slice none 0 0) d0 d1 d2
      rw [← hW3]
      have HB9 := hideIt (hb3 _ _ HBX.out (Nat.le_refl _))
      clear hW3 hk3 hb3 d0 d1 d2 g0 g1 g2
      refine bodyPost_ret (v := .tuple #[.agg #[.int .i64 0, .int .i64 0, .slice none 0 0], .iface t8 y8]) (by simp [results, Tryz.results6, go_sem, x0, x1', x2']) rfl ?_
      exact ⟨_, _, rfl, HB9.out, Or.inr ⟨HNOT.out, rfl, _, _, rfl⟩⟩
  · have HNOT : Hid (¬ gOk bs) := hideIt (fun h => hE h.1)
    clear hE
    go_wp2_with fail
    refine (through_some t5 y5 w5).mono ?_
    rintro e w8 ⟨t8, y8, rfl, hb8⟩
    have HBX := hideIt (HB5.out.trans (hb8.mono HB5.out.size))
    replace g0 := (hb8.frozen (p := ⟨w.heap.size, 0, none⟩) (lt_of_cell d0)).trans g0
    replace g1 := (hb8.frozen (p := ⟨w.heap.size, 1, none⟩) (lt_of_cell d1)).trans g1
    replace g2 := (hb8.frozen (p := ⟨w.heap.size, 2, none⟩) (lt_of_cell d2)).trans g2
    replace d0 := (hb8.cell (lt_of_cell d0)).trans d0
    replace d1 := (hb8.cell (lt_of_cell d1)).trans d1
    replace d2 := (hb8.cell (lt_of_cell d2)).trans d2
    clear hb8 HV5 HB5
    go_wp2
    obtain ⟨W3, hW3, x0, x1', x2', hk3, hb3⟩ := room_set w8 w.heap.size _ _ _ (.int .i64 0) (.int .i64 0) (.slice none 0 0) d0 d1 d2
    rw [← hW3]
    have HB9 := hideIt (hb3 _ _ HBX.out (Nat.le_refl _))
    clear hW3 hk3 hb3 d0 d1 d2 g0 g1 g2
    refine bodyPost_ret (v := .tuple #[.agg #[.int .i64 0, .int .i64 0, .slice none 0 0], .iface t8 y8]) (by simp [results, Tryz.results6, go_sem, x0, x1', x2']) rfl ?_
    exact ⟨_, _, rfl, HB9.out, Or.inr ⟨HNOT.out, rfl, _, _, rfl⟩⟩
end Go.Proofs.YtpgahjnjkihmhaaGreatDoor
