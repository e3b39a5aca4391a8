/-
  What is proved here: cert's Put, over this program.
-/
import Derived.Test.YtpgahjnjkihmhaaGreatDoorCK
namespace Go.Proofs.YtpgahjnjkihmhaaGreatDoor
open Go.RowKit Go.Extern.Stop Go.Stop Go.Extern

/-- a certificate's bytes -/
def certB (g d : Int) (S : List Int) : List UInt8 := numB g ++ numB d ++ rowB numB S

theorem grown_cell {w w' : World} {p : Nat} (h : w.grownBy w' (some p)) {a : Addr} {v : Value} (hc : w.cell? a = some v) (hne : a.block ≠ p) : w'.cell? a = some v :=
  (World.cell?_of_block (h.block a.block (lt_of_cell hc) (fun e => hne (by injection e)))).trans hc
theorem certB_rest (g d : Int) (S : List Int) (h : S.length ≤ 1024) : put (put (put ([], false) (some (numB g))) (some (numB d))) (numsO S) = (certB g d S, false) := by
  unfold put numsO certB
  rw [if_neg (show ¬ 1024 < S.length by omega)]
  simp
theorem certB_bad (g d : Int) (S : List Int) (h : 1024 < S.length) : put (put (put ([], false) (some (numB g))) (some (numB d))) (numsO S) = (numB g ++ numB d, true) := by
  unfold put numsO
  rw [if_pos h]
  simp
theorem nums_flat8 (l : List Int) : (l.flatMap numB).length = 8 * l.length := by
  induction l with
  | nil => rfl
  | cons x r ih => simp only [List.flatMap_cons, List.length_append, numB_length, ih, List.length_cons]; omega
theorem certB_length (g d : Int) (S : List Int) : (certB g d S).length = 20 + 8 * S.length := by
  unfold certB rowB
  rw [List.length_append, List.length_append, List.length_append, numB_length, numB_length, be_length, nums_flat8]; omega
theorem new_writer (w : World) : WSt (w.alloc (.cells #[.pointer none, .int .i64 0, .nilIface] 48)) w.heap.size (fun k => k ≠ w.heap.size) ([], false) :=
  ⟨fun j => World.frozen?_alloc_at _ _ _ _ rfl, none, [], by rw [World.cell?_alloc_at _ _ _ _ rfl]; rfl, by rw [World.cell?_alloc_at _ _ _ _ rfl]; rfl, by rw [World.cell?_alloc_at _ _ _ _ rfl]; rfl, rfl, rfl⟩

set_option maxRecDepth 100000 in
set_option maxHeartbeats 8000000 in
theorem cPut_any (w : World) (A : Nat → Prop) (g d : Int) (v : Value) (S : List Int) (hv : NumsIn w A v S) (hl : S.length ≤ 1000000000) :
    Calls Tryz.prog 5 #[.agg #[.int .i64 g, .int .i64 d, v]] w fun e w' => ∃ x er, e = .returned (.tuple #[x, er]) ∧ Below w.heap.size w w' ∧ ((S.length ≤ 1024 ∧ er = .nilIface ∧ BytesIn w' (w.heap.size ≤ ·) x (certB g d S)) ∨ (1024 < S.length ∧ ∃ t y, er = .iface t y)) := by
  have HV := hideIt hv
  have HL := hideIt hl
  obtain ⟨a, cap, rfl⟩ := hv.form
  obtain ⟨W, hW, hwb, hws, c0, c1, c2, _, _, _⟩ := room_new w 24 (.int .i64 g) (.int .i64 d) (.slice a S.length cap)
  clear hv
  go_enter Tryz.func5, Tryz.ntmps5
  go_wp2_with fail
  obtain ⟨W2, hW2, hwb2, hws2⟩ : ∃ W2, W2 = W.alloc (.cells #[.pointer none, .int .i64 0, .nilIface] 48) ∧ Below W.heap.size W W2 ∧ W2.heap.size = w.heap.size + 2 := ⟨_, rfl, (Below.refl _ _).alloc (Nat.le_refl _) _, by simp [hws]⟩
  have HW2 : Hid (WSt W2 (w.heap.size + 1) (fun k => k ≠ w.heap.size + 1) ([], false)) := by
    have := new_writer W
    rw [← hW2, hws] at this
    exact this
  rw [← hW, ← hW2]
  have hb2 := hwb.trans (hwb2.mono hwb.size)
  have HB2 := hideIt hb2
  have d0 := (hwb2.cell (lt_of_cell c0)).trans c0
  have d1 := (hwb2.cell (lt_of_cell c1)).trans c1
  have d2 := (hwb2.cell (lt_of_cell c2)).trans c2
  have HV2 : Hid (NumsIn W2 (· < w.heap.size) (.slice a S.length cap) S) := RowIn.mono (A' := (· < w.heap.size)) (RowIn.kept (RowIn.mono (A' := (· < w.heap.size)) HV.out (fun _ _ h => h)) (Kept.of_all hb2)) (fun _ h _ => h)
  clear hW hW2 hwb hwb2 hws hb2 c0 c1 c2 HV
  refine (wNum_any _ _ ([], false) g W2 HW2.out (fun k hk => by omega) (fun h => h rfl) (by simp)).mono ?_
  rintro e w3 ⟨rfl, hw3, hg3⟩
  have HW3 := hideIt hw3
  have hs3 := hg3.size
  have hne : w.heap.size ≠ w.heap.size + 1 := by omega
  have HB3 := hideIt (HB2.out.grown hg3 (by omega) (fun k hk => by injection hk with hk; omega))
  have e0 := grown_cell hg3 d0 hne
  have e1 := grown_cell hg3 d1 hne
  have e2 := grown_cell hg3 d2 hne
  have HV3 : Hid (NumsIn w3 (· < w.heap.size) (.slice a S.length cap) S) := RowIn.kept HV2.out (Kept.of_grown hg3 (by omega))
  have hs3' : w.heap.size + 2 ≤ w3.heap.size := by omega
  clear hw3 hg3 hs3 d0 d1 d2 HW2 HV2 HB2 hws2
  go_wp2_with fail
  refine (wNum_any _ _ _ d w3 HW3.out (fun k hk => by omega) (fun h => h rfl) (by simp [put, numB_length])).mono ?_
  rintro e w4 ⟨rfl, hw4, hg4⟩
  have HW4 := hideIt hw4
  have hs4' : w.heap.size + 2 ≤ w4.heap.size := Nat.le_trans hs3' hg4.size
  have HB4 := hideIt (HB3.out.grown hg4 (by omega) (fun k hk => by injection hk with hk; omega))
  have d2 := grown_cell hg4 e2 hne
  have HV4 : Hid (NumsIn w4 (· < w.heap.size) (.slice a S.length cap) S) := RowIn.kept HV3.out (Kept.of_grown hg4 (by omega))
  clear hw4 hg4 hs3' e0 e1 e2 HW3 HV3 HB3
  go_wp2_with fail
  refine (cnumN_any _ _ S w4 HV4.out (by have := HL.out; omega)).mono ?_
  rintro e w5 ⟨v5, rfl, hr5, hb5⟩
  have HW5 := hideIt (kept_below HW4.out hb5)
  have HB5 := hideIt (HB4.out.trans (hb5.mono HB4.out.size))
  have hs5' : w.heap.size + 2 ≤ w5.heap.size := Nat.le_trans hs4' hb5.size
  have HN5 : Hid (NumsIn w5 (w4.heap.size ≤ ·) v5 S) := RowIn.of_own hr5 (fun _ h => h)
  obtain ⟨a5, cap5, rfl⟩ := own_form hr5
  clear hr5 hb5 d2 HW4 HV4 HB4
  go_wp2_with fail
  refine (wNums_any _ _ _ _ _ S w5 HW5.out HN5.out (by have := HL.out; unfold maxLen; omega) (fun k hk => by omega) (fun h => h rfl) (by simp [put, numB_length])).mono ?_
  rintro e w6 ⟨rfl, hw6, hg6⟩
  have HB6 := hideIt (HB5.out.grown hg6 (by omega) (fun k hk => by injection hk with hk; omega))
  have hs6' : w.heap.size + 2 ≤ w6.heap.size := Nat.le_trans hs5' hg6.size
  by_cases h1024 : S.length ≤ 1024
  · rw [certB_rest g d S h1024] at hw6
    have HW6 : Hid (WOk w6 (w.heap.size + 1) (fun k => k ≠ w.heap.size + 1) (certB g d S)) := hw6
    have HH := hideIt h1024
    clear hw6 hg6 HW5 HN5 HB5 h1024
    go_wp2_with fail
    refine (wBytes_ok _ _ _ w6 HW6.out (by rw [certB_length]; have := HL.out; omega)).mono ?_
    rintro e w7 ⟨v7, rfl, hr7, hb7⟩
    have HB7 := hideIt (HB6.out.trans (hb7.mono HB6.out.size))
    have HX7 : Hid (BytesIn w7 (w.heap.size ≤ ·) v7 (certB g d S)) := RowIn.of_own hr7 (fun k hk => by omega)
    obtain ⟨a7, cap7, rfl⟩ := own_form hr7
    clear hr7 hb7
    go_wp2_with fail
    refine (through_nil w7).mono ?_
    rintro e w8 ⟨rfl, rfl⟩
    go_wp2
    go_ret2
    exact ⟨_, _, rfl, HB7.out, Or.inl ⟨HH.out, rfl, HX7.out⟩⟩
  · rw [certB_bad g d S (by omega)] at hw6
    have HW6 : Hid (WBad w6 (w.heap.size + 1) (fun k => k ≠ w.heap.size + 1) (numB g ++ numB d)) := hw6
    have HH : Hid (1024 < S.length) := hideIt (by omega)
    clear hw6 hg6 HW5 HN5 HB5 h1024
    go_wp2_with fail
    refine (wBytes_bad _ _ _ w6 HW6.out).mono ?_
    rintro e w7 ⟨v7, rfl, ho7, hb7⟩
    have HB7 := hideIt (HB6.out.trans (hb7.mono HB6.out.size))
    obtain ⟨t7, y7, rfl⟩ := ho7.iface
    clear ho7 hb7
    go_wp2_with fail
    refine (through_some t7 y7 w7).mono ?_
    rintro e w8 ⟨t8, y8, rfl, hb8⟩
    have HB8 := hideIt (HB7.out.trans (hb8.mono HB7.out.size))
    clear hb8
    go_wp2
    go_ret2
    exact ⟨_, _, rfl, HB8.out, Or.inr ⟨HH.out, _, _, rfl⟩⟩
end Go.Proofs.YtpgahjnjkihmhaaGreatDoor
