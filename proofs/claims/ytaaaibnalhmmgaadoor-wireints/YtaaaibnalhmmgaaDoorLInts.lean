/-
  What is proved here: the statement's function cohortlaw02.WireInts returns true, over this program. Conditions: the library's variables lie as they are laid.
-/
import Derived.Test.YtaaaibnalhmmgaaDoorWN
import Derived.Test.YtaaaibnalhmmgaaDoorWP
namespace Go.Proofs.YtaaaibnalhmmgaaDoor
open Go.RowKit Go.Extern.Stop Go.Stop Go.Extern

theorem rdInt_numB (n most : Int) (h : fits n) : rdInt most (numB n) = if n < 0 then .error 23 else if most < n then .error 2 else .ok (n, 8) := by
  have := rdNum_numB n h []
  rw [List.append_nil] at this
  unfold rdInt; rw [this]

set_option maxRecDepth 100000 in
set_option maxHeartbeats 8000000 in
theorem law_ints (n most : Int) (hn : fits n) (hm : -2147483648 ≤ most ∧ most ≤ 2147483647) (w : World) (hg : ET w) (ht : PT w) :
    Calls Tryd.prog 8 #[.int .i64 n, .int .i32 most] w fun e w' => e = .returned (.bool true) ∧ Below w.heap.size w w' := by
  have HH := hideIt (head_true w hg ht)
  have HE := hideIt (And.intro hg ht)
  have HRD := hideIt (rdInt_numB n most hn)
  obtain ⟨hm1, hm2⟩ := hm
  clear hg ht hn
  have key : ∀ (st : RS) (x : Int), stepR (0 : Int) sInt (rdInt most) (numB n) (.ok 0) = (x, st) → ((n < 0 ∧ x = 0 ∧ st = .error (23, sInt, 0)) ∨ (¬ n < 0 ∧ most < n ∧ x = 0 ∧ st = .error (2, sInt, 0)) ∨ (¬ n < 0 ∧ ¬ most < n ∧ x = n ∧ st = .ok 8)) := by
    intro st x h
    simp only [stepR, List.drop_zero, HRD.out] at h
    by_cases h1 : n < 0
    · rw [if_pos h1] at h; cases h; exact Or.inl ⟨h1, rfl, rfl⟩
    · rw [if_neg h1] at h
      by_cases h2 : most < n
      · rw [if_pos h2] at h; cases h; exact Or.inr (Or.inl ⟨h1, h2, rfl, rfl⟩)
      · rw [if_neg h2] at h; cases h; exact Or.inr (Or.inr ⟨h1, h2, rfl, rfl⟩)
  have HK := hideIt key
  clear key
  go_enter Tryd.func8, Tryd.ntmps8
  go_wp2_with fail
  refine HH.out.mono ?_
  rintro e w0 ⟨rfl, b0⟩
  have HB0 := hideIt b0
  have HV0 : Hid (Env w0 w0) := ⟨Below.refl _ _, HE.out.1.kept b0 HE.out.1.lt, HE.out.2.kept b0 HE.out.2.lt⟩
  clear b0 HH HE
  go_wp2_with fail
  refine (wNum_any w0.heap.size _ ([], false) n _ (fresh_writer w0) (fun k hk => by simp at hk; omega) (by simp) (by simp)).mono ?_
  rintro e w1 ⟨rfl, h1, h2⟩
  have HV1 := hideIt ((HV0.out.next ((Below.refl _ _).alloc (Nat.le_refl _) _)).grown h2 (Nat.le_refl _))
  have HW1 : Hid (WOk w1 w0.heap.size (fun k => k ≠ w0.heap.size) (numB n)) := h1
  clear h1 h2 HV0
  go_wp2_with fail
  refine (wBytes_ok _ _ _ w1 HW1.out (by rw [numB_length]; decide)).mono ?_
  rintro e w2 ⟨v, rfl, ho, hb⟩
  have HV2 := hideIt (HV1.out.next hb)
  have HY2 : Hid (BytesIn w2 (fun _ => True) v (numB n)) := RowIn.of_own (A := fun _ => True) ho (fun _ _ => trivial)
  obtain ⟨a2, cap2, rfl⟩ := own_form ho
  clear ho hb HW1 HV1
  go_wp2_with fail
  refine (new_any (fun _ => True) _ (numB n) w2 HY2.out (by rw [numB_length]; decide)).mono ?_
  rintro e w3 ⟨p, rfl, hp1, hp2, hr, hb⟩
  have hs3 : w0.heap.size ≤ p := by have := HV2.out.1.size; omega
  have HV3 := hideIt (HV2.out.next hb)
  have HR3 := hideIt hr
  clear hr hb HV2 HY2
  go_wp2_with fail
  refine (rInt_any p (fun k => k ≠ p) most (numB n) (.ok 0) w3 HR3.out (by simp) (fun k hk => by omega) (by rw [numB_length]; decide)).mono ?_
  rintro e w4 ⟨v4, rfl, hx, hr4, hg4⟩
  have HV4 := hideIt (HV3.out.grown hg4 hs3)
  have hs4 := hg4.size
  obtain ⟨x, st, hxs⟩ : ∃ x st, stepR (0 : Int) sInt (rdInt most) (numB n) (.ok 0) = (x, st) := ⟨_, _, rfl⟩
  rw [hxs] at hx hr4
  have hx2 : v4 = .int .i64 x := hx
  subst hx2
  have HR4 : Hid (RSt w4 p (fun k => k ≠ p) (numB n) st) := hr4
  have HKK := hideIt (HK.out st x hxs)
  clear hx hr4 hg4 hxs HK HV3 HR3
  go_wp2_with fail
  refine (rEnd_any p (fun k => k ≠ p) (numB n) st w4 HR4.out (fun k hk => by omega) (by rw [numB_length]; decide)).mono ?_
  rintro e w5 ⟨v5, rfl, he5, hb5⟩
  have HV5 := hideIt (HV4.out.next hb5)
  rcases HKK.out with ⟨hn0, rfl, rfl⟩ | ⟨hn0, hnm, rfl, rfl⟩ | ⟨hn0, hnm, rfl, rfl⟩
  · have HO5 : Hid (One w5 (fun k => k ≠ p) v5 23 sInt 0) := he5
    have HA5 := hideIt (HV5.out.at HO5.out)
    obtain ⟨ty, y, rfl⟩ := HO5.out.iface
    clear he5 hb5 HKK
    go_wp2_with fail
    refine HA5.out.code.mono ?_
    rintro e w6 ⟨rfl, H6, HB6⟩
    go_wp2
    go_ret
    exact ⟨rfl, HB0.out.trans ((HV5.out.next HB6.out).1.mono HB0.out.size)⟩
  · have HO5 : Hid (One w5 (fun k => k ≠ p) v5 2 sInt 0) := he5
    have HA5 := hideIt (HV5.out.at HO5.out)
    obtain ⟨ty, y, rfl⟩ := HO5.out.iface
    clear he5 hb5 HKK
    go_wp2_with fail
    refine HA5.out.code.mono ?_
    rintro e w6 ⟨rfl, H6, HB6⟩
    go_wp2
    go_ret
    exact ⟨rfl, HB0.out.trans ((HV5.out.next HB6.out).1.mono HB0.out.size)⟩
  · have hv5 : v5 = .nilIface := by
      have e : endOf (numB x) (.ok 8) = none := by simp [endOf, numB_length]
      rw [e] at he5; exact he5
    subst hv5
    clear he5 hb5 HKK
    go_wp2
    go_ret
    exact ⟨by simp, HB0.out.trans (HV5.out.1.mono HB0.out.size)⟩
end Go.Proofs.YtaaaibnalhmmgaaDoor
