/-
  What is proved here: the statement's function cohortlaw02.WireKept returns true, over this program. Conditions: the bytes lie in memory as a slice of them does; the library's variables lie as they are laid.
-/
import Derived.Test.YtaaaibnalhmmgaaDoorWU
namespace Go.Proofs.YtaaaibnalhmmgaaDoor
open Go.RowKit Go.Extern.Stop Go.Stop Go.Extern

def readErr (e : Int) : Prop := e = 21 ∨ e = 2
theorem rdLen_err {most : Nat} {r : List UInt8} {e : Int} (h : rdLen most r = .error e) : readErr e := by
  unfold rdLen at h
  split at h
  · cases h; exact Or.inl rfl
  · split at h
    · cases h; exact Or.inr rfl
    · cases h
theorem rdNum_err {r : List UInt8} {e : Int} (h : rdNum r = .error e) : readErr e := by
  unfold rdNum at h
  split at h
  · cases h; exact Or.inl rfl
  · cases h
theorem rdText_err {r : List UInt8} {e : Int} (h : rdText r = .error e) : readErr e := by
  unfold rdText at h
  split at h
  · rename_i hL; cases h; exact rdLen_err hL
  · split at h
    · cases h; exact Or.inl rfl
    · cases h
theorem rdMany_err {α : Type} {one : List UInt8 → Except Int (α × Nat)} (h1 : ∀ r e, one r = .error e → readErr e) (n : Nat) (r : List UInt8) (e : Int) (h : rdMany one n r = .error e) : readErr e := by
  induction n generalizing r with
  | zero => simp only [rdMany] at h; cases h
  | succ n ih =>
    simp only [rdMany] at h
    split at h
    · rename_i hx; cases h; exact h1 _ _ hx
    · split at h
      · rename_i hx; cases h; exact ih _ hx
      · cases h
theorem rdRow_err {α : Type} {one : List UInt8 → Except Int (α × Nat)} (h1 : ∀ r e, one r = .error e → readErr e) {r : List UInt8} {e : Int} (h : rdRow one r = .error e) : readErr e := by
  unfold rdRow at h
  split at h
  · rename_i hL; cases h; exact rdLen_err hL
  · split at h
    · rename_i hx; cases h; exact rdMany_err h1 _ _ _ hx
    · cases h
/-- a step from a place: an error, or a place further on -/
theorem step_cases {α : Type} {rd : List UInt8 → Except Int (α × Nat)} {f : α → List UInt8} {P : α → Prop} (hb : ∀ r x c, rd r = .ok (x, c) → r.take c = f x ∧ c ≤ r.length ∧ P x) (he : ∀ r e, rd r = .error e → readErr e) (d : α) (s : ByteArray) (bs : List UInt8) (k : Nat) (hk : k ≤ bs.length) :
    (∃ e, stepR d s rd bs (.ok k) = (d, .error (e, s, (k : Int))) ∧ readErr e) ∨ ∃ x c, stepR d s rd bs (.ok k) = (x, .ok (k + c)) ∧ k + c ≤ bs.length ∧ bs.take (k + c) = bs.take k ++ f x ∧ P x := by
  cases hR : rd (bs.drop k) with
  | error e => exact Or.inl ⟨e, by simp only [stepR, hR], he _ _ hR⟩
  | ok y =>
    obtain ⟨x, c⟩ := y
    obtain ⟨h1, h2, h3⟩ := hb _ _ _ hR
    rw [List.length_drop] at h2
    exact Or.inr ⟨x, c, by simp only [stepR, hR], by omega, by rw [List.take_add, h1], h3⟩
theorem step_bad {α : Type} (rd : List UInt8 → Except Int (α × Nat)) (d : α) (s : ByteArray) (bs : List UInt8) (b : Int × ByteArray × Int) : stepR d s rd bs (.error b) = (d, .error b) := rfl
theorem text_back (r : List UInt8) (x : List UInt8) (c : Nat) (h : rdText r = .ok (x, c)) : r.take c = textB x ∧ c ≤ r.length ∧ x.length ≤ 65536 := rdText_back h
theorem num_back (r : List UInt8) (x : Int) (c : Nat) (h : rdNum r = .ok (x, c)) : r.take c = numB x ∧ c ≤ r.length ∧ fits x := ⟨(rdNum_back h).1, (rdNum_back h).2.1, (rdNum_back h).2.2.1⟩

/-- what the statement reads -/
def read3 (bs : List UInt8) : Int × List (List UInt8) × List Int × RS :=
  let r1 := stepR (0 : Int) sNum rdNum bs (.ok 0)
  let r2 := stepR [] sList (rdRow rdText) bs r1.2
  let r3 := stepR [] sNums (rdRow rdNum) bs r2.2
  (r1.1, r2.1, r3.1, r3.2)
theorem kept_math (bs : List UInt8) : (∃ e s j, (read3 bs).2.2.2 = .error (e, s, j) ∧ readErr e) ∨
    ∃ k, (read3 bs).2.2.2 = .ok k ∧ k ≤ bs.length ∧ bs.take k = numB (read3 bs).1 ++ rowB textB (read3 bs).2.1 ++ rowB numB (read3 bs).2.2.1 ∧ (read3 bs).2.1.length ≤ 1024 ∧ (∀ s ∈ (read3 bs).2.1, s.length ≤ 65536) ∧ (read3 bs).2.2.1.length ≤ 1024 := by
  unfold read3
  simp only
  rcases step_cases num_back (fun _ _ h => rdNum_err h) (0 : Int) sNum bs 0 (Nat.zero_le _) with ⟨e, h1, he⟩ | ⟨n, c1, h1, g1, t1, _⟩
  · rw [h1]; left; exact ⟨e, _, _, rfl, he⟩
  · rw [h1]
    simp only
    rcases step_cases (f := rowB textB) (P := fun l => l.length ≤ 1024 ∧ ∀ s ∈ l, s.length ≤ 65536) (fun r x c h => ⟨(rdRow_back text_back h).1, (rdRow_back text_back h).2.1, (rdRow_back text_back h).2.2⟩) (fun _ _ h => rdRow_err (fun _ _ h => rdText_err h) h) [] sList bs (0 + c1) g1 with ⟨e, h2, he⟩ | ⟨l, c2, h2, g2, t2, p2⟩
    · rw [h2]; left; exact ⟨e, _, _, rfl, he⟩
    · rw [h2]
      simp only
      rcases step_cases (f := rowB numB) (P := fun l => l.length ≤ 1024) (fun r x c h => ⟨(rdRow_back num_back h).1, (rdRow_back num_back h).2.1, (rdRow_back num_back h).2.2.1⟩) (fun _ _ h => rdRow_err (fun _ _ h => rdNum_err h) h) [] sNums bs (0 + c1 + c2) g2 with ⟨e, h3, he⟩ | ⟨m, c3, h3, g3, t3, p3⟩
      · rw [h3]; left; exact ⟨e, _, _, rfl, he⟩
      · rw [h3]; right
        exact ⟨_, rfl, g3, by rw [t3, t2, t1]; simp, p2.1, p2.2, p3⟩

theorem listO_of {l : List (List UInt8)} (h1 : l.length ≤ 1024) (h2 : ∀ s ∈ l, s.length ≤ 65536) : listO l = some (rowB textB l) := by
  unfold listO
  rw [if_neg]
  have h3 : anyLong l = false := List.any_eq_false.2 (fun s hs => by have := h2 s hs; simp; omega)
  rw [h3]; simp; omega
theorem numsO_of {l : List Int} (h1 : l.length ≤ 1024) : numsO l = some (rowB numB l) := if_neg (by omega)
theorem lit_steps (w : World) (s : ByteArray) (k : Int) : Steps (w.alloc (.cells #[.string s, .int .i64 k] 49)) (w.heap.size + 1) (.slice (some ⟨w.heap.size, 0, none⟩) 1 1) [(s, k)] := by
  refine ⟨_, 1, rfl, fun j x hx => ?_⟩
  match j, hx with
  | 0, hx =>
    simp at hx; subst hx
    exact ⟨w.heap.size, 0, rfl, Nat.lt_succ_self _, by rw [World.cell?_alloc_at _ _ _ _ rfl]; rfl, by rw [World.cell?_alloc_at _ _ _ _ rfl]; rfl⟩
  | j + 1, hx => simp at hx

theorem end_text_len (k : Int) (h : fits k) : (textL [((⟨#[101, 110, 100]⟩ : ByteArray), k)]).length ≤ 1099511627776 := by
  have := Lib.itoa_length_le k h.1 h.2
  simp [textL, stepText]; omega

set_option maxRecDepth 100000 in
set_option maxHeartbeats 8000000 in
theorem law_kept (v : Value) (bs : List UInt8) (w : World) (hy : BytesIn w (· < w.heap.size) v bs) (hf : ∃ a cap, v = .slice a bs.length cap ∧ bs.length ≤ cap) (hn : bs.length ≤ maxLen) (hg : ET w) (ht : PT w) :
    Calls Tryd.prog 5 #[v] w fun e w' => e = .returned (.bool true) ∧ Below w.heap.size w w' := by
  have HH := hideIt (head_true w hg ht)
  have HE := hideIt (And.intro hg ht)
  have HY := hideIt hy
  obtain ⟨a, cap, rfl, hcap⟩ := hf
  unfold maxLen at hn
  clear hy hg ht
  by_cases hgr : 400000 < bs.length
  · have hgr2 : (400000 : Int) < (bs.length : Int) := by omega
    go_enter Tryd.func5, Tryd.ntmps5
    go_wp2_with fail
    refine HH.out.mono ?_
    rintro e w0 ⟨rfl, b0⟩
    go_wp2
    go_ret
    exact ⟨rfl, b0⟩
  · have hgr2 : ¬ (400000 : Int) < (bs.length : Int) := by omega
    have hb4 : bs.length ≤ 400000 := by omega
    have HM := hideIt (kept_math bs)
    have H3 : Hid (read3 bs = read3 bs) := rfl
    clear hn
    go_enter Tryd.func5, Tryd.ntmps5
    go_wp2_with fail
    refine HH.out.mono ?_
    rintro e w0 ⟨rfl, b0⟩
    have HV0 : Hid (Env w w0) := ⟨b0, HE.out⟩
    have HY0 := hideIt (RowIn.kept HY.out (Kept.of_all b0))
    clear b0 HH HE HY
    go_wp2_with fail
    refine (new_any _ _ bs w0 HY0.out (by omega)).mono ?_
    rintro e w1 ⟨p, rfl, hp1, hp2, hr, hb⟩
    have hps : w.heap.size ≤ p := by have := HV0.out.1.size; omega
    have HV1 := hideIt (HV0.out.next hb)
    have HY1 := hideIt (RowIn.kept HY0.out (Kept.of_all hb))
    have HR1 := hideIt hr
    clear hr hb HV0 HY0
    go_wp2_with fail
    refine (rNum_any p (fun k => k ≠ p) bs (.ok 0) w1 HR1.out (by simp) (fun k hk => by omega) (by omega)).mono ?_
    rintro e w2 ⟨v2, rfl, hx2, hr2, hg2⟩
    have hx2' : v2 = .int .i64 (read3 bs).1 := hx2
    subst hx2'
    have HR2 := hideIt hr2
    have HV2 := hideIt (HV1.out.grown hg2 hps)
    have HY2 := hideIt (RowIn.kept HY1.out (Kept.of_grown hg2 (fun h => by omega)))
    have hs2 := hg2.size
    clear hx2 hr2 hg2 HR1 HV1 HY1
    go_wp2_with fail
    refine (rList_any p (fun k => k ≠ p) bs _ w2 HR2.out (by simp) (fun k hk => by omega) (by omega)).mono ?_
    rintro e w3 ⟨v3, rfl, hx3, hr3, hg3⟩
    have HX3 : Hid (TextsIn w3 (fun k => k ≠ p) v3 (read3 bs).2.1) := hx3
    have HR3 := hideIt hr3
    have HV3 := hideIt (HV2.out.grown hg3 hps)
    have HY3 := hideIt (RowIn.kept HY2.out (Kept.of_grown hg3 (fun h => by omega)))
    have hs3 := hg3.size
    obtain ⟨a3, cap3, rfl⟩ := HX3.out.form
    clear hx3 hr3 hg3 HR2 HV2 HY2
    go_wp2_with fail
    refine (rNums_any p (fun k => k ≠ p) bs _ w3 HR3.out (by simp) (fun k hk => by omega) (by omega)).mono ?_
    rintro e w4 ⟨v4, rfl, hx4, hr4, hg4⟩
    have HX4 : Hid (NumsIn w4 (fun k => k ≠ p) v4 (read3 bs).2.2.1) := hx4
    have HR4 : Hid (RSt w4 p (fun k => k ≠ p) bs (read3 bs).2.2.2) := hr4
    have HV4 := hideIt (HV3.out.grown hg4 hps)
    have HY4 := hideIt (RowIn.kept HY3.out (Kept.of_grown hg4 (fun h => by omega)))
    have HX34 := hideIt (HX3.out.kept (Kept.of_grown hg4 (by simp)))
    have hs4 := hg4.size
    obtain ⟨a4, cap4, rfl⟩ := HX4.out.form
    clear hx4 hr4 hg4 HR3 HV3 HY3 HX3
    generalize read3 bs = R at HM HX4 HR4 HX34 ⊢
    clear H3
    obtain ⟨n, lt, lm, st⟩ := R
    simp only at HM HX4 HR4 HX34
    go_wp2_with fail
    refine (rEnd_any p (fun k => k ≠ p) bs st w4 HR4.out (fun k hk => by omega) (by omega)).mono ?_
    rintro e w5 ⟨v5, rfl, he5, hb5⟩
    have HV5 := hideIt (HV4.out.next hb5)
    have HY5 := hideIt (RowIn.kept HY4.out (Kept.of_all hb5))
    have HX35 := hideIt (HX34.out.kept (Kept.of_all hb5))
    have HX45 := hideIt (RowIn.kept HX4.out (Kept.of_all hb5))
    have hs5 := hb5.size
    clear hb5 HV4 HY4 HX34 HX4
    rcases HM.out with ⟨ee, es, ej, hst, hre⟩ | ⟨k, hst, hk, hcut, hl1, hl2, hl3⟩
    · subst hst
      have HO5 : Hid (One w5 (fun k => k ≠ p) v5 ee es ej) := he5
      have HA5 := hideIt (HV5.out.at HO5.out)
      obtain ⟨ty, y, rfl⟩ := HO5.out.iface
      clear he5 HM
      rcases hre with rfl | rfl
      all_goals
        go_wp2_with fail
        refine HA5.out.code.mono ?_
        rintro e w6 ⟨rfl, H6, HB6⟩
        go_wp2_with fail
        refine H6.out.code.mono ?_
        rintro e w7 ⟨rfl, H7, HB7⟩
        go_wp2_with fail
        refine (H7.out.trail (by simp)).mono ?_
        rintro e w8 ⟨a8, cap8, rfl, _, H8, HB8⟩
        have HV8 := hideIt (((HV5.out.next HB6.out).next HB7.out).next HB8.out)
        go_wp2
        go_ret
        exact ⟨rfl, HV8.out.1⟩
    · obtain ⟨cb, hcb⟩ : ∃ cb, cb = bs.take k := ⟨_, rfl⟩
      have hcl : cb.length = k := by rw [hcb, List.length_take]; omega
      have HCB : Hid (cb = numB n ++ rowB textB lt ++ rowB numB lm) := hcb.trans hcut
      have HCB2 : Hid (cb = bs.take k) := hcb
      have HLN : Hid ((numB n ++ rowB textB lt).length ≤ 100000000000) := by
        have h1 := congrArg List.length HCB.out
        rw [List.length_append] at h1
        have h2 : (numB n ++ rowB textB lt).length ≤ 100000000000 := by omega
        exact h2
      subst hst
      subst hcl
      clear hcb hcut HM
      by_cases hlt : cb.length < bs.length
      · have HO5 : Hid (One w5 (fun k => k ≠ p) v5 22 sEnd cb.length) := by
          have e : endOf bs (.ok cb.length) = some (22, sEnd, (cb.length : Int)) := if_pos hlt
          rw [e] at he5; exact he5
        have HA5 := hideIt (HV5.out.at HO5.out)
        obtain ⟨ty, y, rfl⟩ := HO5.out.iface
        clear he5
        go_wp2_with fail
        refine HA5.out.code.mono ?_
        rintro e w6 ⟨rfl, H6, HB6⟩
        have HV6 := hideIt (HV5.out.next HB6.out)
        have HY6 := hideIt (RowIn.kept HY5.out (Kept.of_all HB6.out))
        have HX36 := hideIt (HX35.out.kept (Kept.of_all HB6.out))
        have HX46 := hideIt (RowIn.kept HX45.out (Kept.of_all HB6.out))
        have HO6 := hideIt (HO5.out.kept (Kept.of_all HB6.out))
        go_wp2_with fail
        have hsw : w.heap.size ≤ w6.heap.size := HV6.out.1.size
        have hal : Below w6.heap.size w6 (w6.alloc (.cells #[.pointer none, .int .i64 0, .nilIface] 30)) := (Below.refl _ _).alloc (Nat.le_refl _) _
        have HV6a := hideIt (HV6.out.next hal)
        have HY6a := hideIt (RowIn.kept HY6.out (Kept.of_all hal))
        have HX36a := hideIt ((HX36.out.mono (A' := (· < w6.heap.size)) (fun _ _ h => h)).kept (Kept.of_all hal))
        have HX46a := hideIt (RowIn.kept (RowIn.mono HX46.out (A' := (· < w6.heap.size)) (fun _ _ h => h)) (Kept.of_all hal))
        clear hal HV6 HY6 HX36 HX46
        refine (wNum_any w6.heap.size _ ([], false) n _ (fresh_writer w6) (fun k hk => by simp at hk; omega) (by simp) (by simp)).mono ?_
        rintro e w7 ⟨rfl, h1, h2⟩
        have HW7 : Hid (WSt w7 w6.heap.size (fun k => k ≠ w6.heap.size) (numB n, false)) := h1
        have HV7 := hideIt (HV6a.out.grown h2 hsw)
        have HY7 := hideIt (RowIn.kept HY6a.out (Kept.of_grown h2 (fun h => by omega)))
        have HX37 := hideIt (HX36a.out.kept (Kept.of_grown h2 (fun h => by omega)))
        have HX47 := hideIt (RowIn.kept HX46a.out (Kept.of_grown h2 (fun h => by omega)))
        have hs7 := h2.size
        rw [World.size_alloc] at hs7
        have HG7 := hideIt (grown_trans (World.grownBy_alloc w6 _ (some w6.heap.size)) h2)
        clear h1 h2 HV6a HY6a HX36a HX46a
        go_wp2_with fail
        refine (wList_any w6.heap.size _ _ (numB n, false) _ lt w7 HW7.out HX37.out (by unfold maxLen; omega) (fun s hs => by have := hl2 s hs; unfold maxLen; omega) (fun k hk => by omega) (by simp) (by rw [numB_length]; decide)).mono ?_
        rintro e w8 ⟨rfl, h1, h2⟩
        rw [listO_of hl1 hl2] at h1
        have HW8 : Hid (WSt w8 w6.heap.size (fun k => k ≠ w6.heap.size) (numB n ++ rowB textB lt, false)) := h1
        have HV8 := hideIt (HV7.out.grown h2 hsw)
        have HY8 := hideIt (RowIn.kept HY7.out (Kept.of_grown h2 (fun h => by omega)))
        have HX48 := hideIt (RowIn.kept HX47.out (Kept.of_grown h2 (fun h => by omega)))
        have hs8 := h2.size
        have HG8 := hideIt (grown_trans HG7.out h2)
        clear h1 h2 HV7 HY7 HX37 HX47 HW7
        go_wp2_with fail
        refine (wNums_any w6.heap.size _ _ (numB n ++ rowB textB lt, false) _ lm w8 HW8.out HX48.out (by unfold maxLen; omega) (fun k hk => by omega) (by simp) HLN.out).mono ?_
        rintro e w9 ⟨rfl, h1, h2⟩
        rw [numsO_of hl3] at h1
        have HW9 : Hid (WOk w9 w6.heap.size (fun k => k ≠ w6.heap.size) cb) := by rw [HCB.out]; exact h1
        have HV9 := hideIt (HV8.out.grown h2 hsw)
        have HY9 := hideIt (RowIn.kept HY8.out (Kept.of_grown h2 (fun h => by omega)))
        have HG9 := hideIt (grown_trans HG8.out h2)
        clear h1 h2 HV8 HY8 HX48 HW8
        go_wp2_with fail
        refine (wBytes_ok w6.heap.size _ cb w9 HW9.out (by omega)).mono ?_
        rintro e w10 ⟨v10, rfl, ho, hb⟩
        have HV10 := hideIt (HV9.out.next hb)
        have HG10 := hideIt (grown_trans HG9.out (grown_below hb _))
        have hy10 : BytesIn w10 (fun _ => True) v10 cb := RowIn.of_own ho (fun _ _ => trivial)
        have hyb : BytesIn w10 (· < w.heap.size) (.slice a cb.length cap) cb := by
          have := RowIn.kept HY9.out (Kept.of_all hb)
          have e1 : bs = cb ++ bs.drop cb.length := by have h := List.take_append_drop cb.length bs; rw [← HCB2.out] at h; exact h.symm
          exact BytesIn.cut (l2 := bs.drop cb.length) (by rw [← e1]; exact this)
        obtain ⟨a10, cap10, rfl⟩ := own_form ho
        have hst1 := fun m => BytesIn.str (RowIn.kept hy10 (Kept.of_all (below_drewN w10 m)))
        have hst2 := fun m => BytesIn.str (RowIn.kept hyb (Kept.of_all (below_drewN w10 m)))
        have hkc : cb.length ≤ cap := by omega
        clear ho hb hy10 hyb HV9 HY9 HW9
        go_wp2
        go_quiet (fail)
        have HV11 := hideIt (HV10.out.next (below_drewN w10 nq))
        have HO11 : Hid (One (w10.drewN nq) (· < w6.heap.size) (.iface ty y) 22 ⟨#[101, 110, 100]⟩ cb.length) := (HO6.out.mono (A' := (· < w6.heap.size)) (fun _ _ h => h)).kept (Kept.of_grown (grown_trans HG10.out (grown_below (below_drewN w10 nq) _)) (fun h => by omega))
        generalize w10.drewN nq = w11 at HV11 HO11 ⊢
        have hne : ((cb.length : Int) == (bs.length : Int)) = false := by simp; omega
        have hne2 : ¬ (cb.length : Int) = (bs.length : Int) := by omega
        have hfk : fits (cb.length : Int) := by unfold fits; omega
        have HTL := hideIt (end_text_len (cb.length : Int) hfk)
        have HA11 := hideIt (HV11.out.at HO11.out)
        have HFK : Hid (∀ x ∈ [((⟨#[101, 110, 100]⟩ : ByteArray), (cb.length : Int))], fits x.2) := fun x hx => by simp at hx; subst hx; exact hfk
        clear hst1 hst2 hfk
        go_wp2_with fail
        refine (HA11.out.text (by unfold fits; omega) (by simp) HFK.out HTL.out).mono ?_
        rintro e w12 ⟨he, H12, HB12⟩
        obtain ⟨S, hS⟩ : ∃ S, S = (⟨(textL [((⟨#[101, 110, 100]⟩ : ByteArray), (cb.length : Int))] ++ errText 22).toArray⟩ : ByteArray) := ⟨_, rfl⟩
        rw [← hS] at he
        subst he
        have HSS := hideIt hS
        have HV12 := hideIt (HV11.out.next HB12.out)
        clear hS
        go_wp2_with fail
        have hal : Below w12.heap.size w12 (w12.alloc (.cells #[.string ⟨#[101, 110, 100]⟩, .int .i64 cb.length] 49)) := (Below.refl _ _).alloc (Nat.le_refl _) _
        refine (RText_any _ _ [((⟨#[101, 110, 100]⟩ : ByteArray), (cb.length : Int))] 22 (by decide) (by unfold fits; omega) _ (lit_steps w12 ⟨#[101, 110, 100]⟩ cb.length) (by simp) (HV12.out.next hal).pt (by simp) HFK.out HTL.out).mono ?_
        rintro e w13 ⟨he, hb13⟩
        rw [← HSS.out] at he
        subst he
        have HV13 := hideIt ((HV12.out.next hal).next hb13)
        clear hal hb13
        go_wp2
        go_ret
        exact ⟨by simp, HV13.out.1⟩
      · have heq : cb.length = bs.length := by omega
        have hv5 : v5 = .nilIface := by
          have e : endOf bs (.ok cb.length) = none := if_neg hlt
          rw [e] at he5; exact he5
        subst hv5
        have HEQ := hideIt heq
        have HV6 := HV5
        have HY6 := HY5
        have HX36 := HX35
        have HX46 := HX45
        clear he5 heq hlt
        generalize w5 = w6 at HV6 HY6 HX36 HX46 hs5 ⊢
        clear HV5 HY5 HX35 HX45
        go_wp2_with fail
        have hsw : w.heap.size ≤ w6.heap.size := HV6.out.1.size
        have hal : Below w6.heap.size w6 (w6.alloc (.cells #[.pointer none, .int .i64 0, .nilIface] 30)) := (Below.refl _ _).alloc (Nat.le_refl _) _
        have HV6a := hideIt (HV6.out.next hal)
        have HY6a := hideIt (RowIn.kept HY6.out (Kept.of_all hal))
        have HX36a := hideIt ((HX36.out.mono (A' := (· < w6.heap.size)) (fun _ _ h => h)).kept (Kept.of_all hal))
        have HX46a := hideIt (RowIn.kept (RowIn.mono HX46.out (A' := (· < w6.heap.size)) (fun _ _ h => h)) (Kept.of_all hal))
        clear hal HV6 HY6 HX36 HX46
        refine (wNum_any w6.heap.size _ ([], false) n _ (fresh_writer w6) (fun k hk => by simp at hk; omega) (by simp) (by simp)).mono ?_
        rintro e w7 ⟨rfl, h1, h2⟩
        have HW7 : Hid (WSt w7 w6.heap.size (fun k => k ≠ w6.heap.size) (numB n, false)) := h1
        have HV7 := hideIt (HV6a.out.grown h2 hsw)
        have HY7 := hideIt (RowIn.kept HY6a.out (Kept.of_grown h2 (fun h => by omega)))
        have HX37 := hideIt (HX36a.out.kept (Kept.of_grown h2 (fun h => by omega)))
        have HX47 := hideIt (RowIn.kept HX46a.out (Kept.of_grown h2 (fun h => by omega)))
        have hs7 := h2.size
        rw [World.size_alloc] at hs7
        have HG7 := hideIt (grown_trans (World.grownBy_alloc w6 _ (some w6.heap.size)) h2)
        clear h1 h2 HV6a HY6a HX36a HX46a
        go_wp2_with fail
        refine (wList_any w6.heap.size _ _ (numB n, false) _ lt w7 HW7.out HX37.out (by unfold maxLen; omega) (fun s hs => by have := hl2 s hs; unfold maxLen; omega) (fun k hk => by omega) (by simp) (by rw [numB_length]; decide)).mono ?_
        rintro e w8 ⟨rfl, h1, h2⟩
        rw [listO_of hl1 hl2] at h1
        have HW8 : Hid (WSt w8 w6.heap.size (fun k => k ≠ w6.heap.size) (numB n ++ rowB textB lt, false)) := h1
        have HV8 := hideIt (HV7.out.grown h2 hsw)
        have HY8 := hideIt (RowIn.kept HY7.out (Kept.of_grown h2 (fun h => by omega)))
        have HX48 := hideIt (RowIn.kept HX47.out (Kept.of_grown h2 (fun h => by omega)))
        have hs8 := h2.size
        have HG8 := hideIt (grown_trans HG7.out h2)
        clear h1 h2 HV7 HY7 HX37 HX47 HW7
        go_wp2_with fail
        refine (wNums_any w6.heap.size _ _ (numB n ++ rowB textB lt, false) _ lm w8 HW8.out HX48.out (by unfold maxLen; omega) (fun k hk => by omega) (by simp) HLN.out).mono ?_
        rintro e w9 ⟨rfl, h1, h2⟩
        rw [numsO_of hl3] at h1
        have HW9 : Hid (WOk w9 w6.heap.size (fun k => k ≠ w6.heap.size) cb) := by rw [HCB.out]; exact h1
        have HV9 := hideIt (HV8.out.grown h2 hsw)
        have HY9 := hideIt (RowIn.kept HY8.out (Kept.of_grown h2 (fun h => by omega)))
        have HG9 := hideIt (grown_trans HG8.out h2)
        clear h1 h2 HV8 HY8 HX48 HW8
        go_wp2_with fail
        refine (wBytes_ok w6.heap.size _ cb w9 HW9.out (by omega)).mono ?_
        rintro e w10 ⟨v10, rfl, ho, hb⟩
        have HV10 := hideIt (HV9.out.next hb)
        have HG10 := hideIt (grown_trans HG9.out (grown_below hb _))
        have hy10 : BytesIn w10 (fun _ => True) v10 cb := RowIn.of_own ho (fun _ _ => trivial)
        have hyb : BytesIn w10 (· < w.heap.size) (.slice a cb.length cap) cb := by
          have := RowIn.kept HY9.out (Kept.of_all hb)
          have e1 : bs = cb ++ bs.drop cb.length := by have h := List.take_append_drop cb.length bs; rw [← HCB2.out] at h; exact h.symm
          exact BytesIn.cut (l2 := bs.drop cb.length) (by rw [← e1]; exact this)
        obtain ⟨a10, cap10, rfl⟩ := own_form ho
        have hst1 := fun m => BytesIn.str (RowIn.kept hy10 (Kept.of_all (below_drewN w10 m)))
        have hst2 := fun m => BytesIn.str (RowIn.kept hyb (Kept.of_all (below_drewN w10 m)))
        have hkc : cb.length ≤ cap := by omega
        clear ho hb hy10 hyb HV9 HY9 HW9
        go_wp2
        go_quiet (fail)
        have HV11 := hideIt (HV10.out.next (below_drewN w10 nq))
        generalize w10.drewN nq = w11 at HV11 ⊢
        have hne : ((cb.length : Int) == (bs.length : Int)) = true := by have := HEQ.out; simp; omega
        go_wp2
        go_ret
        exact ⟨by simp [HEQ.out], HV11.out.1⟩
end Go.Proofs.YtaaaibnalhmmgaaDoor
