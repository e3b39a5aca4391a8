/-
  What is proved here: the statement's function cohortlaw02.WireStops returns true, over this program. Conditions: the bytes and the Ops lie in memory as slices of them do, the bytes at most 2^47 of them; the library's variables lie as they are laid.
-/
import Derived.Test.YtaaaibnalhmmgaaDoorLKept
namespace Go.Proofs.YtaaaibnalhmmgaaDoor
open Go.RowKit Go.Extern.Stop Go.Stop Go.Extern

/-- an error that a Reader may have -/
def ErrOk (b : Int × ByteArray × Int) : Prop := (b.1 = 21 ∨ b.1 = 2 ∨ b.1 = 23) ∧ b.2.1.size ≤ 4 ∧ 0 ≤ b.2.2 ∧ b.2.2 ≤ 400000
def StOk (bs : List UInt8) : RS → Prop
  | .ok k => k ≤ bs.length
  | .error b => ErrOk b
theorem step_ok {α : Type} {rd : List UInt8 → Except Int (α × Nat)} (hb : ∀ r x c, rd r = .ok (x, c) → c ≤ r.length) (he : ∀ r e, rd r = .error e → e = 21 ∨ e = 2 ∨ e = 23) (d : α) (s : ByteArray) (hs : s.size ≤ 4) (bs : List UInt8) (hl : bs.length ≤ 400000) (st : RS) (h : StOk bs st) : StOk bs (stepR d s rd bs st).2 := by
  match st, h with
  | .error b, h => exact h
  | .ok k, h =>
    have h' : k ≤ bs.length := h
    cases hR : rd (bs.drop k) with
    | error e =>
      have e1 : stepR d s rd bs (.ok k) = (d, .error (e, s, (k : Int))) := by simp only [stepR, hR]
      rw [e1]
      exact ⟨he _ _ hR, hs, by simp, by simp; omega⟩
    | ok y =>
      obtain ⟨x, c⟩ := y
      have e1 : stepR d s rd bs (.ok k) = (x, .ok (k + c)) := by simp only [stepR, hR]
      rw [e1]
      have := hb _ _ _ hR
      rw [List.length_drop] at this
      show k + c ≤ bs.length
      omega
theorem rdInt_err {most : Int} {r : List UInt8} {e : Int} (h : rdInt most r = .error e) : e = 21 ∨ e = 2 ∨ e = 23 := by
  unfold rdInt at h
  split at h
  · rename_i hx; cases h; rcases rdNum_err hx with h | h
    · exact Or.inl h
    · exact Or.inr (Or.inl h)
  · split at h
    · cases h; exact Or.inr (Or.inr rfl)
    · split at h
      · cases h; exact Or.inr (Or.inl rfl)
      · cases h
theorem rdInt_le {most : Int} {r : List UInt8} {x : Int} {c : Nat} (h : rdInt most r = .ok (x, c)) : c ≤ r.length := by
  unfold rdInt at h
  split at h
  · cases h
  · rename_i hx
    split at h
    · cases h
    · split at h
      · cases h
      · cases h; exact (rdNum_back hx).2.1
theorem err3 {e : Int} (h : readErr e) : e = 21 ∨ e = 2 ∨ e = 23 := by
  rcases h with h | h
  · exact Or.inl h
  · exact Or.inr (Or.inl h)

/-- what a round reads -/
def read5 (bs : List UInt8) (st : RS) : Int × List UInt8 × List (List UInt8) × List Int × Int × RS :=
  let r1 := stepR (0 : Int) sNum rdNum bs st
  let r2 := stepR [] sText rdText bs r1.2
  let r3 := stepR [] sList (rdRow rdText) bs r2.2
  let r4 := stepR [] sNums (rdRow rdNum) bs r3.2
  let r5 := stepR (0 : Int) sInt (rdInt 9) bs r4.2
  (r1.1, r2.1, r3.1, r4.1, r5.1, r5.2)
theorem read5_ok (bs : List UInt8) (hl : bs.length ≤ 400000) (st : RS) (h : StOk bs st) : StOk bs (read5 bs st).2.2.2.2.2 := by
  refine step_ok (fun r x c h => rdInt_le h) (fun r e h => rdInt_err h) _ sInt (by decide) bs hl _ ?_
  refine step_ok (fun r x c h => (rdRow_back num_back h).2.1) (fun r e h => err3 (rdRow_err (fun _ _ h => rdNum_err h) h)) _ sNums (by decide) bs hl _ ?_
  refine step_ok (fun r x c h => (rdRow_back text_back h).2.1) (fun r e h => err3 (rdRow_err (fun _ _ h => rdText_err h) h)) _ sList (by decide) bs hl _ ?_
  refine step_ok (fun r x c h => (rdText_back h).2.1) (fun r e h => err3 (rdText_err h)) _ sText (by decide) bs hl _ ?_
  exact step_ok (fun r x c h => (rdNum_back h).2.1) (fun r e h => err3 (rdNum_err h)) _ sNum (by decide) bs hl _ h
theorem read5_bad (bs : List UInt8) (b : Int × ByteArray × Int) : read5 bs (.error b) = (0, [], [], [], 0, .error b) := rfl

/-- what an error of one step tells -/
def oneText (b : Int × ByteArray × Int) : ByteArray := ⟨(textL [(b.2.1, b.2.2)] ++ errText b.1).toArray⟩
theorem one_len (b : Int × ByteArray × Int) (h : ErrOk b) : (textL [(b.2.1, b.2.2)]).length ≤ 1099511627776 ∧ (∀ x ∈ [(b.2.1, b.2.2)], fits x.2) ∧ fits b.1 := by
  obtain ⟨h1, h2, h3, h4⟩ := h
  have hf : fits b.2.2 := by unfold fits; omega
  refine ⟨?_, fun x hx => by simp at hx; subst hx; exact hf, by unfold fits; omega⟩
  have := Lib.itoa_length_le b.2.2 hf.1 hf.2
  have h5 : b.2.1.data.size = b.2.1.size := rfl
  simp [textL, stepText]; omega
set_option maxRecDepth 100000 in
set_option maxHeartbeats 8000000 in
theorem law_stops (v : Value) (bs : List UInt8) (sl : Value) (l : List OpD) (w : World) (hy : BytesIn w (· < w.heap.size) v bs) (hn : bs.length ≤ 140737488355328) (hs : OpsIn w (· < w.heap.size) sl l) (hlen : l.length ≤ maxLen) (hok : ∀ x ∈ l, OpOk x) (hg : ET w) (ht : PT w) :
    Calls Tryd.prog 7 #[v, sl] w fun e w' => e = .returned (.bool true) ∧ Below w.heap.size w w' := by
  have HH := hideIt (head_true w hg ht)
  have HE := hideIt (And.intro hg ht)
  have HY := hideIt hy
  have HS := hideIt hs
  have HZ := hideIt (And.intro hlen hok)
  obtain ⟨a, cap, rfl, _⟩ := hy.form
  obtain ⟨a2, cap2, rfl, hs0⟩ := hs
  clear hs0 hy hg ht hok
  unfold maxLen at hlen
  go_enter Tryd.func7, Tryd.ntmps7
  go_wp2_with fail
  refine HH.out.mono ?_
  rintro e w0 ⟨rfl, b0⟩
  have HV0 : Hid (Env w w0) := ⟨b0, HE.out⟩
  have HY0 := hideIt (RowIn.kept HY.out (Kept.of_all b0))
  have HS0 := hideIt (HS.out.kept (Kept.of_all b0))
  clear b0 HH HE HY HS
  go_wp2_with fail
  refine (new_any _ _ bs w0 HY0.out hn).mono ?_
  rintro e w1 ⟨p, rfl, hp1, hp2, hr, hb⟩
  have hps : w.heap.size ≤ p := by have := HV0.out.1.size; omega
  have HV1 := hideIt (HV0.out.next hb)
  have HS1 := hideIt (HS0.out.kept (Kept.of_all hb))
  have HR1 := hideIt hr
  clear hr hb HV0 HY0 HS0
  go_wp2_with fail
  refine (Great_any _ _ l w1 HS1.out HZ.out.1 HZ.out.2).mono ?_
  rintro e w2 ⟨⟨g, rfl, _⟩, b2⟩
  have HV2 := hideIt (HV1.out.next b2)
  have HR2 := hideIt (ROk.next HR1.out b2)
  have hs2 := b2.size
  clear b2 HV1 HS1 HR1
  cases g
  · by_cases hgr : 400000 < bs.length
    · have hgr2 : (400000 : Int) < (bs.length : Int) := by omega
      go_wp2
      go_ret
      exact ⟨rfl, HV2.out.1⟩
    · have hgr2 : ¬ (400000 : Int) < (bs.length : Int) := by omega
      have hb4 : bs.length ≤ 400000 := by omega
      clear hn
      go_wp2
      go_loopw [7, 8] (fun tx i wr => ∃ (k : Nat) (st : RS) (T : ByteArray), k ≤ l.length ∧ i = .int .i64 k ∧ tx = .string T ∧ Hid (T = ⟨#[]⟩ ∨ ∃ b, st = .error b ∧ T = oneText b) ∧ Hid (StOk bs st) ∧ Hid (RSt wr p (fun k => k ≠ p) bs st) ∧ Hid (Env w wr) ∧ p < wr.heap.size) (fun _ i _ => l.length - (intOf i).toNat)
      case atStart => exact ⟨0, .ok 0, ⟨#[]⟩, Nat.zero_le _, rfl, rfl, Or.inl rfl, Nat.zero_le _, HR2.out, HV2.out, by omega⟩
      case round =>
        obtain ⟨k, st, T, hk, rfl, rfl, HT, HST, HR, HV, hpl⟩ := hrel
        by_cases hlt : k < l.length
        · have HOK := hideIt (read5_ok bs hb4 st HST.out)
          go_wp2_with fail
          refine (rNum_any p (fun k => k ≠ p) bs st wr HR.out (by simp) (fun k hk => by omega) (by omega)).mono ?_
          rintro e x1 ⟨v1, rfl, hv1, hr1, hg1⟩
          have hv1' : v1 = .int .i64 (read5 bs st).1 := hv1
          subst hv1'
          have HR1 := hideIt hr1
          have HV1 := hideIt (HV.out.grown hg1 hps)
          have hs1 := hg1.size
          clear hv1 hr1 hg1
          go_wp2_with fail
          refine (rText_any p (fun k => k ≠ p) bs _ x1 HR1.out (by simp) (fun k hk => by omega) (by omega)).mono ?_
          rintro e x2 ⟨v2, rfl, hv2, hr2, hg2⟩
          have hv2' : BytesIn x2 (fun k => k ≠ p) v2 (read5 bs st).2.1 := hv2
          obtain ⟨b2, c2, rfl, _⟩ := hv2'.form
          have HR2 := hideIt hr2
          have HV2 := hideIt (HV1.out.grown hg2 hps)
          have hs2 := hg2.size
          clear hv2 hv2' hr2 hg2 HR1 HV1
          go_wp2_with fail
          refine (rList_any p (fun k => k ≠ p) bs _ x2 HR2.out (by simp) (fun k hk => by omega) (by omega)).mono ?_
          rintro e x3 ⟨v3, rfl, hv3, hr3, hg3⟩
          have hv3' : TextsIn x3 (fun k => k ≠ p) v3 (read5 bs st).2.2.1 := hv3
          obtain ⟨b3, c3, rfl⟩ := hv3'.form
          have HR3 := hideIt hr3
          have HV3 := hideIt (HV2.out.grown hg3 hps)
          have hs3 := hg3.size
          clear hv3 hv3' hr3 hg3 HR2 HV2
          go_wp2_with fail
          refine (rNums_any p (fun k => k ≠ p) bs _ x3 HR3.out (by simp) (fun k hk => by omega) (by omega)).mono ?_
          rintro e x4 ⟨v4, rfl, hv4, hr4, hg4⟩
          have hv4' : NumsIn x4 (fun k => k ≠ p) v4 (read5 bs st).2.2.2.1 := hv4
          obtain ⟨b4, c4, rfl⟩ := hv4'.form
          have HR4 := hideIt hr4
          have HV4 := hideIt (HV3.out.grown hg4 hps)
          have hs4 := hg4.size
          clear hv4 hv4' hr4 hg4 HR3 HV3
          go_wp2_with fail
          refine (rInt_any p (fun k => k ≠ p) 9 bs _ x4 HR4.out (by simp) (fun k hk => by omega) (by omega)).mono ?_
          rintro e x5 ⟨v5, rfl, hv5, hr5, hg5⟩
          have hv5' : v5 = .int .i64 (read5 bs st).2.2.2.2.1 := hv5
          subst hv5'
          have HR5 : Hid (RSt x5 p (fun k => k ≠ p) bs (read5 bs st).2.2.2.2.2) := hr5
          have HV5 := hideIt (HV4.out.grown hg5 hps)
          have hs5 := hg5.size
          clear hv5 hr5 hg5 HR4 HV4 HR HV
          have HD : Hid (∀ b, st = .error b → read5 bs st = (0, [], [], [], 0, .error b)) := fun b hb => by rw [hb, read5_bad]
          generalize read5 bs st = R at HOK HR5 HD ⊢
          obtain ⟨n1, s2, l3, m4, z5, st5⟩ := R
          simp only at HOK HR5 HD
          go_wp2_with fail
          refine (rEnd_any p (fun k => k ≠ p) bs st5 x5 HR5.out (fun k hk => by omega) (by omega)).mono ?_
          rintro e x6 ⟨v6, rfl, he6, hb6⟩
          have HV6 := hideIt (HV5.out.next hb6)
          have HR6 := hideIt (RSt.next HR5.out hb6)
          have hs6 := hb6.size
          clear hb6 HV5 HR5
          rcases HT.out with rfl | ⟨b, rfl, rfl⟩
          · match st5, HOK, HR6, he6 with
            | .ok k5, HOK, HR6, he6 =>
              by_cases hk5 : k5 < bs.length
              · have HO6 : Hid (One x6 (fun k => k ≠ p) v6 22 sEnd k5) := by
                  have e : endOf bs (.ok k5) = some (22, sEnd, (k5 : Int)) := if_pos hk5
                  rw [e] at he6; exact he6
                have HA6 := hideIt (HV6.out.at HO6.out)
                obtain ⟨ty, y, rfl⟩ := HO6.out.iface
                have hfk : fits (k5 : Int) := by unfold fits; omega
                have HTL : Hid ((textL [(sEnd, (k5 : Int))]).length ≤ 1099511627776) := end_text_len (k5 : Int) hfk
                have HFK : Hid (∀ x ∈ [(sEnd, (k5 : Int))], fits x.2) := fun x hx => by simp at hx; subst hx; exact hfk
                clear he6 hfk
                go_wp2_with fail
                refine (HA6.out.text (by unfold fits; omega) (by simp) HFK.out HTL.out).mono ?_
                rintro e x7 ⟨he, H7, HB7⟩
                obtain ⟨S, hS⟩ : ∃ S, S = (⟨(textL [(sEnd, (k5 : Int))] ++ errText 22).toArray⟩ : ByteArray) := ⟨_, rfl⟩
                rw [← hS] at he
                subst he
                have HV7 := hideIt (HV6.out.next HB7.out)
                have HR7 := hideIt (RSt.next HR6.out HB7.out)
                have hs7 := HB7.out.size
                clear hS
                go_wp2_with fail
                refine (rEnd_any p (fun k => k ≠ p) bs (.ok k5) x7 HR7.out (fun k hk => by omega) (by omega)).mono ?_
                rintro e x8 ⟨v8, rfl, he8, hb8⟩
                have HO8 : Hid (One x8 (fun k => k ≠ p) v8 22 sEnd k5) := by
                  have e : endOf bs (.ok k5) = some (22, sEnd, (k5 : Int)) := if_pos hk5
                  rw [e] at he8; exact he8
                have HV8 := hideIt (HV7.out.next hb8)
                have HR8 := hideIt (RSt.next HR7.out hb8)
                have HA8 := hideIt (HV8.out.at HO8.out)
                obtain ⟨ty8, y8, rfl⟩ := HO8.out.iface
                have hs8 := hb8.size
                clear he8 hb8
                go_wp2_with fail
                refine HA8.out.code.mono ?_
                rintro e x9 ⟨rfl, H9, HB9⟩
                have HV9 := hideIt (HV8.out.next HB9.out)
                have HR9 := hideIt (RSt.next HR8.out HB9.out)
                have hs9 := HB9.out.size
                go_wp2_with fail
                refine (rEnd_any p (fun k => k ≠ p) bs (.ok k5) x9 HR9.out (fun k hk => by omega) (by omega)).mono ?_
                rintro e x10 ⟨v10, rfl, he10, hb10⟩
                have HO10 : Hid (One x10 (fun k => k ≠ p) v10 22 sEnd k5) := by
                  have e : endOf bs (.ok k5) = some (22, sEnd, (k5 : Int)) := if_pos hk5
                  rw [e] at he10; exact he10
                have HV10 := hideIt (HV9.out.next hb10)
                have HR10 := hideIt (RSt.next HR9.out hb10)
                have HA10 := hideIt (HV10.out.at HO10.out)
                obtain ⟨ty10, y10, rfl⟩ := HO10.out.iface
                have hs10 := hb10.size
                clear he10 hb10
                go_wp2_with fail
                refine HA10.out.code.mono ?_
                rintro e x11 ⟨rfl, H11, HB11⟩
                have HV11 := hideIt (HV10.out.next HB11.out)
                have HR11 := hideIt (RSt.next HR10.out HB11.out)
                have hs11 := HB11.out.size
                go_wp2
                exact ⟨⟨k + 1, .ok k5, ⟨#[]⟩, by omega, by go_num, rfl, Or.inl rfl, HOK.out, HR11.out, HV11.out, by omega⟩, by simp [intOf]; omega⟩
              · have hv6 : v6 = .nilIface := by
                  have e : endOf bs (.ok k5) = none := if_neg hk5
                  rw [e] at he6; exact he6
                subst hv6
                clear he6
                go_wp2_with fail
                refine (Text_nil x6).mono ?_
                rintro e x7 ⟨rfl, hb7⟩
                have HV7 := hideIt (HV6.out.next hb7)
                have HR7 := hideIt (RSt.next HR6.out hb7)
                have hs7 := hb7.size
                clear hb7
                go_wp2_with fail
                refine (rEnd_any p (fun k => k ≠ p) bs (.ok k5) x7 HR7.out (fun k hk => by omega) (by omega)).mono ?_
                rintro e x8 ⟨v8, rfl, he8, hb8⟩
                have hv8 : v8 = .nilIface := by
                  have e : endOf bs (.ok k5) = none := if_neg hk5
                  rw [e] at he8; exact he8
                subst hv8
                have HV8 := hideIt (HV7.out.next hb8)
                have HR8 := hideIt (RSt.next HR7.out hb8)
                have hs8 := hb8.size
                clear he8 hb8
                go_wp2_with fail
                refine (Code_nil x8).mono ?_
                rintro e x9 ⟨rfl, hb9⟩
                have HV9 := hideIt (HV8.out.next hb9)
                have HR9 := hideIt (RSt.next HR8.out hb9)
                have hs9 := hb9.size
                clear hb9
                go_wp2
                exact ⟨⟨k + 1, .ok k5, ⟨#[]⟩, by omega, by go_num, rfl, Or.inl rfl, HOK.out, HR9.out, HV9.out, by omega⟩, by simp [intOf]; omega⟩
            | .error b, HOK, HR6, he6 =>
              obtain ⟨be, bn, bj⟩ := b
              have HOKb : Hid (ErrOk (be, bn, bj)) := HOK.out
              have HO6 : Hid (One x6 (fun k => k ≠ p) v6 be bn bj) := he6
              have HA6 := hideIt (HV6.out.at HO6.out)
              obtain ⟨ty, y, rfl⟩ := HO6.out.iface
              have hne0 : ¬ be = 0 := by rcases HOKb.out.1 with h | h | h <;> (simp only at h; omega)
              have hne22 : ¬ be = 22 := by rcases HOKb.out.1 with h | h | h <;> (simp only at h; omega)
              have hbe0 : (be == 0) = false := by simpa using hne0
              have hbe22 : (be == 22) = false := by simpa using hne22
              have HLEN := hideIt (one_len (be, bn, bj) HOKb.out)
              clear he6
              go_wp2_with fail
              refine (HA6.out.text HLEN.out.2.2 (by simp) HLEN.out.2.1 HLEN.out.1).mono ?_
              rintro e x7 ⟨he, H7, HB7⟩
              have he2 : e = .returned (.string (oneText (be, bn, bj))) := he
              subst he2
              obtain ⟨S, hS⟩ : ∃ S, S = oneText (be, bn, bj) := ⟨_, rfl⟩
              rw [← hS]
              have HSS := hideIt hS
              have HV7 := hideIt (HV6.out.next HB7.out)
              have HR7 := hideIt (RSt.next HR6.out HB7.out)
              have hs7 := HB7.out.size
              clear he hS
              go_wp2_with fail
              refine (rEnd_any p (fun k => k ≠ p) bs (.error (be, bn, bj)) x7 HR7.out (fun k hk => by omega) (by omega)).mono ?_
              rintro e x8 ⟨v8, rfl, he8, hb8⟩
              have HO8 : Hid (One x8 (fun k => k ≠ p) v8 be bn bj) := he8
              have HV8 := hideIt (HV7.out.next hb8)
              have HR8 := hideIt (RSt.next HR7.out hb8)
              have HA8 := hideIt (HV8.out.at HO8.out)
              obtain ⟨ty8, y8, rfl⟩ := HO8.out.iface
              have hs8 := hb8.size
              clear he8 hb8
              go_wp2_with fail
              refine HA8.out.code.mono ?_
              rintro e x9 ⟨rfl, H9, HB9⟩
              have HV9 := hideIt (HV8.out.next HB9.out)
              have HR9 := hideIt (RSt.next HR8.out HB9.out)
              have hs9 := HB9.out.size
              go_wp2_with fail
              refine (rEnd_any p (fun k => k ≠ p) bs (.error (be, bn, bj)) x9 HR9.out (fun k hk => by omega) (by omega)).mono ?_
              rintro e x10 ⟨v10, rfl, he10, hb10⟩
              have HO10 : Hid (One x10 (fun k => k ≠ p) v10 be bn bj) := he10
              have HV10 := hideIt (HV9.out.next hb10)
              have HR10 := hideIt (RSt.next HR9.out hb10)
              have HA10 := hideIt (HV10.out.at HO10.out)
              obtain ⟨ty10, y10, rfl⟩ := HO10.out.iface
              have hs10 := hb10.size
              clear he10 hb10
              go_wp2_with fail
              refine HA10.out.code.mono ?_
              rintro e x11 ⟨rfl, H11, HB11⟩
              have HV11 := hideIt (HV10.out.next HB11.out)
              have HR11 := hideIt (RSt.next HR10.out HB11.out)
              have hs11 := HB11.out.size
              go_wp2
              all_goals first | exact ⟨⟨k + 1, .error (be, bn, bj), S, by omega, by go_num, rfl, Or.inr ⟨_, rfl, HSS.out⟩, HOKb.out, HR11.out, HV11.out, by omega⟩, by simp [intOf]; omega⟩ | exact ⟨⟨k + 1, .error (be, bn, bj), ⟨#[]⟩, by omega, by go_num, rfl, Or.inl rfl, HOKb.out, HR11.out, HV11.out, by omega⟩, by simp [intOf]; omega⟩
          · obtain ⟨be, bn, bj⟩ := b
            have hq := HD.out _ rfl
            simp only [Prod.mk.injEq] at hq
            obtain ⟨rfl, rfl, rfl, rfl, rfl, rfl⟩ := hq
            have HOKb : Hid (ErrOk (be, bn, bj)) := HOK.out
            clear HD HOK HT
            have HO6 : Hid (One x6 (fun k => k ≠ p) v6 be bn bj) := he6
            have HA6 := hideIt (HV6.out.at HO6.out)
            obtain ⟨ty, y, rfl⟩ := HO6.out.iface
            have hne0 : ¬ be = 0 := by rcases HOKb.out.1 with h | h | h <;> (simp only at h; omega)
            have hne22 : ¬ be = 22 := by rcases HOKb.out.1 with h | h | h <;> (simp only at h; omega)
            have hbe0 : (be == 0) = false := by simpa using hne0
            have hbe22 : (be == 22) = false := by simpa using hne22
            have HLEN := hideIt (one_len (be, bn, bj) HOKb.out)
            clear he6
            go_wp2_with fail
            refine (HA6.out.text HLEN.out.2.2 (by simp) HLEN.out.2.1 HLEN.out.1).mono ?_
            rintro e x7 ⟨he, H7, HB7⟩
            have he2 : e = .returned (.string (oneText (be, bn, bj))) := he
            subst he2
            obtain ⟨S, hS⟩ : ∃ S, S = oneText (be, bn, bj) := ⟨_, rfl⟩
            rw [← hS]
            have HSS := hideIt hS
            have HV7 := hideIt (HV6.out.next HB7.out)
            have HR7 := hideIt (RSt.next HR6.out HB7.out)
            have hs7 := HB7.out.size
            clear he hS
            go_wp2_with fail
            all_goals
              refine (rEnd_any p (fun k => k ≠ p) bs (.error (be, bn, bj)) x7 HR7.out (fun k hk => by omega) (by omega)).mono ?_
              rintro e x8 ⟨v8, rfl, he8, hb8⟩
              have HO8 : Hid (One x8 (fun k => k ≠ p) v8 be bn bj) := he8
              have HV8 := hideIt (HV7.out.next hb8)
              have HR8 := hideIt (RSt.next HR7.out hb8)
              have HA8 := hideIt (HV8.out.at HO8.out)
              obtain ⟨ty8, y8, rfl⟩ := HO8.out.iface
              have hs8 := hb8.size
              clear he8 hb8
              go_wp2_with fail
              refine HA8.out.code.mono ?_
              rintro e x9 ⟨rfl, H9, HB9⟩
              have HV9 := hideIt (HV8.out.next HB9.out)
              have HR9 := hideIt (RSt.next HR8.out HB9.out)
              have hs9 := HB9.out.size
              go_wp2_with fail
              refine (rEnd_any p (fun k => k ≠ p) bs (.error (be, bn, bj)) x9 HR9.out (fun k hk => by omega) (by omega)).mono ?_
              rintro e x10 ⟨v10, rfl, he10, hb10⟩
              have HO10 : Hid (One x10 (fun k => k ≠ p) v10 be bn bj) := he10
              have HV10 := hideIt (HV9.out.next hb10)
              have HR10 := hideIt (RSt.next HR9.out hb10)
              have HA10 := hideIt (HV10.out.at HO10.out)
              obtain ⟨ty10, y10, rfl⟩ := HO10.out.iface
              have hs10 := hb10.size
              clear he10 hb10
              go_wp2_with fail
              refine HA10.out.code.mono ?_
              rintro e x11 ⟨rfl, H11, HB11⟩
              have HV11 := hideIt (HV10.out.next HB11.out)
              have HR11 := hideIt (RSt.next HR10.out HB11.out)
              have hs11 := HB11.out.size
              go_wp2
              all_goals first | exact ⟨⟨k + 1, .error (be, bn, bj), S, by omega, by go_num, rfl, Or.inr ⟨_, rfl, HSS.out⟩, HOKb.out, HR11.out, HV11.out, by omega⟩, by simp [intOf]; omega⟩ | exact ⟨⟨k + 1, .error (be, bn, bj), ⟨#[]⟩, by omega, by go_num, rfl, Or.inl rfl, HOKb.out, HR11.out, HV11.out, by omega⟩, by simp [intOf]; omega⟩
        · go_wp2
          go_ret
          exact ⟨rfl, HV.out.1⟩
  · go_wp2
    go_ret
    exact ⟨rfl, HV2.out.1⟩
end Go.Proofs.YtaaaibnalhmmgaaDoor
