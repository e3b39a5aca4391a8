/-
  What is proved here: the walk of cohortlaw07.StoreKeys, over this program.
-/
import Derived.Test.YtddmjbmfkdhhgaaDoorLSPuts
import Derived.BigQuiet
namespace Go.Proofs.YtddmjbmfkdhhgaaDoor
open Go.RowKit Go.Extern.Stop Go.Stop Go.Extern

def TherK (l : List Ent) (x : Ent) (key : List UInt8) (k : Nat) (t : Bool) : Prop := (t = true → x.1 = key ∧ ∃ i : Nat, l[i]? = some x) ∧ (x.1 = key → ∀ i : Nat, i < k → l[i]? = some x → t = true)
def CntK (l : List Ent) (fk tk : List UInt8) (k m : Nat) : Prop := m = ((l.take k).filter (inR fk tk)).length
theorem TherK.up {l : List Ent} {x e : Ent} {key : List UInt8} {k : Nat} {t : Bool} (h : TherK l x key k t) (he : l[k]? = some e) : (t = true → TherK l x key (k + 1) true) ∧ (e.1 ≠ key ∨ e ≠ x → TherK l x key (k + 1) t) ∧ (e.1 = key → e = x → TherK l x key (k + 1) true) := by
  refine ⟨fun ht => ⟨fun _ => h.1 ht, fun _ _ _ _ => rfl⟩, fun hne => ⟨h.1, fun hk i hi hx => ?_⟩, fun h1 h2 => ⟨fun _ => ⟨h2 ▸ h1, k, h2 ▸ he⟩, fun _ _ _ _ => rfl⟩⟩
  by_cases hc : i = k
  · subst hc
    rw [he] at hx
    cases hx
    rcases hne with hne | hne
    · exact absurd hk hne
    · exact absurd rfl hne
  · exact h.2 hk i (by omega) hx
theorem TherK.is {l : List Ent} {x : Ent} {key : List UInt8} {t is : Bool} (h : TherK l x key l.length t) (hg : GetIs l key x is) : is = t := by
  rcases hg with ⟨rfl, h1, i, h2⟩ | ⟨rfl, h1, h2⟩
  · exact (h.2 h1 i (List.getElem?_eq_some_iff.1 h2).1 h2).symm
  · cases t with
    | false => rfl
    | true =>
      obtain ⟨h3, i, h4⟩ := h.1 rfl
      exact absurd h3 (h2 i x h4)
theorem CntK.up {l : List Ent} {fk tk : List UInt8} {k m : Nat} {e : Ent} (h : CntK l fk tk k m) (he : l[k]? = some e) : (inR fk tk e = true → CntK l fk tk (k + 1) (m + 1) ∧ m < (l.filter (inR fk tk)).length ∧ (l.filter (inR fk tk))[m]? = some e) ∧ (inR fk tk e = false → CntK l fk tk (k + 1) m) := by
  unfold CntK at h ⊢
  have h1 : l.take (k + 1) = l.take k ++ [e] := by rw [List.take_add_one, he]; rfl
  rw [h1, List.filter_append, List.length_append]
  refine ⟨fun hi => ?_, fun hi => by simp [hi, h]⟩
  have hk := (List.getElem?_eq_some_iff.1 he).1
  have h2 : l = l.take k ++ (e :: l.drop (k + 1)) := by
    rw [List.getElem?_eq_getElem hk] at he
    cases he
    rw [List.getElem_cons_drop, List.take_append_drop]
  have h3 : l.filter (inR fk tk) = (l.take k).filter (inR fk tk) ++ e :: (l.drop (k + 1)).filter (inR fk tk) := by
    conv => lhs; rw [h2]
    rw [List.filter_append, List.filter_cons_of_pos hi]
  have h4 : (l.filter (inR fk tk))[m]? = some e := by rw [h3, h]; simp
  exact ⟨by simp [hi, h], (List.getElem?_eq_some_iff.1 h4).1, h4⟩
theorem CntK.all {l : List Ent} {fk tk : List UInt8} {m : Nat} (h : CntK l fk tk l.length m) : m = (l.filter (inR fk tk)).length := by unfold CntK at h; rw [List.take_length] at h; exact h
theorem ents_below {w w' : World} {A : Nat → Prop} {v : Value} {l : List Ent} (h : EntsIn w A v l) (hb : Below w.heap.size w w') : EntsIn w' (fun _ => True) v l :=
  RowIn.mono ((RowIn.mono (A' := (· < w.heap.size)) h (fun _ _ h => h)).kept (Kept.of_below hb (fun _ h _ => h))) (fun _ _ _ => trivial)

set_option maxRecDepth 100000 in
set_option maxHeartbeats 16000000 in
theorem skeys_true (v : Value) (l : List Ent) (key fk tk : List UInt8) (w : World) (hv : EntsIn w (· < w.heap.size) v l) (hn : l.length ≤ maxLen) (hg : ET w) (ht : PT w) :
    Calls Tryd.prog 7 #[v, .string ⟨key.toArray⟩, .string ⟨fk.toArray⟩, .string ⟨tk.toArray⟩] w fun e w' => e = .returned (.bool true) ∧ Below w.heap.size w w' := by
  have HV0 : Hid (Env w w) := ⟨Below.refl _ _, hg, ht⟩
  have HH := hideIt (head07_true w hg ht)
  have HA := hideIt (And.intro hv hn)
  obtain ⟨a, cap, rfl⟩ := hv.form
  clear hg ht hv hn
  go_enter Tryd.func7, Tryd.ntmps7
  go_wp2_with fail
  refine HH.out.mono ?_
  rintro e w1 ⟨rfl, hb1⟩
  have HV1 := hideIt (HV0.out.next hb1)
  have HA1 := hideIt (HA.out.1.kept (Kept.of_below hb1 (fun _ h _ => h)))
  clear hb1 HH
  go_wp2_with fail
  refine (stof_any w1 _ _ l HA1.out HA.out.2).mono ?_
  rintro e w2 (⟨hf, p, rfl, hns⟩ | ⟨_, rfl, hb2⟩)
  case inr =>
    have HV2 := hideIt (HV1.out.next hb2)
    clear hb2
    go_wp2
    go_ret
    exact ⟨rfl, HV2.out.1⟩
  have HS2 := hideIt (Ss.new HV1.out hns)
  obtain ⟨O2, hO2⟩ : ∃ O2 : Nat → Prop, O2 = fun k => w1.heap.size ≤ k ∧ k < w2.heap.size := ⟨_, rfl⟩
  rw [← hO2] at HS2
  have HF := hideIt hf
  have HL := hideIt (show l.length ≤ 100000 by have := hf.1; omega)
  clear hns hf hO2 HA1 HV0 HV1
  go_wp2_with fail
  refine (great07_any _ l w2 a cap rfl).mono ?_
  rintro e w3 ⟨⟨g, rfl, _⟩, hb3⟩
  have HS3 := hideIt (HS2.out.next hb3)
  clear hb3 HS2
  cases g with
  | true =>
    go_wp2
    go_ret
    exact ⟨rfl, HS3.out.env.1⟩
  | false =>
  go_wp2_with fail
  refine (stget_any w3 p O2 l key HS3.out.sto HF.out.rising HL.out).mono ?_
  rintro e w4 ⟨x, is, rfl, hgo, hb4⟩
  have HGO := hideIt hgo
  unfold entV
  obtain ⟨W4, hW, hwb, _, y0, y1, y2⟩ := room3 w4 28 (.string ⟨x.1.toArray⟩) (.string ⟨x.2.1.toArray⟩) (.int .i64 x.2.2)
  have HS4 := hideIt ((HS3.out.next hb4).next hwb)
  have HY4 : Hid (R3 W4 w4.heap.size (.string ⟨x.1.toArray⟩) (.string ⟨x.2.1.toArray⟩) (.int .i64 x.2.2)) := hideIt ⟨y0, y1, y2⟩
  clear hgo hb4 hwb y0 y1 y2 HS3
  go_wp2_with fail
  rw [← hW]
  clear hW
  refine (strange_any W4 p O2 l [] [] HS4.out.sto HF.out.rising (by have := HF.out.1; omega)).mono ?_
  rintro e w5 ⟨vr, rfl, hrow, hb5⟩
  rw [all_in] at hrow
  have hin := own_in hrow
  obtain ⟨ar, cr, rfl⟩ := own_form hrow
  have HR5 : Hid (EntsIn w5 _ (.slice ar l.length cr) l) := hideIt hin
  have HS5 := hideIt (HS4.out.next hb5)
  have HY5 := hideIt (HY4.out.next hb5)
  clear hrow hb5 HS4 HY4 hin
  go_wp2_with fail
  refine (strange_any w5 p O2 l fk tk HS5.out.sto HF.out.rising (by have := HF.out.1; omega)).mono ?_
  rintro e w6 ⟨vr, rfl, hrow, hb6⟩
  have hin := own_in hrow
  obtain ⟨aS, cS, rfl⟩ := own_form hrow
  have HT6 : Hid (EntsIn w6 _ (.slice aS (l.filter (inR fk tk)).length cS) (l.filter (inR fk tk))) := hideIt hin
  have HR6 := hideIt (ents_below HR5.out hb6)
  have HS6 := hideIt (HS5.out.next hb6)
  have HY6 := hideIt (HY5.out.next hb6)
  have HA6 := hideIt (HA.out.1.kept (Kept.of_below HS6.out.env.1 (fun _ h _ => h)))
  have HM := hideIt (List.length_filter_le (inR fk tk) l)
  obtain ⟨M, hMM⟩ : ∃ M, M = (l.filter (inR fk tk)).length := ⟨_, rfl⟩
  rw [← hMM] at HT6 HM ⊢
  have HMM := hideIt hMM
  have hlb := HF.out.1
  clear hrow hb6 HS5 HY5 hin HR5 hMM
  have y0 := HY6.out.1
  have y1 := HY6.out.2.1
  have y2 := HY6.out.2.2
  go_wp2
  go_loopw [15, 16, 17] (fun tv nv iv wr => ∃ (t : Bool) (m k : Nat), k ≤ l.length ∧ m ≤ k ∧ tv = .bool t ∧ nv = .int .i64 m ∧ iv = .int .i64 k ∧ Hid (TherK l x key k t) ∧ Hid (CntK l fk tk k m) ∧ Hid (Below w6.heap.size w6 wr)) (fun _ _ iv _ => l.length - (intOf iv).toNat)
  case atStart => exact ⟨false, 0, 0, Nat.zero_le _, Nat.le_refl _, rfl, rfl, rfl, hideIt ⟨fun h => (by cases h), fun _ i h _ => (by omega)⟩, hideIt (by simp [CntK]), Below.refl _ _⟩
  case round =>
    obtain ⟨t, m, k, hk, hmk, rfl, rfl, rfl, HT, HC, HB⟩ := hrel
    by_cases hlt : k < l.length
    case neg =>
      obtain rfl : k = l.length := by omega
      obtain rfl := HT.out.is HGO.out
      obtain rfl := HC.out.all.trans HMM.out.symm
      have HSZ := hideIt (HS6.out.next HB.out)
      have HRZ := hideIt (ents_below HR6.out HB.out)
      clear HT HC y0 y1 y2
      go_wp2_with fail
      refine (Same06_any _ _ _ _ l l _ HRZ.out (ents_below HA6.out HB.out) (by unfold maxLen; omega)).mono ?_
      rintro e wz ⟨rfl, hbz⟩
      rw [decide_eq_true (rfl : l = l)]
      have HSE := hideIt (HSZ.out.next hbz)
      clear hbz HSZ HRZ
      go_wp2
      go_ret
      exact ⟨rfl, HSE.out.env.1⟩
    case pos =>
      obtain ⟨e, he⟩ : ∃ e, l[k]? = some e := ⟨l[k], by simp [hlt]⟩
      have t0 := (HB.out.cell (lt_of_cell y0)).trans y0
      have t1 := (HB.out.cell (lt_of_cell y1)).trans y1
      have t2 := (HB.out.cell (lt_of_cell y2)).trans y2
      have HRK := hideIt (ents_below HR6.out HB.out)
      obtain ⟨b, off, rfl, _, e0, e1, e2⟩ := EntsIn.at HRK.out he
      have HTU := hideIt (HT.out.up he)
      have HCU := hideIt (HC.out.up he)
      clear HT HC
      have hgeq := leq_iff fk e.1
      cases r1 : Op.bytesLess e.1 fk with
      | true =>
        rw [r1] at hgeq
        have HIN : Hid (CntK l fk tk (k + 1) m) := hideIt (HCU.out.2 (by unfold inR; rw [r1]; rfl))
        cases t with
        | true =>
          have HTZ := hideIt (HTU.out.1 rfl)
          go_wp2_with fail
          go_quiet (fail)
          have HB3 := hideIt (HB.out.trans ((below_drewN wr nq).mono HB.out.size))
          go_wp2
          exact ⟨⟨_, m, k + 1, by omega, by omega, rfl, rfl, by go_num, HTZ, HIN, HB3.out⟩, by simp [intOf]; omega⟩
        | false =>
          cases hq : e.1 == key with
          | false =>
            have HTZ := hideIt (HTU.out.2.1 (Or.inl (by intro h; rw [h] at hq; simp at hq)))
            go_wp2_with fail
            go_quiet (fail)
            have HB3 := hideIt (HB.out.trans ((below_drewN wr nq).mono HB.out.size))
            go_wp2
            exact ⟨⟨_, m, k + 1, by omega, by omega, rfl, rfl, by go_num, HTZ, HIN, HB3.out⟩, by simp [intOf]; omega⟩
          | true =>
            have heqx := fun w => eq_ent e x w
            by_cases hex : e = x
            · have HTZ := hideIt (HTU.out.2.2 (eq_of_beq hq) hex)
              rw [show decide (e = x) = true from decide_eq_true hex] at heqx
              clear hex
              go_wp2_with fail
              go_quiet (fail)
              have HB3 := hideIt (HB.out.trans ((below_drewN wr nq).mono HB.out.size))
              go_wp2
              exact ⟨⟨_, m, k + 1, by omega, by omega, rfl, rfl, by go_num, HTZ, HIN, HB3.out⟩, by simp [intOf]; omega⟩
            · have HTZ := hideIt (HTU.out.2.1 (Or.inr hex))
              rw [show decide (e = x) = false from decide_eq_false hex] at heqx
              go_wp2_with fail
              go_quiet (fail)
              have HB3 := hideIt (HB.out.trans ((below_drewN wr nq).mono HB.out.size))
              go_wp2
              exact ⟨⟨_, m, k + 1, by omega, by omega, rfl, rfl, by go_num, HTZ, HIN, HB3.out⟩, by simp [intOf]; omega⟩
      | false =>
        rw [r1] at hgeq
        cases r2 : tk == [] with
        | true =>
          have HIN := hideIt (HCU.out.1 (by unfold inR upB; rw [r1, r2]; rfl))
          obtain ⟨b2, off2, rfl, _, f0, f1, f2⟩ := EntsIn.at (ents_below HT6.out HB.out) (by have := HIN.out.2.2; exact this)
          have hmM : m < M := by have := HIN.out.2.1; rw [← HMM.out] at this; exact this
          have hdm : decide ((M : Int) ≤ (m : Int)) = false := decide_eq_false (by omega)
          have hneq := fun w => neq_ent e e w
          rw [show decide (e = e) = true from decide_eq_true rfl] at hneq
          cases t with
          | true =>
            have HTZ := hideIt (HTU.out.1 rfl)
            go_wp2_with fail
            go_quiet (fail)
            go_wp2_with fail
            go_quiet (fail)
            go_wp2
            exact ⟨⟨_, m + 1, k + 1, by omega, by omega, rfl, by go_num, by go_num, HTZ, hideIt HIN.out.1, HB.out.trans ((below_drewN wr _).mono HB.out.size)⟩, by simp [intOf]; omega⟩
          | false =>
            cases hq : e.1 == key with
            | false =>
              have HTZ := hideIt (HTU.out.2.1 (Or.inl (by intro h; rw [h] at hq; simp at hq)))
              go_wp2_with fail
              go_quiet (fail)
              go_wp2_with fail
              go_quiet (fail)
              go_wp2
              exact ⟨⟨_, m + 1, k + 1, by omega, by omega, rfl, by go_num, by go_num, HTZ, hideIt HIN.out.1, HB.out.trans ((below_drewN wr _).mono HB.out.size)⟩, by simp [intOf]; omega⟩
            | true =>
              have heqx := fun w => eq_ent e x w
              by_cases hex : e = x
              · have HTZ := hideIt (HTU.out.2.2 (eq_of_beq hq) hex)
                rw [show decide (e = x) = true from decide_eq_true hex] at heqx
                clear hex
                go_wp2_with fail
                go_quiet (fail)
                go_wp2_with fail
                go_quiet (fail)
                go_wp2
                exact ⟨⟨_, m + 1, k + 1, by omega, by omega, rfl, by go_num, by go_num, HTZ, hideIt HIN.out.1, HB.out.trans ((below_drewN wr _).mono HB.out.size)⟩, by simp [intOf]; omega⟩
              · have HTZ := hideIt (HTU.out.2.1 (Or.inr hex))
                rw [show decide (e = x) = false from decide_eq_false hex] at heqx
                go_wp2_with fail
                go_quiet (fail)
                go_wp2_with fail
                go_quiet (fail)
                go_wp2
                exact ⟨⟨_, m + 1, k + 1, by omega, by omega, rfl, by go_num, by go_num, HTZ, hideIt HIN.out.1, HB.out.trans ((below_drewN wr _).mono HB.out.size)⟩, by simp [intOf]; omega⟩
        | false =>
          cases r3 : Op.bytesLess e.1 tk with
          | true =>
            have HIN := hideIt (HCU.out.1 (by unfold inR upB; rw [r1, r2, r3]; rfl))
            obtain ⟨b2, off2, rfl, _, f0, f1, f2⟩ := EntsIn.at (ents_below HT6.out HB.out) (by have := HIN.out.2.2; exact this)
            have hmM : m < M := by have := HIN.out.2.1; rw [← HMM.out] at this; exact this
            have hdm : decide ((M : Int) ≤ (m : Int)) = false := decide_eq_false (by omega)
            have hneq := fun w => neq_ent e e w
            rw [show decide (e = e) = true from decide_eq_true rfl] at hneq
            cases t with
            | true =>
              have HTZ := hideIt (HTU.out.1 rfl)
              go_wp2_with fail
              go_quiet (fail)
              go_wp2_with fail
              go_quiet (fail)
              go_wp2
              exact ⟨⟨_, m + 1, k + 1, by omega, by omega, rfl, by go_num, by go_num, HTZ, hideIt HIN.out.1, HB.out.trans ((below_drewN wr _).mono HB.out.size)⟩, by simp [intOf]; omega⟩
            | false =>
              cases hq : e.1 == key with
              | false =>
                have HTZ := hideIt (HTU.out.2.1 (Or.inl (by intro h; rw [h] at hq; simp at hq)))
                go_wp2_with fail
                go_quiet (fail)
                go_wp2_with fail
                go_quiet (fail)
                go_wp2
                exact ⟨⟨_, m + 1, k + 1, by omega, by omega, rfl, by go_num, by go_num, HTZ, hideIt HIN.out.1, HB.out.trans ((below_drewN wr _).mono HB.out.size)⟩, by simp [intOf]; omega⟩
              | true =>
                have heqx := fun w => eq_ent e x w
                by_cases hex : e = x
                · have HTZ := hideIt (HTU.out.2.2 (eq_of_beq hq) hex)
                  rw [show decide (e = x) = true from decide_eq_true hex] at heqx
                  clear hex
                  go_wp2_with fail
                  go_quiet (fail)
                  go_wp2_with fail
                  go_quiet (fail)
                  go_wp2
                  exact ⟨⟨_, m + 1, k + 1, by omega, by omega, rfl, by go_num, by go_num, HTZ, hideIt HIN.out.1, HB.out.trans ((below_drewN wr _).mono HB.out.size)⟩, by simp [intOf]; omega⟩
                · have HTZ := hideIt (HTU.out.2.1 (Or.inr hex))
                  rw [show decide (e = x) = false from decide_eq_false hex] at heqx
                  go_wp2_with fail
                  go_quiet (fail)
                  go_wp2_with fail
                  go_quiet (fail)
                  go_wp2
                  exact ⟨⟨_, m + 1, k + 1, by omega, by omega, rfl, by go_num, by go_num, HTZ, hideIt HIN.out.1, HB.out.trans ((below_drewN wr _).mono HB.out.size)⟩, by simp [intOf]; omega⟩
          | false =>
            have HIN : Hid (CntK l fk tk (k + 1) m) := hideIt (HCU.out.2 (by unfold inR upB; rw [r1, r2, r3]; rfl))
            cases t with
            | true =>
              have HTZ := hideIt (HTU.out.1 rfl)
              go_wp2_with fail
              go_quiet (fail)
              have HB3 := hideIt (HB.out.trans ((below_drewN wr nq).mono HB.out.size))
              go_wp2
              exact ⟨⟨_, m, k + 1, by omega, by omega, rfl, rfl, by go_num, HTZ, HIN, HB3.out⟩, by simp [intOf]; omega⟩
            | false =>
              cases hq : e.1 == key with
              | false =>
                have HTZ := hideIt (HTU.out.2.1 (Or.inl (by intro h; rw [h] at hq; simp at hq)))
                go_wp2_with fail
                go_quiet (fail)
                have HB3 := hideIt (HB.out.trans ((below_drewN wr nq).mono HB.out.size))
                go_wp2
                exact ⟨⟨_, m, k + 1, by omega, by omega, rfl, rfl, by go_num, HTZ, HIN, HB3.out⟩, by simp [intOf]; omega⟩
              | true =>
                have heqx := fun w => eq_ent e x w
                by_cases hex : e = x
                · have HTZ := hideIt (HTU.out.2.2 (eq_of_beq hq) hex)
                  rw [show decide (e = x) = true from decide_eq_true hex] at heqx
                  clear hex
                  go_wp2_with fail
                  go_quiet (fail)
                  have HB3 := hideIt (HB.out.trans ((below_drewN wr nq).mono HB.out.size))
                  go_wp2
                  exact ⟨⟨_, m, k + 1, by omega, by omega, rfl, rfl, by go_num, HTZ, HIN, HB3.out⟩, by simp [intOf]; omega⟩
                · have HTZ := hideIt (HTU.out.2.1 (Or.inr hex))
                  rw [show decide (e = x) = false from decide_eq_false hex] at heqx
                  go_wp2_with fail
                  go_quiet (fail)
                  have HB3 := hideIt (HB.out.trans ((below_drewN wr nq).mono HB.out.size))
                  go_wp2
                  exact ⟨⟨_, m, k + 1, by omega, by omega, rfl, rfl, by go_num, HTZ, HIN, HB3.out⟩, by simp [intOf]; omega⟩
end Go.Proofs.YtddmjbmfkdhhgaaDoor
