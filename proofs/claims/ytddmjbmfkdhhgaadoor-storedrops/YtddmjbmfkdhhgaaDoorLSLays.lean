/-
  What is proved here: the walk of cohortlaw07.StoreLays, over this program.
-/
import Derived.Test.YtddmjbmfkdhhgaaDoorLSKeys
import Derived.Test.YtddmjbmfkdhhgaaDoorEM
namespace Go.Proofs.YtddmjbmfkdhhgaaDoor
open Go.RowKit Go.Extern.Stop Go.Stop Go.Extern

theorem lay_nil {w' : World} {B : Nat} {er : Value} {l L l' : List Ent} (h : LayIs l L w' B er l') : (∃ ty y, er = .iface ty y ∧ l' = l) ∨ (er = .nilIface ∧ Mrg l L l' ∧ Fit L) := by
  rcases h with ⟨n, ho, e, _⟩ | ⟨h, hf, hm, _⟩
  · obtain ⟨ty, y, rfl⟩ := ho.iface
    exact Or.inl ⟨ty, y, rfl, e⟩
  · exact Or.inr ⟨h, hm, hf⟩
theorem LayIs.fit {w' : World} {B : Nat} {er : Value} {l L l' : List Ent} (h : LayIs l L w' B er l') (hf : Fit l) : Fit l' := by
  rcases h with ⟨n, _, rfl, _⟩ | ⟨_, _, _, h⟩
  · exact hf
  · exact h
theorem get_mem {l : List Ent} {e x : Ent} {is : Bool} (hr : Rising l) (he : e ∈ l) (h : GetIs l e.1 x is) : x = e ∧ is = true := by
  obtain ⟨i, hi⟩ := List.getElem?_of_mem he
  exact GetIs.one hr (Or.inl ⟨rfl, rfl, i, hi⟩) h

def LaidTo (L : List Ent) (e : Ent) (j : Nat) (t : Bool) : Prop := t = (L.take j).any (fun y => y.1 == e.1)
theorem LaidTo.up {L : List Ent} {e y : Ent} {j : Nat} {t : Bool} (h : LaidTo L e j t) (hy : L[j]? = some y) : LaidTo L e (j + 1) (t || y.1 == e.1) := by
  unfold LaidTo at h ⊢
  rw [List.take_add_one, hy, List.any_append, ← h]; simp
theorem LaidTo.all {L : List Ent} {e : Ent} {t : Bool} (h : LaidTo L e L.length t) : unlaid L e = !t := by
  unfold LaidTo at h; rw [List.take_length] at h; rw [h]; rfl
def CntL (L l : List Ent) (i m : Nat) : Prop := m = L.length + ((l.take i).filter (unlaid L)).length
theorem CntL.up {L l : List Ent} {i m : Nat} {e : Ent} (h : CntL L l i m) (he : l[i]? = some e) : (unlaid L e = true → CntL L l (i + 1) (m + 1)) ∧ (unlaid L e = false → CntL L l (i + 1) m) := by
  unfold CntL at h ⊢
  rw [List.take_add_one, he, List.filter_append, List.length_append]
  refine ⟨fun hu => ?_, fun hu => ?_⟩
  · simp [hu]; omega
  · simp [hu]; omega

set_option maxRecDepth 100000 in
set_option maxHeartbeats 16000000 in
theorem slays_true (v : Value) (l : List Ent) (v1 : Value) (L : List Ent) (more : Nat) (w : World) (hv : EntsIn w (· < w.heap.size) v l) (hn : l.length ≤ maxLen) (hv1 : EntsIn w (· < w.heap.size) v1 L) (hn1 : L.length ≤ maxLen) (hcap1 : ∀ a c, v1 = .slice a L.length c → L.length ≤ c) (hm : more < 256) (hg : ET w) (ht : PT w) :
    Calls Tryd.prog 6 #[v, v1, .int .u8 more] w fun e w' => e = .returned (.bool true) ∧ Below w.heap.size w w' := by
  have HV0 : Hid (Env w w) := ⟨Below.refl _ _, hg, ht⟩
  have HH := hideIt (head07_true w hg ht)
  have HA := hideIt (And.intro hv hn)
  have HL := hideIt (And.intro hv1 (And.intro hn1 hcap1))
  obtain ⟨a, cap, rfl⟩ := hv.form
  obtain ⟨aL, capL, rfl⟩ := hv1.form
  clear hg ht hv hn hv1 hn1 hcap1
  go_enter Tryd.func6, Tryd.ntmps6
  go_wp2_with fail
  refine HH.out.mono ?_
  rintro e w1 ⟨rfl, hb1⟩
  have HV1 := hideIt (HV0.out.next hb1)
  have HA1 := hideIt (HA.out.1.kept (Kept.of_below hb1 (fun _ h _ => h)))
  clear hb1 HH
  go_wp2_with fail
  refine (stof_any w1 _ _ l HA1.out HA.out.2).mono ?_
  rintro e w2 (⟨hf, p, rfl, hns⟩ | ⟨_, rfl, hb2⟩)
  case inr =>
    have HV2 := hideIt (HV1.out.next hb2)
    clear hb2
    go_wp2
    go_ret
    exact ⟨rfl, HV2.out.1⟩
  have HS2 := hideIt (Ss.new HV1.out hns)
  obtain ⟨O2, hO2⟩ : ∃ O2 : Nat → Prop, O2 = fun k => w1.heap.size ≤ k ∧ k < w2.heap.size := ⟨_, rfl⟩
  rw [← hO2] at HS2
  have HF := hideIt hf
  clear hns hf hO2 HA1 HV0 HV1
  go_wp2_with fail
  refine (great07_any _ l w2 a cap rfl).mono ?_
  rintro e w3 ⟨⟨g, rfl, _⟩, hb3⟩
  have HS3 := hideIt (HS2.out.next hb3)
  clear hb3 HS2
  cases g with
  | true =>
    go_wp2
    go_ret
    exact ⟨rfl, HS3.out.env.1⟩
  | false =>
  go_wp2_with fail
  refine (great07_any _ L w3 aL capL rfl).mono ?_
  rintro e w4 ⟨⟨g, rfl, _⟩, hb4⟩
  have HS4 := hideIt (HS3.out.next hb4)
  clear hb4 HS3
  cases g with
  | true =>
    go_wp2
    go_ret
    exact ⟨rfl, HS4.out.env.1⟩
  | false =>
  have HL4 := hideIt (HL.out.1.kept (Kept.of_below HS4.out.env.1 (fun _ h _ => h)))
  go_wp2_with fail
  refine (stlay_any w4 p O2 _ l L _ HS4.out.sto HF.out HL4.out HL.out.2.1 HL.out.2.2).mono ?_
  rintro e w5 ⟨er, l', O5, rfl, hs5, hm5, hp5⟩
  have HS5 := hideIt (HS4.out.move hs5 hm5)
  have HF5 := hideIt (hp5.fit HF.out)
  have her := lay_nil hp5
  clear hs5 hm5 hp5 HS4 HL4
  have HLN := hideIt (show l'.length ≤ 1000 by have := HF5.out.1; omega)
  rcases her with ⟨ty, y, rfl, rfl⟩ | ⟨rfl, hmr, hfL⟩
  · go_wp2_with fail
    refine (strange_any w5 p O5 l' [] [] HS5.out.sto HF5.out.rising HLN.out).mono ?_
    rintro e w6 ⟨vr, rfl, hrow, hb6⟩
    rw [all_in] at hrow
    have HR6 : Hid (EntsIn w6 _ vr l') := hideIt (own_in hrow)
    have HS6 := hideIt (HS5.out.next hb6)
    clear hrow hb6 HS5
    have HA6 := hideIt (HA.out.1.kept (Kept.of_below HS6.out.env.1 (fun _ h _ => h)))
    go_wp2_with fail
    refine (Same06_any _ _ _ _ l' l' _ HR6.out HA6.out (by have := HLN.out; unfold maxLen; omega)).mono ?_
    rintro e wz ⟨rfl, hbz⟩
    rw [decide_eq_true (rfl : l' = l')]
    have HSE := hideIt (HS6.out.next hbz)
    clear hbz HS6 HR6 HA6
    go_wp2
    go_ret
    exact ⟨rfl, HSE.out.env.1⟩
  · have HM := hideIt (And.intro hmr hfL)
    have hLn := hfL.1
    clear hmr hfL
    go_wp2_with fail
    refine (strange_any w5 p O5 l' [] [] HS5.out.sto HF5.out.rising HLN.out).mono ?_
    rintro e w6 ⟨vr, rfl, hrow, hb6⟩
    rw [all_in] at hrow
    obtain ⟨ar, cr, rfl⟩ := own_form hrow
    have HS6 := hideIt (HS5.out.next hb6)
    clear hrow hb6 HS5
    go_wp2
    go_loopw [10] (fun iv wr => ∃ k : Nat, k ≤ L.length ∧ iv = .int .i64 k ∧ Hid (Ss w wr p O5 l')) (fun iv _ => L.length - (intOf iv).toNat)
    case atStart => exact ⟨0, Nat.zero_le _, rfl, HS6⟩
    case round =>
      obtain ⟨k, hk, rfl, HSR⟩ := hrel
      have HLR := hideIt (HL.out.1.kept (Kept.of_below HSR.out.env.1 (fun _ h _ => h)))
      by_cases hlt : k < L.length
      case pos =>
        obtain ⟨e, he⟩ : ∃ e, L[k]? = some e := ⟨L[k], by simp [hlt]⟩
        have HE := hideIt he
        obtain ⟨b, off, rfl, _, e0, e1, e2⟩ := EntsIn.at HLR.out he
        clear he
        go_wp2_with fail
        refine (stget_any wr p O5 l' e.1 HSR.out.sto HF5.out.rising (by have := HLN.out; omega)).mono ?_
        rintro ev w7 ⟨x, is, rfl, hgx, hb7⟩
        obtain ⟨rfl, rfl⟩ := get_mem HF5.out.rising (HM.out.1.laid e (List.mem_of_getElem? HE.out)) hgx
        unfold entV
        obtain ⟨W7, hW, hwb, _, y0, y1, y2⟩ := room3 w7 28 (.string ⟨x.1.toArray⟩) (.string ⟨x.2.1.toArray⟩) (.int .i64 x.2.2)
        have HS7 := hideIt ((HSR.out.next hb7).next hwb)
        have t0 := (hwb.cell (lt_of_cell ((hb7.cell (lt_of_cell e0)).trans e0))).trans ((hb7.cell (lt_of_cell e0)).trans e0)
        have t1 := (hwb.cell (lt_of_cell ((hb7.cell (lt_of_cell e1)).trans e1))).trans ((hb7.cell (lt_of_cell e1)).trans e1)
        have t2 := (hwb.cell (lt_of_cell ((hb7.cell (lt_of_cell e2)).trans e2))).trans ((hb7.cell (lt_of_cell e2)).trans e2)
        have hneq := fun w => neq_ent x x w
        rw [show decide (x = x) = true from decide_eq_true rfl] at hneq
        clear hgx hb7 hwb e0 e1 e2
        subst hW
        go_wp2_with fail
        go_quiet (fail)
        have HS8 := hideIt (HS7.out.next (below_drewN _ nq))
        clear HS7
        go_wp2
        exact ⟨⟨k + 1, by omega, by go_num, HS8⟩, by simp [intOf]; omega⟩
      case neg =>
        obtain rfl : k = L.length := by omega
        clear hlt hk HS6
        go_wp2
        go_loopw [13, 14] (fun nv iv wr2 => ∃ i m : Nat, i ≤ l.length ∧ m ≤ 128 + i ∧ iv = .int .i64 i ∧ nv = .int .i64 m ∧ Hid (CntL L l i m) ∧ Hid (Ss w wr2 p O5 l')) (fun _ iv _ => l.length - (intOf iv).toNat)
        case atStart => exact ⟨0, L.length, Nat.zero_le _, by omega, rfl, rfl, hideIt (by simp [CntL]), HSR⟩
        case round =>
          obtain ⟨i, m, hi, hmi, rfl, rfl, HC, HS2⟩ := hrel
          clear HSR HLR
          have hln := HF.out.1
          by_cases hli : i < l.length
          case pos =>
            obtain ⟨e, he⟩ : ∃ e, l[i]? = some e := ⟨l[i], by simp [hli]⟩
            have HCU := hideIt (HC.out.up he)
            have HE := hideIt he
            clear he HC
            go_wp2
            go_loopw [15, 16] (fun tv jv wr3 => ∃ (j : Nat) (t : Bool), j ≤ L.length ∧ jv = .int .i64 j ∧ tv = .bool t ∧ Hid (LaidTo L e j t) ∧ Hid (Ss w wr3 p O5 l')) (fun _ jv _ => L.length - (intOf jv).toNat)
            case atStart => exact ⟨0, false, Nat.zero_le _, rfl, rfl, hideIt (by simp [LaidTo]), HS2⟩
            case round =>
              obtain ⟨j, t, hj, rfl, rfl, HT, HS3⟩ := hrel
              clear HS2
              have HL3 := hideIt (HL.out.1.kept (Kept.of_below HS3.out.env.1 (fun _ h _ => h)))
              have HA3 := hideIt (HA.out.1.kept (Kept.of_below HS3.out.env.1 (fun _ h _ => h)))
              by_cases hlj : j < L.length
              case pos =>
                obtain ⟨y, hy⟩ : ∃ y, L[j]? = some y := ⟨L[j], by simp [hlj]⟩
                obtain ⟨b1, f1, rfl, _, d0, d1, d2⟩ := EntsIn.at HL3.out hy
                obtain ⟨b2, f2, rfl, _, e0, e1, e2⟩ := EntsIn.at HA3.out HE.out
                have hup := HT.out.up hy
                clear hy HT HL3 HA3
                cases t with
                | true =>
                  rw [Bool.true_or] at hup
                  have HTU := hideIt hup
                  clear hup
                  go_wp2_with fail
                  go_quiet (fail)
                  have HS4 := hideIt (HS3.out.next (below_drewN _ nq))
                  clear HS3
                  go_wp2
                  exact ⟨⟨j + 1, _, by omega, by go_num, rfl, HTU, HS4⟩, by simp [intOf]; omega⟩
                | false =>
                  rw [Bool.false_or] at hup
                  cases hq : y.1 == e.1 with
                  | true =>
                    rw [hq] at hup
                    have HTU := hideIt hup
                    clear hup
                    go_wp2_with fail
                    go_quiet (fail)
                    have HS4 := hideIt (HS3.out.next (below_drewN _ nq))
                    clear HS3
                    go_wp2
                    exact ⟨⟨j + 1, _, by omega, by go_num, rfl, HTU, HS4⟩, by simp [intOf]; omega⟩
                  | false =>
                    rw [hq] at hup
                    have HTU := hideIt hup
                    clear hup
                    go_wp2_with fail
                    go_quiet (fail)
                    have HS4 := hideIt (HS3.out.next (below_drewN _ nq))
                    clear HS3
                    go_wp2
                    exact ⟨⟨j + 1, _, by omega, by go_num, rfl, HTU, HS4⟩, by simp [intOf]; omega⟩
              case neg =>
                obtain rfl : j = L.length := by omega
                have HU := hideIt HT.out.all
                obtain ⟨b2, f2, rfl, _, e0, e1, e2⟩ := EntsIn.at HA3.out HE.out
                clear hlj hj HT HL3 HA3
                go_wp2_with fail
                refine (stget_any _ p O5 l' e.1 HS3.out.sto HF5.out.rising (by have := HLN.out; omega)).mono ?_
                rintro ev w7 ⟨x, is, rfl, hgx, hb7⟩
                unfold entV
                obtain ⟨W7, hW, hwb, _, y0, y1, y2⟩ := room3 w7 28 (.string ⟨x.1.toArray⟩) (.string ⟨x.2.1.toArray⟩) (.int .i64 x.2.2)
                have HS7 := hideIt ((HS3.out.next hb7).next hwb)
                have t0 := (hwb.cell (lt_of_cell ((hb7.cell (lt_of_cell e0)).trans e0))).trans ((hb7.cell (lt_of_cell e0)).trans e0)
                have t1 := (hwb.cell (lt_of_cell ((hb7.cell (lt_of_cell e1)).trans e1))).trans ((hb7.cell (lt_of_cell e1)).trans e1)
                have t2 := (hwb.cell (lt_of_cell ((hb7.cell (lt_of_cell e2)).trans e2))).trans ((hb7.cell (lt_of_cell e2)).trans e2)
                have HGX := hideIt hgx
                clear hb7 hwb e0 e1 e2 HS3 hgx
                subst hW
                cases t with
                | true =>
                  have HCZ := hideIt (HCU.out.2 HU.out)
                  go_wp2
                  exact ⟨⟨i + 1, m, by omega, by omega, by go_num, rfl, HCZ, HS7⟩, by simp [intOf]; omega⟩
                | false =>
                  have HCZ := hideIt (HCU.out.1 HU.out)
                  obtain ⟨rfl, rfl⟩ := get_mem HF5.out.rising (HM.out.1.had e (List.mem_of_getElem? HE.out) HU.out) HGX.out
                  have hneq := fun w => neq_ent x x w
                  rw [show decide (x = x) = true from decide_eq_true rfl] at hneq
                  go_wp2_with fail
                  go_quiet (fail)
                  have HS8 := hideIt (HS7.out.next (below_drewN _ nq))
                  clear HS7
                  go_wp2
                  exact ⟨⟨i + 1, m + 1, by omega, by omega, by go_num, by go_num, HCZ, HS8⟩, by simp [intOf]; omega⟩
          case neg =>
            obtain rfl : i = l.length := by omega
            have hml : m = l'.length := by
              have h := HC.out
              unfold CntL at h
              rw [List.take_length] at h
              rw [h]; exact (HM.out.1.many HF.out.rising HM.out.2.rising).symm
            clear hli HC
            subst hml
            have hwr : IntKind.i64.wrap ((l'.length : Int) + (more : Int)) = (l'.length : Int) + (more : Int) := by have := HLN.out; simp [IntKind.wrap, IntKind.bits, IntKind.signed]; omega
            go_wp2_with fail
            refine (stroom_any _ p O5 l' more HS2.out.sto HF5.out.1).mono ?_
            rintro ev wz ⟨rfl, rfl⟩
            by_cases hr : (more : Int) ≤ 128 - (l'.length : Int)
            · rw [decide_eq_true hr]
              have hr2 : (l'.length : Int) + (more : Int) ≤ 128 := by omega
              go_wp2
              go_ret
              exact ⟨rfl, HS2.out.env.1⟩
            · rw [decide_eq_false hr]
              have hr2 : ¬ (l'.length : Int) + (more : Int) ≤ 128 := by omega
              go_wp2
              go_ret
              exact ⟨by first | rfl | simp [hr2] | (simp; omega), HS2.out.env.1⟩
end Go.Proofs.YtddmjbmfkdhhgaaDoor
