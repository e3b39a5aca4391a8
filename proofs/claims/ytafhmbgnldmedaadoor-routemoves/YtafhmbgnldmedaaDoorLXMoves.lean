/-
  What is proved here: the walk of cohortlaw09.RouteMoves, over this program.
-/
import Derived.Test.YtafhmbgnldmedaaDoorPN
namespace Go.Proofs.YtafhmbgnldmedaaDoor
open Go.RowKit Go.Extern.Stop Go.Stop Go.Extern

set_option maxRecDepth 100000 in
set_option maxHeartbeats 16000000 in
theorem rmoves_true (v vm vk : Value) (l : List Pc) (ms : List Mv) (la : Mv) (keys : List (List UInt8)) (w : World) (hv : PcsIn w (· < w.heap.size) v l) (hn : l.length ≤ maxLen)
    (hm : MvsIn w (· < w.heap.size) vm ms) (hmn : ms.length ≤ maxLen) (hks : KeysIn w (· < w.heap.size) vk keys) (hkn : keys.length ≤ maxLen) (hg : ET w) (ht : PT w) :
    Calls Tryd.prog 4 #[v, vm, mvV la, vk] w fun e w' => e = .returned (.bool true) ∧ Below w.heap.size w w' := by
  have HV0 : Hid (Env w w) := ⟨Below.refl _ _, hg, ht⟩
  have HA := hideIt hn
  have HMN := hideIt (And.intro hmn hkn)
  obtain ⟨a, cap, rfl⟩ := hv.form
  obtain ⟨am, cm, rfl⟩ := hm.form
  obtain ⟨ak, ck, rfl⟩ := hks.form
  unfold mvV
  obtain ⟨W, hW, hwb, _, y0, y1, y2⟩ := room3 w 37 (.string ⟨la.1.toArray⟩) (.string ⟨la.2.1.toArray⟩) (.int .i64 la.2.2)
  have HVW := hideIt (HV0.out.next hwb)
  have HH := hideIt (head09_true W HVW.out.et HVW.out.pt)
  have HP := hideIt (hv.kept (kept_next (w0 := w) hwb))
  have HMS := hideIt hm
  have HKS : Hid (KeysIn w (· < w.heap.size) (.slice ak keys.length ck) keys) := hideIt hks
  have HM : Hid (R3 W w.heap.size (.string ⟨la.1.toArray⟩) (.string ⟨la.2.1.toArray⟩) (.int .i64 la.2.2)) := hideIt ⟨y0, y1, y2⟩
  clear hg ht hv hn hwb y0 y1 y2 HV0 hm hks hmn hkn
  go_enter Tryd.func4, Tryd.ntmps4
  go_wp2_with fail
  rw [← hW]
  clear hW
  refine HH.out.mono ?_
  rintro e w1 ⟨rfl, hb1⟩
  have HV1 := hideIt (HVW.out.next hb1)
  have HP1 := hideIt (HP.out.kept (kept_next (w0 := w) hb1))
  have HM1 := hideIt (HM.out.next hb1)
  clear hb1 HH HVW HP HM
  go_wp2_with fail
  refine (rqOf_any w1 _ _ l HP1.out HA.out).mono ?_
  rintro e w2 ⟨n, k, hof, ⟨hn, er, rfl, ho, hb2⟩ | ⟨rfl, p, rfl, hnr⟩⟩
  case inl =>
    have HV2 := hideIt (HV1.out.next hb2)
    obtain ⟨ty, y, rfl⟩ := ho.iface
    clear hb2 ho
    go_wp2
    go_ret
    exact ⟨rfl, HV2.out.1⟩
  have hf : FitP l := by
    rcases of_fit hof with ⟨_, h⟩ | ⟨h, _⟩
    · exact h
    · exact absurd rfl h
  have HS2 := hideIt (Rs.new HV1.out hnr hf)
  have HM2 := hideIt (HM1.out.next hnr.2.2)
  have HNM : Hid (w.heap.size ≠ p) := hideIt (fun e => by have := HM1.out.lt; have := hnr.1; omega)
  have HLOW := hideIt HS2.out.low
  clear hof hnr hf HP1 HM1 HV1
  by_cases hc1 : (60 : Int) < (ms.length : Int)
  · go_wp2
    go_ret
    exact ⟨rfl, HS2.out.env.1⟩
  by_cases hc2 : (60 : Int) < (keys.length : Int)
  · go_wp2
    go_ret
    exact ⟨rfl, HS2.out.env.1⟩
  have HC := hideIt (And.intro hc1 hc2)
  go_wp2
  clear hc1 hc2
  go_loopw [12] (fun i wr => ∃ (k : Nat) (lk : List Pc), k ≤ ms.length ∧ i = .int .i64 k ∧ Hid (Rs w wr p lk) ∧ Hid (R3 wr w.heap.size (.string ⟨la.1.toArray⟩) (.string ⟨la.2.1.toArray⟩) (.int .i64 la.2.2))) (fun i _ => ms.length - (intOf i).toNat)
  case atStart => exact ⟨0, l, Nat.zero_le _, rfl, HS2, HM2⟩
  case round =>
    obtain ⟨k, lk, hk, rfl, HS, HM⟩ := hrel
    by_cases hlt : k < ms.length
    · obtain ⟨o, ho⟩ : ∃ o, ms[k]? = some o := ⟨ms[k], by simp [hlt]⟩
      obtain ⟨b, off, rfl, _, c0, c1, c2⟩ := MvsIn.at (HMS.out.kept (Kept.of_below HS.out.env.1 (fun _ h _ => h))) ho
      have hbd : Below wr.heap.size wr wr.drew := (Below.refl _ _).drew
      have HSd := hideIt (HS.out.next hbd)
      have HMd := hideIt (HM.out.next hbd)
      clear ho hbd
      go_wp2_with fail
      go_region_with (go_at_call 15
                      refine (rqMove_any _ p _ lk o.1 o.2.1 o.2.2 HSd.out.rt HSd.out.fit).mono ?_
                      rintro e w4 ⟨n, k4, l', er, rfl, hm, her, hr, hg⟩
                      have HS4 := hideIt (HSd.out.move hr hg hm)
                      have HM4 := hideIt (HMd.out.grown hg HNM.out)
                      clear hm her hr hg)
      all_goals
        go_wp2
        exact ⟨⟨k + 1, l', by omega, by go_num, HS4, HM4⟩, by simp [intOf]; omega⟩
    · have HSB := hideIt HS.out.toB
      obtain ⟨B, hBe⟩ : ∃ B, B = wr.heap.size := ⟨_, rfl⟩
      rw [← hBe] at HSB
      have hqB : w.heap.size < B := by rw [hBe]; exact HM.out.lt
      have HQB := hideIt (And.intro hBe hqB)
      obtain ⟨i0, hi, hi2⟩ := Option.map_eq_some_iff.1 infoPc
      obtain ⟨hz0, hz1, hz2⟩ : i0.zero = some (.agg #[.string ⟨#[]⟩, .int .i64 0, .int .i64 0]) ∧ i0.size = 3 ∧ i0.bytes = 32 := by
        simp only [Prod.mk.injEq] at hi2; exact hi2
      have HI := hideIt (And.intro hi (And.intro hz0 (And.intro hz1 hz2)))
      clear hBe hqB hi hi2 hz0 hz1 hz2
      go_wp2
      go_loopw [13, 14] (fun s i wr => ∃ (k : Nat) (was : List Pc), k ≤ keys.length ∧ i = .int .i64 k ∧ Hid (RsB w wr p B lk) ∧ Hid (R3 wr w.heap.size (.string ⟨la.1.toArray⟩) (.string ⟨la.2.1.toArray⟩) (.int .i64 la.2.2)) ∧ Hid (wr.ownsRow B 39 3 s was.length (pcsCells was)) ∧ Hid (Told9 lk keys k was)) (fun _ i _ => keys.length - (intOf i).toNat)
      case atStart => exact ⟨0, [], Nat.zero_le _, rfl, HSB, HM, World.ownsRow_nil _ _ _ _, told9_nil _ _⟩
      case round =>
        obtain ⟨k2, was, hk2, rfl, HS, HM, HO, HT⟩ := hrel
        by_cases hlt2 : k2 < keys.length
        · obtain ⟨key, hkey⟩ : ∃ key, keys[k2]? = some key := ⟨keys[k2], by simp [hlt2]⟩
          obtain ⟨b, off, rfl, _, c0⟩ := KeysIn.at (HKS.out.low HS.out.env.1) hkey
          have HKEY := hideIt hkey
          clear hkey
          go_wp2_with fail
          refine (rqOwner_any _ p _ lk key HS.out.rt HS.out.fit.lin HS.out.rs.few).mono ?_
          rintro e w5 ⟨x, rfl, hx, hb5⟩
          have HT5 := hideIt (told9_snoc HT.out HKEY.out hx)
          unfold pcV
          obtain ⟨U, hU, hUb, hUs, hUo⟩ := lit_one w5 x
          have hcs := RowIn.cells (RowIn.of_own (A := fun k => w5.heap.size ≤ k) hUo (fun _ h => h))
          have hrowU := own_grownB (own_grownB HO.out hb5) hUb
          have hbase : B ≤ U.heap.size := Nat.le_trans HS.out.bl (Nat.le_trans hb5.size hUb.size)
          have HS5 := hideIt ((HS.out.next hb5).next hUb)
          have HM5 := hideIt ((HM.out.next hb5).next hUb)
          have hwl : was.length ≤ 60 := by have := HT.out.1; have := HC.out.2; omega
          rw [hU] at hcs hrowU hbase
          have HAP := hideIt (And.intro hcs (And.intro hrowU hbase))
          obtain ⟨av, cv, rfl⟩ := own_form hrowU
          clear hx hb5 hUb hUs hUo hcs hrowU hbase
          go_wp2_with (at_builtin; refine wpList_append_own_at _ rfl _ _ 22 rfl B 39 i0 (.agg #[.string ⟨#[]⟩, .int .i64 0, .int .i64 0]) 3 32 Tryd.underlying22 HI.out.1 HI.out.2.1 HI.out.2.2.1 HI.out.2.2.2 rfl (by decide) _ _ _ rfl HAP.out.2.1 ⟨w5.heap.size, 0, none⟩ 1 1 (pcsCells [x]) rfl rfl HAP.out.1 (pcsCells_one _) (by unfold maxLen; omega) (by omega) HAP.out.2.2 ?_)
          intro z w6 h1 h2 _ h3
          rw [← hU] at h2
          have hbz : ∀ g, (Value.slice av was.length cv).ownBlock = some g → B ≤ g := fun g hg => (World.ownsRow.lt HAP.out.2.1 g hg).1
          have HS6 := hideIt (HS5.out.row h2 hbz)
          have HM6 := hideIt (HM5.out.row h2 hbz HQB.out.2)
          have HZ6 : Hid (w6.ownsRow B 39 3 z (was ++ [x]).length (pcsCells (was ++ [x]))) := hideIt (by rw [List.length_append, pcsCells_append]; exact h1)
          obtain ⟨az, cz, rfl⟩ := own_form h1
          clear h1 h2 h3 hbz hU
          go_wp2
          exact ⟨⟨k2 + 1, was ++ [x], by omega, by go_num, HS6, HM6, HZ6, HT5⟩, by simp [intOf]; omega⟩
        · obtain rfl : k2 = keys.length := by omega
          obtain ⟨av, cv, rfl⟩ := own_form HO.out
          have HWN := hideIt HT.out.1
          have HWS : Hid (PcsNe wr p (.slice av was.length cv) was) := hideIt (RowIn.mono (own_in HO.out) (fun k hk _ => by have := (World.ownsRow.lt HO.out k hk).1; have := HS.out.pB; intro e; omega))
          have q0 := HM.out.1
          have q1 := HM.out.2.1
          have q2 := HM.out.2.2
          go_wp2_with fail
          refine (rqMove_any wr p _ lk la.1 la.2.1 la.2.2 HS.out.rs.rt HS.out.rs.fit).mono ?_
          rintro e w4 ⟨n, k4, l', er, rfl, hm, her, hr, hg⟩
          have HS4 := hideIt (HS.out.rs.move hr hg hm)
          have HM4 := hideIt (HM.out.grown hg HNM.out)
          have HW4 := hideIt (HWS.out.grown hg)
          have HMV := hideIt hm
          have HFIT := hideIt HS.out.fit
          have her2 := move_err her
          clear hm her hr hg HM HS HWS HO q0 q1 q2
          rcases her2 with ⟨rfl, rfl⟩ | ⟨hn, ty, y, rfl⟩
          · go_wp2
            go_loopw [15] (fun i wr => ∃ k3 : Nat, k3 ≤ keys.length ∧ i = .int .i64 k3 ∧ Hid (Below w4.heap.size w4 wr)) (fun i _ => keys.length - (intOf i).toNat)
            case atStart => exact ⟨0, Nat.zero_le _, rfl, hideIt (Below.refl _ _)⟩
            case round =>
              obtain ⟨k3, hk3, rfl, HB⟩ := hrel
              have HSr := hideIt (HS4.out.next HB.out)
              by_cases hlt3 : k3 < keys.length
              · obtain ⟨key, hkey⟩ : ∃ key, keys[k3]? = some key := ⟨keys[k3], by simp [hlt3]⟩
                obtain ⟨y, hy, hoy⟩ := told9_at HT.out hkey
                have hkw : (k3 : Int) < (was.length : Int) := by have := HWN.out; omega
                have hki : (k3 : Int) < (keys.length : Int) := by omega
                obtain ⟨b, off, rfl, _, c0⟩ := KeysIn.at (HKS.out.low HSr.out.env.1) hkey
                obtain ⟨b2, off2, rfl, _, d0, d1, d2⟩ := PcsIn.at (HW4.out.next HB.out) hy
                have HHY := hideIt (And.intro hkey hoy)
                have HCD := hideIt (And.intro c0 (And.intro d1 d2))
                clear hkey hoy hy d0 d1 d2
                go_wp2_with fail
                refine (rqOwner_any wr p _ l' key HSr.out.rt HSr.out.fit.lin HSr.out.few).mono ?_
                rintro e w5 ⟨x, rfl, hx, hb5⟩
                have HX := hideIt hx
                unfold pcV
                obtain ⟨W5, hW, hwb, hr5⟩ := room_pc w5 x
                have hb := hb5.trans (hwb.mono hb5.size)
                have HB5 := hideIt (HB.out.trans (hb.mono HB.out.size))
                have c0 := (hb.cell (lt_of_cell HCD.out.1)).trans HCD.out.1
                have d1 := (hb.cell (lt_of_cell HCD.out.2.1)).trans HCD.out.2.1
                have d2 := (hb.cell (lt_of_cell HCD.out.2.2)).trans HCD.out.2.2
                have m0 := (HM4.out.next HB5.out).1
                have m1 := (HM4.out.next HB5.out).2.1
                have m2 := (HM4.out.next HB5.out).2.2
                have r1 := hr5.2.1
                have r2 := hr5.2.2
                clear hx hwb hr5 hb hb5
                cases g1 : Op.bytesLess key la.1 with
                | true =>
                  have hmo := move_own HFIT.out HMV.out HHY.out.2 HX.out
                  rw [if_neg (by unfold inR; rw [g1]; simp)] at hmo
                  have e1 : x.2.1 = y.2.1 := by rw [hmo]
                  have e2 : x.2.2 = y.2.2 := by rw [hmo]
                  rw [e1, e2] at hW
                  rw [e1] at r1
                  rw [e2] at r2
                  rw [e1, e2]
                  go_wp2_with fail
                  rw [← hW]
                  clear hW e1 e2 hmo
                  go_quiet (fail)
                  go_wp2_with fail
                  go_quiet (fail)
                  go_wp2
                  exact ⟨⟨k3 + 1, by omega, by go_num, hideIt (HB5.out.trans ((below_drewN W5 _).mono HB5.out.size))⟩, by simp [intOf]; omega⟩
                | false =>
                  cases g2 : (la.2.1 == []) with
                  | true =>
                    have hmo := move_own HFIT.out HMV.out HHY.out.2 HX.out
                    rw [if_pos (by unfold inR; rw [g1, g2]; rfl)] at hmo
                    obtain ⟨e1, e2, e3⟩ := hmo
                    rw [e1, e2] at hW
                    rw [e1] at r1
                    rw [e2] at r2
                    have hwe : IntKind.i64.wrap (y.2.2 + 1) = y.2.2 + 1 := by have := (HFIT.out.ok (own_mem HHY.out.2)).2.2.2.1; simp [IntKind.wrap, IntKind.bits, IntKind.signed]; omega
                    rw [e1, e2]
                    go_wp2_with fail
                    rw [← hW]
                    clear hW e1 e2 e3
                    go_quiet (fail)
                    go_wp2_with fail
                    go_quiet (fail)
                    go_wp2
                    exact ⟨⟨k3 + 1, by omega, by go_num, hideIt (HB5.out.trans ((below_drewN W5 _).mono HB5.out.size))⟩, by simp [intOf]; omega⟩
                  | false =>
                    cases g3 : Op.bytesLess key la.2.1 with
                    | true =>
                      have hmo := move_own HFIT.out HMV.out HHY.out.2 HX.out
                      rw [if_pos (by unfold inR; rw [g1, g2, g3]; rfl)] at hmo
                      obtain ⟨e1, e2, e3⟩ := hmo
                      rw [e1, e2] at hW
                      rw [e1] at r1
                      rw [e2] at r2
                      have hwe : IntKind.i64.wrap (y.2.2 + 1) = y.2.2 + 1 := by have := (HFIT.out.ok (own_mem HHY.out.2)).2.2.2.1; simp [IntKind.wrap, IntKind.bits, IntKind.signed]; omega
                      rw [e1, e2]
                      go_wp2_with fail
                      rw [← hW]
                      clear hW e1 e2 e3
                      go_quiet (fail)
                      go_wp2_with fail
                      go_quiet (fail)
                      go_wp2
                      exact ⟨⟨k3 + 1, by omega, by go_num, hideIt (HB5.out.trans ((below_drewN W5 _).mono HB5.out.size))⟩, by simp [intOf]; omega⟩
                    | false =>
                      have hmo := move_own HFIT.out HMV.out HHY.out.2 HX.out
                      rw [if_neg (by unfold inR; rw [g1, g2, g3]; simp)] at hmo
                      have e1 : x.2.1 = y.2.1 := by rw [hmo]
                      have e2 : x.2.2 = y.2.2 := by rw [hmo]
                      rw [e1, e2] at hW
                      rw [e1] at r1
                      rw [e2] at r2
                      rw [e1, e2]
                      go_wp2_with fail
                      rw [← hW]
                      clear hW e1 e2 hmo
                      go_quiet (fail)
                      go_wp2_with fail
                      go_quiet (fail)
                      go_wp2
                      exact ⟨⟨k3 + 1, by omega, by go_num, hideIt (HB5.out.trans ((below_drewN W5 _).mono HB5.out.size))⟩, by simp [intOf]; omega⟩
              · go_wp2
                go_ret
                exact ⟨rfl, HSr.out.env.1⟩
          · have hbad := move_bad HMV.out hn
            subst hbad
            clear hn
            go_wp2
            go_loopw [15] (fun i wr => ∃ k3 : Nat, k3 ≤ keys.length ∧ i = .int .i64 k3 ∧ Hid (Below w4.heap.size w4 wr)) (fun i _ => keys.length - (intOf i).toNat)
            case atStart => exact ⟨0, Nat.zero_le _, rfl, hideIt (Below.refl _ _)⟩
            case round =>
              obtain ⟨k3, hk3, rfl, HB⟩ := hrel
              have HSr := hideIt (HS4.out.next HB.out)
              by_cases hlt3 : k3 < keys.length
              · obtain ⟨key, hkey⟩ : ∃ key, keys[k3]? = some key := ⟨keys[k3], by simp [hlt3]⟩
                obtain ⟨y, hy, hoy⟩ := told9_at HT.out hkey
                have hkw : (k3 : Int) < (was.length : Int) := by have := HWN.out; omega
                have hki : (k3 : Int) < (keys.length : Int) := by omega
                obtain ⟨b, off, rfl, _, c0⟩ := KeysIn.at (HKS.out.low HSr.out.env.1) hkey
                obtain ⟨b2, off2, rfl, _, d0, d1, d2⟩ := PcsIn.at (HW4.out.next HB.out) hy
                have HHY := hideIt (And.intro hkey hoy)
                have HCD := hideIt (And.intro c0 (And.intro d1 d2))
                clear hkey hoy hy d0 d1 d2
                go_wp2_with fail
                refine (rqOwner_any wr p _ l' key HSr.out.rt HSr.out.fit.lin HSr.out.few).mono ?_
                rintro e w5 ⟨x, rfl, hx, hb5⟩
                have HX := hideIt hx
                unfold pcV
                obtain ⟨W5, hW, hwb, hr5⟩ := room_pc w5 x
                have hb := hb5.trans (hwb.mono hb5.size)
                have HB5 := hideIt (HB.out.trans (hb.mono HB.out.size))
                have c0 := (hb.cell (lt_of_cell HCD.out.1)).trans HCD.out.1
                have d1 := (hb.cell (lt_of_cell HCD.out.2.1)).trans HCD.out.2.1
                have d2 := (hb.cell (lt_of_cell HCD.out.2.2)).trans HCD.out.2.2
                have m0 := (HM4.out.next HB5.out).1
                have m1 := (HM4.out.next HB5.out).2.1
                have m2 := (HM4.out.next HB5.out).2.2
                have r1 := hr5.2.1
                have r2 := hr5.2.2
                clear hx hwb hr5 hb hb5
                cases g1 : Op.bytesLess key la.1 with
                | true =>
                  obtain rfl := own_one HHY.out.2 HX.out
                  go_wp2_with fail
                  rw [← hW]
                  clear hW 
                  go_quiet (fail)
                  go_wp2_with fail
                  go_quiet (fail)
                  go_wp2
                  exact ⟨⟨k3 + 1, by omega, by go_num, hideIt (HB5.out.trans ((below_drewN W5 _).mono HB5.out.size))⟩, by simp [intOf]; omega⟩
                | false =>
                  cases g2 : (la.2.1 == []) with
                  | true =>
                    obtain rfl := own_one HHY.out.2 HX.out
                    go_wp2_with fail
                    rw [← hW]
                    clear hW 
                    go_quiet (fail)
                    go_wp2_with fail
                    go_quiet (fail)
                    go_wp2
                    exact ⟨⟨k3 + 1, by omega, by go_num, hideIt (HB5.out.trans ((below_drewN W5 _).mono HB5.out.size))⟩, by simp [intOf]; omega⟩
                  | false =>
                    cases g3 : Op.bytesLess key la.2.1 with
                    | true =>
                      obtain rfl := own_one HHY.out.2 HX.out
                      go_wp2_with fail
                      rw [← hW]
                      clear hW 
                      go_quiet (fail)
                      go_wp2_with fail
                      go_quiet (fail)
                      go_wp2
                      exact ⟨⟨k3 + 1, by omega, by go_num, hideIt (HB5.out.trans ((below_drewN W5 _).mono HB5.out.size))⟩, by simp [intOf]; omega⟩
                    | false =>
                      obtain rfl := own_one HHY.out.2 HX.out
                      go_wp2_with fail
                      rw [← hW]
                      clear hW 
                      go_quiet (fail)
                      go_wp2_with fail
                      go_quiet (fail)
                      go_wp2
                      exact ⟨⟨k3 + 1, by omega, by go_num, hideIt (HB5.out.trans ((below_drewN W5 _).mono HB5.out.size))⟩, by simp [intOf]; omega⟩
              · go_wp2
                go_ret
                exact ⟨rfl, HSr.out.env.1⟩
end Go.Proofs.YtafhmbgnldmedaaDoor
