/-
  What is proved here: the walk of cohortlaw09.RouteWhole, over this program.
-/
import Derived.Test.YtafhmbgnldmedaaDoorPN
import Derived.Deep.RegionWith
import Derived.Deep.RegionHeld3
import Derived.Deep.DeepCutAuto
import Derived.Deep.CutBlock
namespace Go.Proofs.YtafhmbgnldmedaaDoor
open Go.RowKit Go.Extern.Stop Go.Stop Go.Extern

/-- what One answered, where it was laid -/
def OneAt (w0 wx : World) (p : Nat) (l : List Pc) (z : Value) (fk tk : List UInt8) (s14 s15 : Value) : Prop := ∃ (q : Nat) (x : Pc) (is : Bool), s14 = .pointer (some ⟨q, 0, none⟩) ∧ s15 = .bool is ∧ Hid (OneIs l fk tk x is) ∧ Hid (R3 wx q (.string ⟨x.1.toArray⟩) (.int .i64 x.2.1) (.int .i64 x.2.2)) ∧ Hid (Rs w0 wx p l) ∧ Hid (PcsNe wx p z l)
theorem own_key {L : List Pc} {fk tk k : List UInt8} {x : Pc} (hl : Lin L) (h : OneIs L fk tk x true) (hk : inR fk tk k = true) : OwnIs L k x := by
  obtain ⟨p, hp⟩ := own_ex hl k
  obtain rfl := one_own hl h hk hp
  exact hp
set_option maxRecDepth 100000 in
set_option maxHeartbeats 16000000 in
theorem rwhole_true (v vm vk : Value) (l : List Pc) (ms : List Mv) (keys : List (List UInt8)) (w : World) (hv : PcsIn w (· < w.heap.size) v l) (hn : l.length ≤ maxLen)
    (hm : MvsIn w (· < w.heap.size) vm ms) (hmn : ms.length ≤ maxLen) (hks : KeysIn w (· < w.heap.size) vk keys) (hkn : keys.length ≤ maxLen) (hg : ET w) (ht : PT w) :
    Calls Tryd.prog 5 #[v, vm, vk] w fun e w' => e = .returned (.bool true) ∧ Below w.heap.size w w' := by
  have HV0 : Hid (Env w w) := ⟨Below.refl _ _, hg, ht⟩
  have HH := hideIt (head09_true w hg ht)
  have HA := hideIt (And.intro hv hn)
  obtain ⟨a, cap, rfl⟩ := hv.form
  obtain ⟨am, cm, rfl⟩ := hm.form
  obtain ⟨ak, ck, rfl⟩ := hks.form
  have HMS := hideIt hm
  have HKS : Hid (KeysIn w (· < w.heap.size) (.slice ak keys.length ck) keys) := hideIt hks
  have HMN := hideIt (And.intro hmn hkn)
  clear hm hks hmn hkn
  clear hg ht hv hn
  go_enter Tryd.func5, Tryd.ntmps5
  go_wp2_with fail
  refine HH.out.mono ?_
  rintro e w1 ⟨rfl, hb1⟩
  have HV1 := hideIt (HV0.out.next hb1)
  have HP1 := hideIt (HA.out.1.kept (kept_next (w0 := w) hb1))
  clear hb1 HH
  go_wp2_with fail
  refine (rqOf_any w1 _ _ l HP1.out HA.out.2).mono ?_
  rintro e w2 ⟨n, k, hof, ⟨hn, er, rfl, ho, hb2⟩ | ⟨rfl, p, rfl, hnr⟩⟩
  case inl =>
    have HV2 := hideIt (HV1.out.next hb2)
    obtain ⟨ty, y, rfl⟩ := ho.iface
    clear hb2 ho
    go_wp2
    go_ret
    exact ⟨rfl, HV2.out.1⟩
  have hf : FitP l := by
    rcases of_fit hof with ⟨_, h⟩ | ⟨h, _⟩
    · exact h
    · exact absurd rfl h
  have HS2 := hideIt (Rs.new HV1.out hnr hf)
  clear hof hnr hf HP1 HV1
  by_cases hc1 : (60 : Int) < (ms.length : Int)
  · go_wp2
    go_ret
    exact ⟨rfl, HS2.out.env.1⟩
  by_cases hc2 : (60 : Int) < (keys.length : Int)
  · go_wp2
    go_ret
    exact ⟨rfl, HS2.out.env.1⟩
  have HC := hideIt (And.intro hc1 hc2)
  go_wp2
  clear hc1 hc2
  go_loopw [10] (fun i wr => ∃ (k : Nat) (lk : List Pc), k ≤ ms.length ∧ i = .int .i64 k ∧ Hid (Rs w wr p lk)) (fun i _ => ms.length - (intOf i).toNat)
  case atStart => exact ⟨0, l, Nat.zero_le _, rfl, HS2⟩
  case round =>
    obtain ⟨k, lk, hk, rfl, HS⟩ := hrel
    by_cases hlt : k < ms.length
    · obtain ⟨o, ho⟩ : ∃ o, ms[k]? = some o := ⟨ms[k], by simp [hlt]⟩
      obtain ⟨b, off, rfl, _, c0, c1, c2⟩ := MvsIn.at (HMS.out.kept (Kept.of_below HS.out.env.1 (fun _ h _ => h))) ho
      have hbd : Below wr.heap.size wr wr.drew := (Below.refl _ _).drew
      have HSd := hideIt (HS.out.next hbd)
      have HOO := hideIt ho
      clear ho hbd
      go_upto_region 8 with fail
      go_cut [] (fun wx => ∃ l', Hid (Rs w wx p l'))
      case first =>
        go_region_with (go_at_call 15
                        refine (rqMove_any _ p _ lk o.1 o.2.1 o.2.2 HSd.out.rt HSd.out.fit).mono ?_
                        rintro e w4 ⟨n, k4, l', er, rfl, hm, her, hr, hg⟩
                        have HS4 := hideIt (HSd.out.move hr hg hm)
                        clear hm her hr hg)
        all_goals
          go_wp2_with fail
          go_meet
          exact ⟨_, HS4⟩
      case rest =>
        obtain ⟨l', HS4⟩ := hcut
        generalize wc = w4 at HS4 ⊢
        go_wp2_with fail
        refine (rqPieces_any w4 p _ l' HS4.out.rt HS4.out.few).mono ?_
        rintro e w5 ⟨z, rfl, hz, hb5⟩
        have HS5 := hideIt (HS4.out.next hb5)
        have HZ5 : Hid (PcsNe w5 p z l') := hideIt (PcsNe.own hz HS4.out.rt.lt)
        obtain ⟨az, cz, rfl⟩ := own_form hz
        clear hz hb5 HS4
        go_wp2_with fail
        refine (rqOf_any w5 _ _ l' HZ5.out (by have := HS5.out.few; unfold maxLen; omega)).mono ?_
        rintro e w6 ⟨n, k6, hof, ⟨hn, _⟩ | ⟨rfl, p2, rfl, hnr⟩⟩
        · rcases of_fit hof with ⟨h, _⟩ | ⟨_, h⟩
          · exact absurd h hn
          · exact absurd HS5.out.fit h
        have HS6 := hideIt (HS5.out.next hnr.2.2)
        have HZ6 := hideIt (HZ5.out.next hnr.2.2)
        have HN6 := hideIt (And.intro hnr.1 hnr.2.1)
        clear hof hnr HS5 HZ5
        go_wp2_with fail
        refine (rqPieces_any w6 p2 _ l' HN6.out.2 HS6.out.few).mono ?_
        rintro e w7 ⟨z2, rfl, hz, hb7⟩
        have HS7 := hideIt (HS6.out.next hb7)
        have HZ7 := hideIt (HZ6.out.next hb7)
        have HY7 := hideIt (own_in hz)
        obtain ⟨az2, cz2, rfl⟩ := own_form hz
        clear hz hb7 HS6 HZ6 HN6
        go_wp2_with fail
        refine (Same09_any _ _ _ _ l' l' w7 HY7.out HZ7.out (by have := HS7.out.few; unfold maxLen; omega)).mono ?_
        rintro e w8 ⟨rfl, hb8⟩
        rw [decide_eq_true (rfl : l' = l')]
        have HS8 := hideIt (HS7.out.next hb8)
        have HZ8 := hideIt (HZ7.out.next hb8)
        clear hb8 HS7 HZ7 HY7
        obtain ⟨bo, offo, eo, _, d0, d1, d2⟩ := MvsIn.at (HMS.out.kept (Kept.of_below HS8.out.env.1 (fun _ h _ => h))) HOO.out
        cases eo
        have HSB := hideIt HS8.out.toB
        have HZB : Hid (PcsIn w8 (fun k => k ≠ p ∧ k < w8.heap.size) (.slice az l'.length cz) l') := hideIt (RowIn.mono HZ8.out (fun _ h hl => ⟨h, hl⟩))
        obtain ⟨WA, hWA, hab, has, z0, z1, z2⟩ := room3 w8 39 (.string ⟨#[]⟩) (.int .i64 0) (.int .i64 0)
        have hzf := fun j => (show WA.frozen? ⟨w8.heap.size, j, none⟩ = false by rw [hWA]; exact World.frozen?_alloc_at _ _ _ _ rfl)
        have habd : Below w8.heap.size w8 WA.drew := hab.drew
        have HSA := hideIt (HSB.out.next habd)
        have HZA := hideIt (RowIn.kept HZB.out (Kept.of_all habd))
        have HRA := hideIt (And.intro z0 (And.intro z1 (And.intro z2 (And.intro hzf has))))
        have HKA := hideIt (show WA.drew.cell? ⟨b, off + k * 3, none⟩ = some (.string ⟨o.1.toArray⟩) ∧ WA.drew.cell? ⟨b, off + k * 3 + 1, none⟩ = some (.string ⟨o.2.1.toArray⟩) from ⟨(hab.cell (lt_of_cell d0)).trans d0, (hab.cell (lt_of_cell d1)).trans d1⟩)
        rw [hWA] at HSA HZA HRA HKA
        have hbd : Below w8.heap.size w8 w8.drew := (Below.refl _ _).drew
        have HSd8 := hideIt (HS8.out.next hbd)
        have HZd8 := hideIt (HZ8.out.next hbd)
        clear hbd habd hzf z0 z1 z2 hab has hWA
        go_upto_region 13 with fail
        go_cut [14, 15] (fun s14 s15 wx => OneAt w wx p l' (.slice az l'.length cz) o.1 o.2.1 s14 s15)
        case first =>
          have n8 : w8.heap.size ≠ b := World.new_ne w8 ⟨b, off + k * 3, none⟩ d0
          go_region_held3 (fun w' => w'.cell? ⟨b, off + k * 3, none⟩ = some (.string ⟨o.1.toArray⟩) ∧ w'.cell? ⟨b, off + k * 3 + 1, none⟩ = some (.string ⟨o.2.1.toArray⟩)) (first | exact ⟨d0, d1⟩ | exact HKA.out | exact HK9.out | (have hk9 := HK9.out; simp [hk9.1, hk9.2, n8, World.cell?_alloc_some, World.cell?_setCell_far]; done) | go_keep) (first
            | (go_at_call 13
               refine (rqOne_any w8.drew p _ l' o.1 o.2.1 HSd8.out.rt HSd8.out.fit.lin HSd8.out.few).mono ?_
               rintro e w9 ⟨x, is, rfl, hone, hb9⟩
               have HONE := hideIt hone
               unfold pcV
               have HRM := hideIt (room_pc w9 x)
               have HS9 := hideIt (HSd8.out.next hb9)
               have HZ9 := hideIt (HZd8.out.next hb9)
               have HK9 := hideIt (And.intro ((hb9.cell (lt_of_cell (w := w8.drew) d0)).trans d0) ((hb9.cell (lt_of_cell (w := w8.drew) d1)).trans d1))
               clear hone hb9)
            | (go_at_call 13
               refine (rqOne_any _ p _ l' o.1 o.2.1 HSA.out.rs.rt HSA.out.rs.fit.lin HSA.out.rs.few).mono ?_
               rintro e w9 ⟨x, is, rfl, hone, hb9⟩
               have HONE := hideIt hone
               unfold pcV
               have hblk := hb9.block w8.heap.size (by show w8.heap.size < (w8.alloc _).heap.size; simp)
               have y0 := (World.cell?_of_block (a := ⟨w8.heap.size, 0, none⟩) hblk).trans HRA.out.1
               have y1 := (World.cell?_of_block (a := ⟨w8.heap.size, 1, none⟩) hblk).trans HRA.out.2.1
               have y2 := (World.cell?_of_block (a := ⟨w8.heap.size, 2, none⟩) hblk).trans HRA.out.2.2.1
               have f0 := (World.frozen?_of_block (a := ⟨w8.heap.size, 0, none⟩) hblk).trans (HRA.out.2.2.2.1 0)
               have f1 := (World.frozen?_of_block (a := ⟨w8.heap.size, 1, none⟩) hblk).trans (HRA.out.2.2.2.1 1)
               have f2 := (World.frozen?_of_block (a := ⟨w8.heap.size, 2, none⟩) hblk).trans (HRA.out.2.2.2.1 2)
               have HPUT := hideIt (room3_put w9 w8.heap.size _ _ _ (.string ⟨x.1.toArray⟩) (.int .i64 x.2.1) (.int .i64 x.2.2) ⟨y0, y1, y2⟩)
               have HS9 := hideIt (HSA.out.next hb9)
               have HZ9 := hideIt (RowIn.kept HZA.out (Kept.of_all hb9))
               have HK9 := hideIt (And.intro ((hb9.cell (lt_of_cell HKA.out.1)).trans HKA.out.1) ((hb9.cell (lt_of_cell HKA.out.2)).trans HKA.out.2))
               clear hone hb9 hblk))
          all_goals
            go_wp2_with fail
            go_meet
            first
              | (obtain ⟨W, hW, hwb, hr⟩ := HRM.out
                 rw [← hW]
                 exact ⟨_, x, is, rfl, rfl, HONE, hideIt hr, hideIt (HS9.out.next hwb), hideIt (HZ9.out.next hwb)⟩)
              | (obtain ⟨⟨v0, v1, v2⟩, hgr⟩ := HPUT.out
                 exact ⟨_, x, is, rfl, rfl, HONE, hideIt ⟨v0, v1, v2⟩, hideIt (HS9.out.row hgr (by intro g e; cases e; exact Nat.le_refl _)).rs, hideIt (RowIn.mono (RowIn.kept HZ9.out (Kept.of_grown hgr (fun h => by have := h.2; omega))) (fun _ h _ => h.1))⟩)
        case rest =>
          obtain ⟨q, x, is, rfl, rfl, HONE, HX9, HS9, HZ9⟩ := hcut
          generalize wc = W9 at HX9 HS9 HZ9 ⊢
          have HLF := hideIt HS9.out.few
          go_wp2
          go_loopw [16] (fun i wr => ∃ k2 : Nat, k2 ≤ keys.length ∧ i = .int .i64 k2 ∧ Hid (Below W9.heap.size W9 wr)) (fun i _ => keys.length - (intOf i).toNat)
          case atStart => exact ⟨0, Nat.zero_le _, rfl, hideIt (Below.refl _ _)⟩
          case round =>
            obtain ⟨k2, hk2, rfl, HB⟩ := hrel
            have HSr := hideIt (HS9.out.next HB.out)
            by_cases hlt2 : k2 < keys.length
            · obtain ⟨key, hkey⟩ : ∃ key, keys[k2]? = some key := ⟨keys[k2], by simp [hlt2]⟩
              obtain ⟨bk, offk, rfl, _, c9⟩ := KeysIn.at (HKS.out.low HSr.out.env.1) hkey
              have HKEY := hideIt hkey
              clear hkey
              go_wp2_with fail
              refine (rqOwner_any wr p _ l' key HSr.out.rt HSr.out.fit.lin HSr.out.few).mono ?_
              rintro e wa ⟨own, rfl, hown, hba⟩
              have HOW := hideIt hown
              have hle := own_le hown
              unfold pcV
              obtain ⟨Wb, hW, hwb, hrb⟩ := room_pc wa own
              have hb := hba.trans (hwb.mono hba.size)
              have HBW := hideIt (HB.out.trans (hb.mono HB.out.size))
              have HSb := hideIt (HS9.out.next HBW.out)
              have HRb := hideIt hrb
              have HZb := hideIt (HZ9.out.next HBW.out)
              have HXb := hideIt (HX9.out.next HBW.out)
              have n3 := leq_iff own.1 key
              rw [bl_false hle] at n3
              clear hown hba hwb hrb hb hle c9
              go_upto_region 18 with fail
              rw [← hW]
              clear hW
              go_cut [18] (fun s18 wx => s18 = .bool (inR o.1 o.2.1 key) ∧ Hid (Below Wb.heap.size Wb wx))
              case first =>
                obtain ⟨bk3, offk3, ek3, _, e0⟩ := KeysIn.at (HKS.out.low HSb.out.env.1) HKEY.out
                cases ek3
                obtain ⟨bo3, offo3, eo3, _, m0, m1, _⟩ := MvsIn.at (HMS.out.kept (Kept.of_below HSb.out.env.1 (fun _ h _ => h))) HOO.out
                cases eo3
                cases g1 : Op.bytesLess key o.1 with
                | true =>
                  go_quiet (fail)
                  go_wp2_with fail
                  go_meet
                  exact ⟨by unfold inR; rw [g1]; simp, hideIt (below_drewN Wb nq)⟩
                | false =>
                  cases g2 : (o.2.1 == []) with
                  | true =>
                    go_quiet (fail)
                    go_wp2_with fail
                    go_meet
                    exact ⟨by unfold inR; rw [g1, g2]; simp, hideIt (below_drewN Wb nq)⟩
                  | false =>
                    cases g3 : Op.bytesLess key o.2.1 with
                    | true =>
                      go_quiet (fail)
                      go_wp2_with fail
                      go_meet
                      exact ⟨by unfold inR; rw [g1, g2, g3]; simp, hideIt (below_drewN Wb nq)⟩
                    | false =>
                      go_quiet (fail)
                      go_wp2_with fail
                      go_meet
                      exact ⟨by unfold inR; rw [g1, g2, g3]; simp, hideIt (below_drewN Wb nq)⟩
              case rest =>
                obtain ⟨rfl, HBc⟩ := hcut
                obtain ⟨ib, hib⟩ : ∃ ib, ib = inR o.1 o.2.1 key := ⟨_, rfl⟩
                rw [← hib]
                have HIB := hideIt hib
                clear hib
                generalize wc = Wd at HBc ⊢
                have r0 := (HRb.out.next HBc.out).1
                have r1 := (HRb.out.next HBc.out).2.1
                have r2 := (HRb.out.next HBc.out).2.2
                have x0 := (HXb.out.next HBc.out).1
                have x1 := (HXb.out.next HBc.out).2.1
                have x2 := (HXb.out.next HBc.out).2.2
                obtain ⟨bk3, offk3, ek3, _, e0⟩ := KeysIn.at (HKS.out.low (HSb.out.next HBc.out).env.1) HKEY.out
                cases ek3
                cases is with
                | false =>
                  clear x0 x1 x2
                  go_wp2_with fail
                  go_quiet (fail)
                  have HBq := hideIt (HBc.out.trans ((below_drewN _ nq).mono HBc.out.size))
                  go_wp2
                  go_loopw [19] (fun i wr => ∃ k3 : Nat, k3 ≤ l'.length ∧ i = .int .i64 k3 ∧ Hid (Below Wb.heap.size Wb wr)) (fun i _ => l'.length - (intOf i).toNat)
                  case atStart => exact ⟨0, Nat.zero_le _, rfl, HBq⟩
                  case round =>
                    obtain ⟨k3, hk3, rfl, HBn⟩ := hrel
                    have hl100 := HLF.out
                    by_cases hlt3 : k3 < l'.length
                    · obtain ⟨q9, hq⟩ : ∃ q9, l'[k3]? = some q9 := ⟨l'[k3], by simp [hlt3]⟩
                      obtain ⟨bq, offq, rfl, _, d0, _, _⟩ := PcsIn.at (HZb.out.next HBn.out) hq
                      have HQ := hideIt hq
                      have u0 := (HRb.out.next HBn.out).1
                      obtain ⟨bk2, offk2, ek2, _, e0⟩ := KeysIn.at (HKS.out.low (HSb.out.next HBn.out).env.1) HKEY.out
                      cases ek2
                      have n1 := leq_iff q9.1 key
                      have n2 := leq_iff q9.1 own.1
                      clear hq
                      cases g7 : Op.bytesLess key q9.1 with
                      | true =>
                        rw [g7] at n1
                        go_wp2_with fail
                        go_quiet (fail)
                        have HB9 := hideIt (HBn.out.trans ((below_drewN wr nq).mono HBn.out.size))
                        go_wp2
                        exact ⟨⟨k3 + 1, by omega, by go_num, HB9⟩, by simp [intOf]; omega⟩
                      | false =>
                        rw [g7] at n1
                        have g8 : Op.bytesLess own.1 q9.1 = false := bl_false (own_max HSb.out.fit.rise HOW.out (List.mem_of_getElem? HQ.out) (fun h => by unfold kLt at h; rw [g7] at h; cases h))
                        rw [g8] at n2
                        go_wp2_with fail
                        go_quiet (fail)
                        have HB9 := hideIt (HBn.out.trans ((below_drewN wr nq).mono HBn.out.size))
                        go_wp2
                        exact ⟨⟨k3 + 1, by omega, by go_num, HB9⟩, by simp [intOf]; omega⟩
                    · go_wp2
                      exact ⟨⟨k2 + 1, by omega, by go_num, hideIt (HBW.out.trans (HBn.out.mono HBW.out.size))⟩, by simp [intOf]; omega⟩
                | true =>
                  cases ib with
                  | false =>
                    go_wp2_with fail
                    go_quiet (fail)
                    have HBq := hideIt (HBc.out.trans ((below_drewN _ nq).mono HBc.out.size))
                    go_wp2
                    go_loopw [19] (fun i wr => ∃ k3 : Nat, k3 ≤ l'.length ∧ i = .int .i64 k3 ∧ Hid (Below Wb.heap.size Wb wr)) (fun i _ => l'.length - (intOf i).toNat)
                    case atStart => exact ⟨0, Nat.zero_le _, rfl, HBq⟩
                    case round =>
                      obtain ⟨k3, hk3, rfl, HBn⟩ := hrel
                      have hl100 := HLF.out
                      by_cases hlt3 : k3 < l'.length
                      · obtain ⟨q9, hq⟩ : ∃ q9, l'[k3]? = some q9 := ⟨l'[k3], by simp [hlt3]⟩
                        obtain ⟨bq, offq, rfl, _, d0, _, _⟩ := PcsIn.at (HZb.out.next HBn.out) hq
                        have HQ := hideIt hq
                        have u0 := (HRb.out.next HBn.out).1
                        obtain ⟨bk2, offk2, ek2, _, e0⟩ := KeysIn.at (HKS.out.low (HSb.out.next HBn.out).env.1) HKEY.out
                        cases ek2
                        have n1 := leq_iff q9.1 key
                        have n2 := leq_iff q9.1 own.1
                        clear hq
                        cases g7 : Op.bytesLess key q9.1 with
                        | true =>
                          rw [g7] at n1
                          go_wp2_with fail
                          go_quiet (fail)
                          have HB9 := hideIt (HBn.out.trans ((below_drewN wr nq).mono HBn.out.size))
                          go_wp2
                          exact ⟨⟨k3 + 1, by omega, by go_num, HB9⟩, by simp [intOf]; omega⟩
                        | false =>
                          rw [g7] at n1
                          have g8 : Op.bytesLess own.1 q9.1 = false := bl_false (own_max HSb.out.fit.rise HOW.out (List.mem_of_getElem? HQ.out) (fun h => by unfold kLt at h; rw [g7] at h; cases h))
                          rw [g8] at n2
                          go_wp2_with fail
                          go_quiet (fail)
                          have HB9 := hideIt (HBn.out.trans ((below_drewN wr nq).mono HBn.out.size))
                          go_wp2
                          exact ⟨⟨k3 + 1, by omega, by go_num, HB9⟩, by simp [intOf]; omega⟩
                      · go_wp2
                        exact ⟨⟨k2 + 1, by omega, by go_num, hideIt (HBW.out.trans (HBn.out.mono HBW.out.size))⟩, by simp [intOf]; omega⟩
                  | true =>
                    have heq := own_one HOW.out (own_key HSb.out.fit.lin HONE.out HIB.out.symm)
                    have hne := fun w => neq_pc x x w
                    rw [decide_eq_true (rfl : x = x)] at hne
                    rw [heq] at r0 r1 r2 n3
                    clear heq
                    go_wp2_with fail
                    go_quiet (fail)
                    have HBq := hideIt (HBc.out.trans ((below_drewN _ nq).mono HBc.out.size))
                    go_wp2
                    go_loopw [19] (fun i wr => ∃ k3 : Nat, k3 ≤ l'.length ∧ i = .int .i64 k3 ∧ Hid (Below Wb.heap.size Wb wr)) (fun i _ => l'.length - (intOf i).toNat)
                    case atStart => exact ⟨0, Nat.zero_le _, rfl, HBq⟩
                    case round =>
                      obtain ⟨k3, hk3, rfl, HBn⟩ := hrel
                      have hl100 := HLF.out
                      by_cases hlt3 : k3 < l'.length
                      · obtain ⟨q9, hq⟩ : ∃ q9, l'[k3]? = some q9 := ⟨l'[k3], by simp [hlt3]⟩
                        obtain ⟨bq, offq, rfl, _, d0, _, _⟩ := PcsIn.at (HZb.out.next HBn.out) hq
                        have HQ := hideIt hq
                        have u0 := (HRb.out.next HBn.out).1
                        obtain ⟨bk2, offk2, ek2, _, e0⟩ := KeysIn.at (HKS.out.low (HSb.out.next HBn.out).env.1) HKEY.out
                        cases ek2
                        have n1 := leq_iff q9.1 key
                        have n2 := leq_iff q9.1 own.1
                        clear hq
                        cases g7 : Op.bytesLess key q9.1 with
                        | true =>
                          rw [g7] at n1
                          go_wp2_with fail
                          go_quiet (fail)
                          have HB9 := hideIt (HBn.out.trans ((below_drewN wr nq).mono HBn.out.size))
                          go_wp2
                          exact ⟨⟨k3 + 1, by omega, by go_num, HB9⟩, by simp [intOf]; omega⟩
                        | false =>
                          rw [g7] at n1
                          have g8 : Op.bytesLess own.1 q9.1 = false := bl_false (own_max HSb.out.fit.rise HOW.out (List.mem_of_getElem? HQ.out) (fun h => by unfold kLt at h; rw [g7] at h; cases h))
                          rw [g8] at n2
                          go_wp2_with fail
                          go_quiet (fail)
                          have HB9 := hideIt (HBn.out.trans ((below_drewN wr nq).mono HBn.out.size))
                          go_wp2
                          exact ⟨⟨k3 + 1, by omega, by go_num, HB9⟩, by simp [intOf]; omega⟩
                      · go_wp2
                        exact ⟨⟨k2 + 1, by omega, by go_num, hideIt (HBW.out.trans (HBn.out.mono HBW.out.size))⟩, by simp [intOf]; omega⟩
            · go_wp2
              exact ⟨⟨k + 1, l', by omega, by go_num, HSr⟩, by simp [intOf]; omega⟩
    · go_wp2
      go_ret
      exact ⟨rfl, HS.out.env.1⟩
end Go.Proofs.YtafhmbgnldmedaaDoor
