/-
  What is proved here: the walk of cohortlaw04.SealsStay, over this program.
-/
import Derived.Test.YtgpbkindkfpkaaaDoorSF
import Derived.Test.YtgpbkindkfpkaaaDoorArg4
import Derived.Test.YtgpbkindkfpkaaaDoorStep
import Derived.Deep.RegionWith
namespace Go.Proofs.YtgpbkindkfpkaaaDoor
open Go.RowKit Go.Extern.Stop Go.Stop Go.Extern

set_option maxRecDepth 100000 in
set_option maxHeartbeats 16000000 in
theorem stay_true (v : Value) (l : List Op4) (who digest : Int) (w : World) (hv : Ops4In w (· < w.heap.size) v l) (hll : l.length ≤ maxLen) (hok : ∀ y ∈ l, Op4Ok y) (f1 : fits who) (f2 : fits digest) (hg : ET w) (ht : PT w) :
    Calls Tryd.prog 5 #[v, .int .i64 who, .int .i64 digest] w fun e w' => e = .returned (.bool true) ∧ Below w.heap.size w w' := by
  have HV0 : Hid (Env w w) := ⟨Below.refl _ _, hg, ht⟩
  have HH := hideIt (head04_true w hg ht)
  have HY := hideIt hv
  have HF := hideIt (And.intro f1 f2)
  have HK := hideIt hok
  obtain ⟨a, cap, rfl⟩ := hv.form
  unfold maxLen at hll
  clear hg ht hv f1 f2 hok
  go_enter Tryd.func5, Tryd.ntmps5
  go_wp2_with fail
  refine HH.out.mono ?_
  rintro e w1 ⟨rfl, hb1⟩
  have HV1 := hideIt (HV0.out.next hb1)
  clear hb1 HH HV0
  go_wp2_with fail
  refine (sNew_any w1).mono ?_
  rintro e w2 ⟨p, rfl, hs, hb⟩
  have HV2 := hideIt (HV1.out.next hb)
  obtain ⟨O, HS2, HO⟩ : ∃ O : Nat → Prop, Hid (SealSt w2 p O []) ∧ Hid (∀ k, O k → w.heap.size ≤ k) := ⟨_, hs, fun k hk => by have := HV1.out.1.size; have := hk.1; omega⟩
  clear hs hb HV1
  by_cases hl2 : (200 : Int) < (l.length : Int)
  · go_wp2
    go_ret
    exact ⟨rfl, HV2.out.1⟩
  · go_wp2
    go_loopw [9, 10] (fun isv i wr => ∃ (k : Nat) (L : List (Int × Int)) (r : Bool), k ≤ l.length ∧ i = .int .i64 k ∧ isv = .bool r ∧ L.length ≤ k ∧ Hid (decide ((who, digest) ∈ L) = r) ∧ Hid (SealSt wr p O L) ∧ Hid (Env w wr)) (fun _ i _ => l.length - (intOf i).toNat)
    case atStart => exact ⟨0, [], false, Nat.zero_le _, rfl, rfl, Nat.le_refl _, rfl, HS2.out, HV2.out⟩
    case round =>
      clear HS2 HV2
      obtain ⟨k, L, r, hk, rfl, rfl, hL, HR, HS, HV⟩ := hrel
      by_cases hlt : k < l.length
      · obtain ⟨x, hx⟩ : ∃ x, l[k]? = some x := ⟨l[k], by simp [hlt]⟩
        have hy := HY.out.kept (Kept.of_below HV.out.1 (fun _ h _ => h))
        obtain ⟨b, off, rfl, hbw, c0, c1, c2⟩ := hy.at hx
        have HBW := hideIt hbw
        have HXL := hideIt hx
        have HX := hideIt (HK.out x (List.mem_of_getElem? hx))
        have HSd := hideIt HS.out.drew
        have hL2 : L.length < 131072 := by omega
        have HL2 := hideIt hL2
        have HSL := hideIt (signs_le L x.2.1 x.2.2)
        clear hx hbw c0 hL2 hy
        go_wp2
        go_region_with (go_at_call 10; refine (sSign_any _ p O L _ _ HSd.out HX.out.2.1 HX.out.2.2 HL2.out).mono ?_; rintro e w4 ⟨er, rfl, hp4, hs4, ht4⟩; have HP4 := hideIt hp4; have HS4 := hideIt hs4; have HV4 := hideIt (HV.out.turned ht4.drew HO.out); clear hs4 ht4 hp4)
        all_goals
          have d1 : w4.cell? ⟨b, off + k * 3 + 1, none⟩ = some (.int .i64 x.2.1) := by
            rw [World.cell?_of_block (a := ⟨b, off + k * 3 + 1, none⟩) (HV4.out.1.block b HBW.out), ← World.cell?_of_block (a := ⟨b, off + k * 3 + 1, none⟩) (HV.out.1.block b HBW.out)]; exact c1
          have d2 : w4.cell? ⟨b, off + k * 3 + 2, none⟩ = some (.int .i64 x.2.2) := by
            rw [World.cell?_of_block (a := ⟨b, off + k * 3 + 2, none⟩) (HV4.out.1.block b HBW.out), ← World.cell?_of_block (a := ⟨b, off + k * 3 + 2, none⟩) (HV.out.1.block b HBW.out)]; exact c2
          have hb4 : b < w4.heap.size := lt_of_cell (a := ⟨b, off + k * 3 + 1, none⟩) d1
          clear c1 c2 HSd HS
          have hform : er = .nilIface ∧ okS x.2.1 x.2.2 ∨ (∃ ty y, er = .iface ty y) ∧ ¬ okS x.2.1 x.2.2 := by
            rcases HP4.out with ⟨h1, h2⟩ | ⟨h1, h2⟩
            · exact Or.inl ⟨h2, h1⟩
            · exact Or.inr ⟨h2.iface, h1⟩
          rcases hform with ⟨rfl, hk2⟩ | ⟨⟨ty, y, rfl⟩, hk2⟩
          · have HIN : Hid (decide ((x.2.1, x.2.2) ∈ signs L x.2.1 x.2.2) = true) := hideIt (by rw [decide_eq_true_eq, signs_mem]; exact Or.inr ⟨hk2, rfl⟩)
            have HB2 := hideIt (signs_bool (L := L) hk2 who digest)
            rw [HR.out] at HB2
            clear hk2 HP4
            obtain ⟨q1, hq1⟩ : ∃ q, (x.2.1 == who) = q := ⟨_, rfl⟩
            obtain ⟨q2, hq2⟩ : ∃ q, (x.2.2 == digest) = q := ⟨_, rfl⟩
            rw [hq1, hq2] at HB2
            have HE : ∃ r', r' = (r || (q1 && q2)) ∧ Hid (decide ((who, digest) ∈ signs L x.2.1 x.2.2) = r') := ⟨_, rfl, HB2⟩
            obtain ⟨r', hr', HB3⟩ := HE
            clear HB2
            have hcs : (r = true ∧ r' = true) ∨ (r = false ∧ q1 = false ∧ r' = false) ∨ (r = false ∧ q1 = true ∧ q2 = false ∧ r' = false) ∨ (r = false ∧ q1 = true ∧ q2 = true ∧ r' = true) := by
              cases r <;> cases q1 <;> cases q2 <;> simp_all
            clear hr'
            rcases hcs with ⟨rfl, rfl⟩ | ⟨rfl, rfl, rfl⟩ | ⟨rfl, rfl, rfl, rfl⟩ | ⟨rfl, rfl, rfl, rfl⟩
            all_goals
              go_wp2
              clear hq1 hq2
              refine wp_region_quiet_grow (by kernel_rfl) (by kernel_rfl) ?_
              intro ι _ f hf hn
              have hc1 := fun i => ((hf i).cell (p := ⟨b, off + k * 3 + 1, none⟩) hb4).trans d1
              have hc2 := fun i => ((hf i).cell (p := ⟨b, off + k * 3 + 2, none⟩) hb4).trans d2
              have HSF := hideIt (fun i => HS4.out.kept (Kept.of_all (hf i)))
              have HFF := hideIt hf
              have HN := hideIt hn
              have HA1 := hideIt (fun i => sSigned_any (f i) p O _ who digest (HSF.out i) HF.out.1 HF.out.2)
              have HA2 := hideIt (fun i => sSigned_any (f i) p O _ x.2.1 x.2.2 (HSF.out i) HX.out.2.1 HX.out.2.2)
              rw [HB3.out] at HA1
              rw [HIN.out] at HA2
              clear hf hn
              iterate 4 (go_big_quiet_step ((go_at_call 15; exact Calls.grow HN.out (HA1.out _))))
              repeat (go_big_quiet_step ((go_at_call 15; exact Calls.grow HN.out (HA2.out _))))
              refine wpQuiet_nil ?_
              rintro w8 ⟨i, rfl⟩
              have HV8 := hideIt (HV4.out.next (HFF.out i))
              have HS8 := hideIt (HSF.out i)
              clear hc1 hc2 HFF HN HSF HA1 HA2
              generalize f i = w8 at HV8 HS8 ⊢
              go_wp2
              have := HSL.out
              exact ⟨⟨k + 1, signs L x.2.1 x.2.2, _, by omega, by go_num, rfl, by omega, HB3.out, HS8.out, HV8.out⟩, by simp [intOf]; omega⟩
          · rw [signs_not hk2] at HS4
            clear hk2 HP4
            cases r
            all_goals
              go_wp2
              refine wp_region_quiet_grow (by kernel_rfl) (by kernel_rfl) ?_
              intro ι _ f hf hn
              have HSF := hideIt (fun i => HS4.out.kept (Kept.of_all (hf i)))
              have HFF := hideIt hf
              have HN := hideIt hn
              have HA1 := hideIt (fun i => sSigned_any (f i) p O _ who digest (HSF.out i) HF.out.1 HF.out.2)
              rw [HR.out] at HA1
              clear hf hn
              repeat (go_big_quiet_step ((go_at_call 15; exact Calls.grow HN.out (HA1.out _))))
              refine wpQuiet_nil ?_
              rintro w8 ⟨i, rfl⟩
              have HV8 := hideIt (HV4.out.next (HFF.out i))
              have HS8 := hideIt (HSF.out i)
              clear HFF HN HSF HA1
              generalize f i = w8 at HV8 HS8 ⊢
              go_wp2
              exact ⟨⟨k + 1, L, _, by omega, by go_num, rfl, by omega, HR.out, HS8.out, HV8.out⟩, by simp [intOf]; omega⟩
      · go_wp2
        go_ret
        exact ⟨rfl, HV.out.1⟩
end Go.Proofs.YtgpbkindkfpkaaaDoor
