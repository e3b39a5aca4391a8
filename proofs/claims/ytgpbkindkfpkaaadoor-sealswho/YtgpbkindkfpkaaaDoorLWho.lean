/-
  What is proved here: the walk of cohortlaw04.SealsWho, over this program.
-/
import Derived.Test.YtgpbkindkfpkaaaDoorSF
import Derived.Test.YtgpbkindkfpkaaaDoorArg4
import Derived.Test.YtgpbkindkfpkaaaDoorStep
import Derived.Deep.RegionWith
namespace Go.Proofs.YtgpbkindkfpkaaaDoor
open Go.RowKit Go.Extern.Stop Go.Stop Go.Extern

theorem whoTo_prefix (L : List (Int × Int)) (g d : Int) (k n : Nat) : ∃ r, whoTo L g d (k + n) = whoTo L g d k ++ r := by
  induction n with
  | zero => exact ⟨[], by simp⟩
  | succ n ih =>
    obtain ⟨r, hr⟩ := ih
    rw [← Nat.add_assoc, whoTo_succ, hr]
    exact ⟨_, by rw [List.append_assoc]⟩
theorem whoTo_at {L : List (Int × Int)} {g d : Int} {k n : Nat} (hk : k < n) (h : (memb g k, d) ∈ L) : (whoTo L g d n)[(whoTo L g d k).length]? = some (k : Int) := by
  obtain ⟨r, hr⟩ := whoTo_prefix L g d (k + 1) (n - (k + 1))
  rw [show k + 1 + (n - (k + 1)) = n by omega, whoTo_succ, if_pos h] at hr
  rw [hr]
  simp
theorem memb_out (g : Int) {k : Int} (hk : 10 ≤ k) : memb g k = -1 := by unfold memb; rw [if_neg (by omega)]
theorem none_signs {L : List (Int × Int)} (h : ∀ x ∈ L, okS x.1 x.2 ∧ fits x.2) {who d : Int} (hw : who < 0) : (who, d) ∉ L := fun hm => by
  have h1 := (h _ hm).1.1
  rcases h1 with ⟨h1, _⟩ | h1 <;> simp at h1 <;> omega
theorem whoTo_out {L : List (Int × Int)} (h : ∀ x ∈ L, okS x.1 x.2 ∧ fits x.2) (g d : Int) : whoTo L g d 12 = whoTo L g d 10 := by
  rw [whoTo_succ, whoTo_succ, memb_out g (by omega), memb_out g (by omega), if_neg (none_signs h (by omega)), if_neg (none_signs h (by omega))]
  simp
theorem signs_length (L : List (Int × Int)) (who d : Int) : (signs L who d).length = L.length + (if okS who d ∧ (who, d) ∉ L then 1 else 0) := by
  unfold signs
  split <;> simp

set_option maxRecDepth 100000 in
set_option maxHeartbeats 16000000 in
theorem who_true (v : Value) (l : List Op4) (group digest : Int) (w : World) (hv : Ops4In w (· < w.heap.size) v l) (hll : l.length ≤ maxLen) (hok : ∀ y ∈ l, Op4Ok y) (f2 : fits digest) (hg : ET w) (ht : PT w) :
    Calls Tryd.prog 6 #[v, .int .i64 group, .int .i64 digest] w fun e w' => e = .returned (.bool true) ∧ Below w.heap.size w w' := by
  have HV0 : Hid (Env w w) := ⟨Below.refl _ _, hg, ht⟩
  have HH := hideIt (head04_true w hg ht)
  have HY := hideIt hv
  have HF := hideIt f2
  have HK := hideIt hok
  obtain ⟨a, cap, rfl⟩ := hv.form
  unfold maxLen at hll
  clear hg ht hv f2 hok
  go_enter Tryd.func6, Tryd.ntmps6
  go_wp2_with fail
  refine HH.out.mono ?_
  rintro e w1 ⟨rfl, hb1⟩
  have HV1 := hideIt (HV0.out.next hb1)
  clear hb1 HH HV0
  go_wp2_with fail
  refine (sNew_any w1).mono ?_
  rintro e w2 ⟨p, rfl, hs, hb⟩
  have HV2 := hideIt (HV1.out.next hb)
  obtain ⟨O, HS2, HO⟩ : ∃ O : Nat → Prop, Hid (SealSt w2 p O []) ∧ Hid (∀ k, O k → w.heap.size ≤ k) := ⟨_, hs, fun k hk => by have := HV1.out.1.size; have := hk.1; omega⟩
  clear hs hb HV1
  by_cases hl2 : (200 : Int) < (l.length : Int)
  · go_wp2
    go_ret
    exact ⟨rfl, HV2.out.1⟩
  · go_wp2
    go_loopw [9, 10] (fun nv i wr => ∃ (k : Nat) (L : List (Int × Int)), k ≤ l.length ∧ i = .int .i64 k ∧ nv = .int .i64 L.length ∧ L.length ≤ k ∧ Hid (SealSt wr p O L) ∧ Hid (Env w wr)) (fun _ i _ => l.length - (intOf i).toNat)
    case atStart => exact ⟨0, [], Nat.zero_le _, rfl, rfl, Nat.le_refl _, HS2.out, HV2.out⟩
    case round =>
      clear HS2 HV2
      obtain ⟨k, L, hk, rfl, rfl, hL, HS, HV⟩ := hrel
      by_cases hlt : k < l.length
      · obtain ⟨x, hx⟩ : ∃ x, l[k]? = some x := ⟨l[k], by simp [hlt]⟩
        have hy := HY.out.kept (Kept.of_below HV.out.1 (fun _ h _ => h))
        obtain ⟨b, off, rfl, hbw, c0, c1, c2⟩ := hy.at hx
        have HX := hideIt (HK.out x (List.mem_of_getElem? hx))
        have hbr : b < wr.heap.size := lt_of_cell (a := ⟨b, off + k * 3, none⟩) c0
        have hL2 : L.length < 131072 := by omega
        have HL2 := hideIt hL2
        have HSL := hideIt (signs_length L x.2.1 x.2.2)
        obtain ⟨r, hr⟩ : ∃ r, decide ((x.2.1, x.2.2) ∈ L) = r := ⟨_, rfl⟩
        have HR := hideIt hr
        clear hx hbw c0 hL2 hy hr
        go_wp2
        refine wp_region_quiet_grow (by kernel_rfl) (by kernel_rfl) ?_
        intro ι _ f hf hn
        have hc1 := fun i => ((hf i).cell (p := ⟨b, off + k * 3 + 1, none⟩) hbr).trans c1
        have hc2 := fun i => ((hf i).cell (p := ⟨b, off + k * 3 + 2, none⟩) hbr).trans c2
        have HSF := hideIt (fun i => HS.out.kept (Kept.of_all (hf i)))
        have HFF := hideIt hf
        have HN := hideIt hn
        have HA2 := hideIt (fun i => sSigned_any (f i) p O _ x.2.1 x.2.2 (HSF.out i) HX.out.2.1 HX.out.2.2)
        rw [HR.out] at HA2
        clear hf hn
        repeat (go_big_quiet_step ((go_at_call 15; exact Calls.grow HN.out (HA2.out _))))
        refine wpQuiet_nil ?_
        rintro w8 ⟨i, rfl⟩
        have HV8 := hideIt (HV.out.next (HFF.out i))
        have HS8 := hideIt (HSF.out i).drew
        have e1 := hc1 i
        have e2 := hc2 i
        clear hc1 hc2 HFF HN HSF HA2 c1 c2 HS HV hbr
        generalize f i = w8 at HV8 HS8 e1 e2 ⊢
        go_wp2
        go_region_with (go_at_call 10; refine (sSign_any _ p O L _ _ HS8.out HX.out.2.1 HX.out.2.2 HL2.out).mono ?_; rintro e w4 ⟨er, rfl, hp4, hs4, ht4⟩; have HP4 := hideIt hp4; have HS4 := hideIt hs4; have HV4 := hideIt (HV8.out.turned ht4.drew HO.out); clear hs4 ht4 hp4)
        all_goals
          clear HS8 e1 e2
          have hform : er = .nilIface ∧ okS x.2.1 x.2.2 ∨ (∃ ty y, er = .iface ty y) ∧ ¬ okS x.2.1 x.2.2 := by
            rcases HP4.out with ⟨h1, h2⟩ | ⟨h1, h2⟩
            · exact Or.inl ⟨h2, h1⟩
            · exact Or.inr ⟨h2.iface, h1⟩
          clear HP4
          rcases hform with ⟨rfl, hk2⟩ | ⟨⟨ty, y, rfl⟩, hk2⟩
          · cases r
            · have hlen : (signs L x.2.1 x.2.2).length = L.length + 1 := by rw [HSL.out, if_pos ⟨hk2, by simpa using HR.out⟩]
              have HLN := hideIt hlen
              clear hlen hk2
              go_wp2
              have := HLN.out
              exact ⟨⟨k + 1, signs L x.2.1 x.2.2, by omega, by go_num, by rw [this]; go_num, by omega, HS4.out, HV4.out⟩, by simp [intOf]; omega⟩
            · have hlen : (signs L x.2.1 x.2.2).length = L.length := by rw [HSL.out, if_neg (fun h => h.2 (by simpa using HR.out)), Nat.add_zero]
              have HLN := hideIt hlen
              clear hlen hk2
              go_wp2
              have := HLN.out
              exact ⟨⟨k + 1, signs L x.2.1 x.2.2, by omega, by go_num, by rw [this], by omega, HS4.out, HV4.out⟩, by simp [intOf]; omega⟩
          · rw [signs_not hk2] at HS4
            clear hk2
            go_wp2
            exact ⟨⟨k + 1, L, by omega, by go_num, rfl, by omega, HS4.out, HV4.out⟩, by simp [intOf]; omega⟩
      · go_wp2_with fail
        refine (sWho_any _ p O L group digest HS.out HF.out).mono ?_
        rintro e w3 ⟨vw, rfl, hr3, hb3⟩
        have HS3 := hideIt (HS.out.kept (Kept.of_all hb3))
        have HV3 := hideIt (HV.out.next hb3)
        have HOK := hideIt HS.out.ok
        obtain ⟨aw, cw, rfl⟩ := own_form hr3
        obtain ⟨N, hN⟩ : ∃ N, (whoTo L group digest 10).length = N := ⟨_, rfl⟩
        have hN10 : N ≤ 10 := by rw [← hN]; exact whoTo_le _ _ _ _
        rw [hN] at hr3 ⊢
        have HN := hideIt hN
        have HR3 := hideIt hr3
        obtain ⟨B0, hB0⟩ : ∃ B0, wr.heap.size = B0 := ⟨_, rfl⟩
        rw [hB0] at HR3
        clear hr3 hb3 HS HV hN hB0
        go_wp2
        go_loopw [14, 15] (fun mv i wq => ∃ (j M : Nat), j ≤ 12 ∧ M ≤ j ∧ i = .int .i64 j ∧ mv = .int .i64 M ∧ Hid ((whoTo L group digest j).length = M) ∧ Hid (SealSt wq p O L) ∧ Hid (Env w wq) ∧ Hid (wq.ownsRow B0 3 1 (.slice aw N cw) N (numCells (whoTo L group digest 10)))) (fun _ i _ => 12 - (intOf i).toNat)
        case atStart => exact ⟨0, 0, by omega, by omega, rfl, rfl, rfl, HS3.out, HV3.out, HR3.out⟩
        case round =>
          clear HS3 HV3 HR3
          obtain ⟨j, M, hj, hM, rfl, rfl, HM, HS, HV, HR⟩ := hrel
          by_cases hlj : j < 12
          · have HSU := hideIt (whoTo_succ L group digest j)
            obtain ⟨m, hm⟩ : ∃ m, memb group j = m := ⟨_, rfl⟩
            have HMM := hideIt hm
            by_cases hin : (m, digest) ∈ L
            · have hm0 : 0 ≤ m := by
                by_cases h : 0 ≤ m
                · exact h
                · exact absurd hin (none_signs HOK.out (by omega))
              have hj10 : j < 10 := by
                by_cases h : j < 10
                · exact h
                · have := memb_out group (k := j) (by omega); omega
              have hin2 : (memb group j, digest) ∈ L := by rw [hm]; exact hin
              have HSU2 : Hid ((whoTo L group digest (j + 1)).length = M + 1) := hideIt (by rw [HSU.out, if_pos hin2]; simp [HM.out])
              have hat := whoTo_at hj10 hin2
              rw [HM.out] at hat
              have hMN : M < N := by
                have := (List.getElem?_eq_some_iff.1 hat).1
                rw [HN.out] at this
                exact this
              obtain ⟨gb, gc, e3, c3, hgc⟩ := own_cell HR.out hat
              simp only [Value.slice.injEq] at e3
              obtain ⟨rfl, _, rfl⟩ := e3
              have hdec : decide ((m, digest) ∈ L) = true := by simp [hin]
              have HFM : Hid (fits m) := hideIt (by rw [← hm]; exact fits_memb _ _)
              clear hin hin2 hat hj10
              go_wp2_with fail
              refine (sMember_any group j _).mono ?_
              rw [hm]
              rintro e w5 ⟨rfl, rfl⟩
              clear hm
              go_wp2_with fail
              refine (sSigned_any _ p O L m digest HS.out HFM.out HF.out).mono ?_
              rw [hdec]
              rintro e w6 ⟨rfl, hb6⟩
              have HS6 := hideIt (HS.out.kept (Kept.of_all hb6))
              have HV6 := hideIt (HV.out.next hb6)
              have HR6 : Hid (w6.ownsRow B0 3 1 (.slice (some ⟨gb, 0, none⟩) N cw) N (numCells (whoTo L group digest 10))) := ownsRow_of_block HR.out (fun q hq => hb6.block q (ownsRow_lt HR.out hq))
              have c6 := (hb6.cell (lt_of_cell c3)).trans c3
              clear hb6 hdec c3 HS HV HR
              go_wp2
              exact ⟨⟨j + 1, M + 1, by omega, by omega, by go_num, by go_num, HSU2.out, HS6.out, HV6.out, HR6.out⟩, by simp [intOf]; omega⟩
            · have hin2 : ¬ (memb group j, digest) ∈ L := by rw [hm]; exact hin
              have HSU2 : Hid ((whoTo L group digest (j + 1)).length = M) := hideIt (by rw [HSU.out, if_neg hin2]; simp [HM.out])
              have hdec : decide ((m, digest) ∈ L) = false := by simp [hin]
              have HFM : Hid (fits m) := hideIt (by rw [← hm]; exact fits_memb _ _)
              clear hin hin2
              by_cases hm0 : 0 ≤ m
              · go_wp2_with fail
                refine (sMember_any group j _).mono ?_
                rw [hm]
                rintro e w5 ⟨rfl, rfl⟩
                clear hm
                go_wp2_with fail
                refine (sSigned_any _ p O L m digest HS.out HFM.out HF.out).mono ?_
                rw [hdec]
                rintro e w6 ⟨rfl, hb6⟩
                have HS6 := hideIt (HS.out.kept (Kept.of_all hb6))
                have HV6 := hideIt (HV.out.next hb6)
                have HR6 : Hid (w6.ownsRow B0 3 1 (.slice aw N cw) N (numCells (whoTo L group digest 10))) := ownsRow_of_block HR.out (fun q hq => hb6.block q (ownsRow_lt HR.out hq))
                clear hb6 hdec HS HV HR
                go_wp2
                exact ⟨⟨j + 1, M, by omega, by omega, by go_num, rfl, HSU2.out, HS6.out, HV6.out, HR6.out⟩, by simp [intOf]; omega⟩
              · go_wp2_with fail
                refine (sMember_any group j _).mono ?_
                rw [hm]
                rintro e w5 ⟨rfl, rfl⟩
                clear hm hdec
                go_wp2
                exact ⟨⟨j + 1, M, by omega, by omega, by go_num, rfl, HSU2.out, HS.out, HV.out, HR.out⟩, by simp [intOf]; omega⟩
          · have ej : j = 12 := by omega
            subst ej
            have hMN : M = N := by rw [← HM.out, ← HN.out, whoTo_out HOK.out]
            subst hMN
            go_wp2_with fail
            refine (sMany_any _ p O L HS.out).mono ?_
            rintro e w7 ⟨rfl, rfl⟩
            go_wp2
            go_ret
            exact ⟨rfl, HV.out.1⟩
end Go.Proofs.YtgpbkindkfpkaaaDoor
