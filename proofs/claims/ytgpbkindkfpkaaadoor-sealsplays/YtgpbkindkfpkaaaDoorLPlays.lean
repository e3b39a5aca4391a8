/-
  What is proved here: the walk of cohortlaw04.SealsPlays, over this program.
-/
import Derived.Test.YtgpbkindkfpkaaaDoorSH
import Derived.Test.YtgpbkindkfpkaaaDoorArg4
import Derived.Test.YtgpbkindkfpkaaaDoorStep
import Derived.Test.YtgpbkindkfpkaaaDoorSame
import Derived.Deep.RegionWith
import Derived.Deep.RegionHeld3
import Derived.Laws.BitsLemmas
namespace Go.Proofs.YtgpbkindkfpkaaaDoor
open Go.RowKit Go.Extern.Stop Go.Stop Go.Extern

theorem neg_signs {L : List (Int × Int)} (h : ∀ x ∈ L, okS x.1 x.2 ∧ fits x.2) : ∀ d, ((-1 : Int), d) ∉ L := fun d hm => by
  have h1 := (h _ hm).1.1
  rcases h1 with ⟨h1, _⟩ | h1 <;> simp at h1
theorem low2 (n : Int) : Go.bits BinOp.and IntKind.i64 n 3 = n % 4 := by
  have h3 : (BitVec.ofInt 64 3).toNat = 2 ^ 2 - 1 := by decide
  have key : (BitVec.ofInt 64 n &&& BitVec.ofInt 64 3).toNat = (n % ((2 ^ 64 : Nat) : Int)).toNat % 2 ^ 2 := by
    rw [BitVec.toNat_and, BitVec.toNat_ofInt, h3, Nat.and_two_pow_sub_one_eq_mod]
  show IntKind.i64.wrap ((BitVec.ofInt 64 n &&& BitVec.ofInt 64 3).toNat : Nat) = n % 4
  rw [key, IntKind.wrap_i64]
  omega

set_option maxRecDepth 100000 in
set_option maxHeartbeats 16000000 in
theorem plays_true (v : Value) (l : List Op4) (w : World) (hv : Ops4In w (· < w.heap.size) v l) (hll : l.length ≤ maxLen) (hok : ∀ y ∈ l, Op4Ok y) (hg : ET w) (ht : PT w) :
    Calls Tryd.prog 3 #[v] w fun e w' => e = .returned (.bool true) ∧ Below w.heap.size w w' := by
  have HV0 : Hid (Env w w) := ⟨Below.refl _ _, hg, ht⟩
  have HH := hideIt (head04_true w hg ht)
  have HY := hideIt hv
  have HK := hideIt hok
  obtain ⟨a, cap, rfl⟩ := hv.form
  unfold maxLen at hll
  clear hg ht hv hok
  go_enter Tryd.func3, Tryd.ntmps3
  go_wp2_with fail
  refine HH.out.mono ?_
  rintro e w1 ⟨rfl, hb1⟩
  have HV1 := hideIt (HV0.out.next hb1)
  clear hb1 HH HV0
  go_wp2_with fail
  refine (sNew_any w1).mono ?_
  rintro e w2 ⟨p, rfl, hs, hb⟩
  have HV2 := hideIt (HV1.out.next hb)
  obtain ⟨O, HS2, HO⟩ : ∃ O : Nat → Prop, Hid (SealSt w2 p O []) ∧ Hid (∀ k, O k → w.heap.size ≤ k ∧ k < w2.heap.size) := ⟨_, hs, fun k hk => by have := HV1.out.1.size; have := hk.1; have := hk.2; omega⟩
  clear hs hb HV1
  by_cases hl2 : (200 : Int) < (l.length : Int)
  · go_wp2
    go_ret
    exact ⟨rfl, HV2.out.1.alloc HV2.out.1.size _⟩
  · obtain ⟨C, hC⟩ : ∃ C, w2.heap.size = C := ⟨_, rfl⟩
    have hal : Below w2.heap.size w2 (w2.alloc (.cells #[.slice none 0 0] 29)) := (Below.refl _ _).alloc (Nat.le_refl _) _
    have HD2 := hideIt (DSSt.new w2)
    have HV3 := hideIt (HV2.out.next hal)
    have HS3 := hideIt (HS2.out.kept (Kept.of_all hal))
    have hs3 : (w2.alloc (.cells #[.slice none 0 0] 29)).heap.size = C + 1 := by simp [hC]
    rw [hC] at HD2 HO
    have hwC : w.heap.size ≤ C := by rw [← hC]; exact HV2.out.1.size
    clear hal HV2 HS2
    go_wp2
    generalize w2.alloc (.cells #[.slice none 0 0] 29) = w3 at HD2 HV3 HS3 hs3 ⊢
    clear hC
    go_loopw [6] (fun i wr => ∃ (k : Nat) (L : List (Int × Int)) (O2 : Nat → Prop), k ≤ l.length ∧ i = .int .i64 k ∧ L.length ≤ k ∧ Hid (SealSt wr p O L) ∧ Hid (DSSt wr C O2 L) ∧ Hid (∀ j, O2 j → C ≤ j ∧ j < wr.heap.size) ∧ Hid (Env w wr) ∧ C ≤ wr.heap.size) (fun i _ => l.length - (intOf i).toNat)
    case atStart => exact ⟨0, [], _, Nat.zero_le _, rfl, Nat.le_refl _, HS3.out, HD2.out, fun j hj => by omega, HV3.out, by omega⟩
    case round =>
      clear HS3 HD2 HV3 hs3
      obtain ⟨k, L, O2, hk, rfl, hL, HS, HD, HO2, HV, hCr⟩ := hrel
      by_cases hlt : k < l.length
      · obtain ⟨x, hx⟩ : ∃ x, l[k]? = some x := ⟨l[k], by simp [hlt]⟩
        obtain ⟨b, off, rfl, hbw, c0, c1, c2⟩ := (HY.out.kept (Kept.of_below HV.out.1 (fun _ h _ => h))).at hx
        have HX := hideIt (HK.out x (List.mem_of_getElem? hx))
        have hand : Go.bits BinOp.and IntKind.i64 x.1 3 = x.1 % 4 := low2 x.1
        have hL2 : L.length < 131072 := by omega
        have HL2 := hideIt hL2
        clear hx hbw hL2
        obtain ⟨ob, hob⟩ : ∃ ob, wr.heap.size = ob := ⟨_, rfl⟩
        have hal : Below wr.heap.size wr (wr.alloc (.cells #[.int .i64 x.1, .int .i64 x.2.1, .int .i64 x.2.2] 31)) := (Below.refl _ _).alloc (Nat.le_refl _) _
        have e1 : (wr.alloc (.cells #[.int .i64 x.1, .int .i64 x.2.1, .int .i64 x.2.2] 31)).cell? ⟨ob, 1, none⟩ = some (.int .i64 x.2.1) := by rw [World.cell?_alloc_at _ _ _ _ hob.symm]; rfl
        have e2 : (wr.alloc (.cells #[.int .i64 x.1, .int .i64 x.2.1, .int .i64 x.2.2] 31)).cell? ⟨ob, 2, none⟩ = some (.int .i64 x.2.2) := by rw [World.cell?_alloc_at _ _ _ _ hob.symm]; rfl
        have hs4 : (wr.alloc (.cells #[.int .i64 x.1, .int .i64 x.2.1, .int .i64 x.2.2] 31)).heap.size = ob + 1 := by simp [hob]
        have HS4 := hideIt (HS.out.kept (Kept.of_all hal))
        have HD4 := hideIt (HD.out.kept (Kept.of_all hal))
        have HV4 := hideIt (HV.out.next hal)
        have hOb : Hid (¬ O ob) := hideIt (fun h => by have := (HO.out ob h).2; omega)
        have HO2b : Hid (∀ j, O2 j → C ≤ j ∧ j < ob) := fun j hj => by rw [← hob]; exact HO2.out j hj
        have hCo : C ≤ ob := by rw [← hob]; exact hCr
        clear hal HS HD HV HO2 hCr
        have hkinds : x.1 % 4 = 0 ∨ x.1 % 4 = 1 ∨ x.1 % 4 = 2 ∨ x.1 % 4 = 3 := by omega
        rcases hkinds with hk0 | hk1 | hk2 | hk3
        · rw [hk0] at hand
          clear hk0
          go_wp2_with fail
          generalize (wr.alloc (.cells #[.int .i64 x.1, .int .i64 x.2.1, .int .i64 x.2.2] 31)) = w4 at HS4 HD4 HV4 e1 e2 hs4 ⊢
          clear c0 c1 c2 hob
          refine (sSign_any _ p O L _ _ HS4.out HX.out.2.1 HX.out.2.2 HL2.out).mono ?_
          rintro e w5 ⟨er, rfl, hp5, hs5, ht5⟩
          have HS5 := hideIt hs5
          have HV5 := hideIt (HV4.out.turned ht5 (fun j hj => (HO.out j hj).1))
          have HD5 := hideIt (HD4.out.kept (ht5.kept (fun j hj _ ho => by have := (HO.out j ho).2; have := (HO2b.out j hj).1; omega)))
          have hobb : w5.heap[ob]? = w4.heap[ob]? := ht5.block ob (by omega) hOb.out
          have g1 : w5.cell? ⟨ob, 1, none⟩ = some (.int .i64 x.2.1) := (World.cell?_of_block (a := ⟨ob, 1, none⟩) hobb).trans e1
          have g2 : w5.cell? ⟨ob, 2, none⟩ = some (.int .i64 x.2.2) := (World.cell?_of_block (a := ⟨ob, 2, none⟩) hobb).trans e2
          have hs5' := ht5.size
          have HP5 := hideIt hp5
          have hform : er = .nilIface ∧ okS x.2.1 x.2.2 ∨ (∃ ty y, er = .iface ty y) ∧ ¬ okS x.2.1 x.2.2 := by
            rcases hp5 with ⟨h1, h2⟩ | ⟨h1, h2⟩
            · exact Or.inl ⟨h2, h1⟩
            · exact Or.inr ⟨h2.iface, h1⟩
          clear hp5 hs5 ht5 hobb HS4 HD4 HV4 e1 e2
          rcases hform with ⟨rfl, hk2⟩ | ⟨⟨ty, y, rfl⟩, hk2⟩
          · have HK2 := hideIt hk2
            clear hk2 HP5
            go_wp2_with fail
            refine (dsSign_ok _ C O2 L _ _ HD5.out HK2.out HL2.out).mono ?_
            rintro e w6 ⟨rfl, O3, hd6, ht6, ho6⟩
            have HV6 := hideIt (HV5.out.turned ht6 (fun j hj => by have := (HO2b.out j hj).1; omega))
            have HS6 := hideIt (HS5.out.kept (ht6.kept (fun j hj _ ho => by have := (HO.out j hj).2; have := (HO2b.out j ho).1; omega)))
            have HD6 := hideIt hd6
            have HO6 : Hid (∀ j, O3 j → C ≤ j ∧ j < w6.heap.size) := fun j hj => by
              obtain ⟨h1 | h1, h2⟩ := ho6 j hj
              · exact ⟨(HO2b.out j h1).1, h2⟩
              · exact ⟨by omega, h2⟩
            have hs6 := ht6.size
            clear hd6 ht6 ho6 HD5 HS5 HV5 g1 g2
            go_wp2
            refine wp_region_quiet_grow (by kernel_rfl) (by kernel_rfl) ?_
            intro ι _ f hf hn
            have HF := hideIt hf
            have HN := hideIt hn
            clear hf hn
            repeat (go_big_quiet_step ((go_at_call 12; exact Calls.grow HN.out (Code_nil _))))
            refine wpQuiet_nil ?_
            rintro w8 ⟨i, rfl⟩
            have HV8 := hideIt (HV6.out.next (HF.out i))
            have HS8 := hideIt (HS6.out.kept (Kept.of_all (HF.out i)))
            have HD8 := hideIt (HD6.out.kept (Kept.of_all (HF.out i)))
            have hs8 := (HF.out i).size
            clear HF HN
            generalize f i = w8 at HV8 HS8 HD8 hs8 ⊢
            obtain ⟨aq, capq, cq⟩ := HD8.out.len
            go_wp2
            go_quiet ((go_at_call 20; exact Calls.quiet_of_same (sMany_any _ p O (signs L x.2.1 x.2.2) (HS8.out.kept (Kept.of_all (below_drewN w8 _))))))
            have HV9 := hideIt (HV8.out.next (below_drewN w8 nq))
            have HS9 := hideIt (HS8.out.kept (Kept.of_all (below_drewN w8 nq)))
            have HD9 := hideIt (HD8.out.kept (Kept.of_all (below_drewN w8 nq)))
            have hs9 : w8.heap.size ≤ (w8.drewN nq).heap.size := (below_drewN w8 nq).size
            generalize w8.drewN nq = w9 at HV9 HS9 HD9 hs9 ⊢
            go_wp2
            have hle := signs_le L x.2.1 x.2.2
            exact ⟨⟨k + 1, (signs L x.2.1 x.2.2), O3, by omega, by go_num, by omega, HS9.out, HD9.out, fun j hj => ⟨(HO6.out j hj).1, by have := (HO6.out j hj).2; omega⟩, HV9.out, by omega⟩, by simp [intOf]; omega⟩
          · rw [signs_not hk2] at HS5
            have HK2 := hideIt hk2
            have HO5 : Hid (One w5 (fun j => j = w4.heap.size) (.iface ty y) 1 ⟨#[115, 101, 97, 108, 115]⟩ x.2.1) := by
              rcases HP5.out with ⟨h1, _⟩ | ⟨_, h2⟩
              · exact absurd h1 hk2
              · exact h2
            clear hk2 HP5
            go_wp2_with fail
            refine (dsSign_bad _ C _ _ HK2.out).mono ?_
            rintro e w6 ⟨rfl, rfl⟩
            have HA1 := hideIt ((HV5.out.at HO5.out).next (below_drew w6))
            have hql : ob < w6.heap.size := by omega
            have HKQ := hideIt g1
            clear HO5
            go_wp2
            go_region_held3 (fun w' => w'.cell? ⟨ob, 1, none⟩ = some (.int .i64 x.2.1)) (first | exact g1 | exact HK8.out | exact HK9.out | exact HK10.out | go_keep)
              (first
              | (go_at_call 12; refine HA1.out.code.mono ?_; rintro e w8 ⟨rfl, H8, HB8⟩; have HK8 : Hid (w8.cell? ⟨ob, 1, none⟩ = some (.int .i64 x.2.1)) := (HB8.out.cell (p := ⟨ob, 1, none⟩) hql).trans HKQ.out; have hq8 : ob < w8.heap.size := Nat.lt_of_lt_of_le hql HB8.out.size)
              | (go_at_call 14; refine (At.trail (n := 1) (l := [(⟨#[115, 101, 97, 108, 115]⟩, x.2.1)]) (by first | exact H8.out | exact H8.out.next ((Below.refl _ _).alloc (Nat.le_refl _) _)) (by simp)).mono ?_; rintro e w9 ⟨a9, cap9, rfl, HS9, H9, HB9⟩; have HL9 : Hid (Below w8.heap.size w8 w9) := (by first | exact HB9.out | exact ((Below.refl _ _).alloc (Nat.le_refl _) _).trans (HB9.out.mono (by simp))); have HK9 : Hid (w9.cell? ⟨ob, 1, none⟩ = some (.int .i64 x.2.1)) := (HL9.out.cell (p := ⟨ob, 1, none⟩) hq8).trans HK8.out; have hq9 : ob < w9.heap.size := Nat.lt_of_lt_of_le hq8 HL9.out.size)
              | (go_at_call 13; refine (Same_true (w9.heap.size + 1) (w9.heap.size + 1) _ _ [(⟨#[115, 101, 97, 108, 115]⟩, x.2.1)] _ (by first | exact HS9.out.up (Nat.le_succ _) | exact (HS9.out.kept ((Below.refl _ _).alloc (Nat.le_refl _) _)).up (Nat.le_succ _)) (by first | exact lit_steps w9 _ _ | exact ((lit_steps w8 _ _).kept (HB9.out.mono (by simp))).up (by have := HL9.out.size; omega)) (by simp)).mono ?_; rintro e w10 ⟨rfl, b10⟩; have HL10 : Hid (Below w9.heap.size w9 w10) := (by first | exact b10 | exact ((Below.refl _ _).alloc (Nat.le_refl _) _).trans (b10.mono (by simp))); have HK10 : Hid (w10.cell? ⟨ob, 1, none⟩ = some (.int .i64 x.2.1)) := (HL10.out.cell (p := ⟨ob, 1, none⟩) hq9).trans HK9.out))
            all_goals
              have hbx : Below w6.heap.size w6 w10 := ((below_drew w6).trans HB8.out).trans ((HL9.out.trans (HL10.out.mono HL9.out.size)).mono HB8.out.size)
              have HV11 := hideIt (HV5.out.next hbx)
              have HS11 := hideIt (HS5.out.kept (Kept.of_all hbx))
              have HD11 := hideIt (HD5.out.kept (Kept.of_all hbx))
              have hs11 := hbx.size
              clear hbx g1 g2
              obtain ⟨aq, capq, cq⟩ := HD11.out.len
              go_wp2
              go_quiet ((go_at_call 20; exact Calls.quiet_of_same (sMany_any _ p O L (HS11.out.kept (Kept.of_all (below_drewN w10 _))))))
              have HV9 := hideIt (HV11.out.next (below_drewN w10 nq))
              have HS9 := hideIt (HS11.out.kept (Kept.of_all (below_drewN w10 nq)))
              have HD9 := hideIt (HD11.out.kept (Kept.of_all (below_drewN w10 nq)))
              have hs9 : w10.heap.size ≤ (w10.drewN nq).heap.size := (below_drewN w10 nq).size
              generalize w10.drewN nq = w9 at HV9 HS9 HD9 hs9 ⊢
              go_wp2
              have hle := hL
              exact ⟨⟨k + 1, L, O2, by omega, by go_num, by omega, HS9.out, HD9.out, fun j hj => ⟨(HO2b.out j hj).1, by have := (HO2b.out j hj).2; omega⟩, HV9.out, by omega⟩, by simp [intOf]; omega⟩
        · rw [hk1] at hand
          clear hk1
          go_wp2
          generalize (wr.alloc (.cells #[.int .i64 x.1, .int .i64 x.2.1, .int .i64 x.2.2] 31)) = w4 at HS4 HD4 HV4 e1 e2 hs4 ⊢
          clear c0 c1 c2 hob
          obtain ⟨r, hr⟩ : ∃ r, decide ((x.2.1, x.2.2) ∈ L) = r := ⟨_, rfl⟩
          have HR := hideIt hr
          clear hr
          refine wp_region_quiet_grow (by kernel_rfl) (by kernel_rfl) ?_
          intro ι _ f hf hn
          have hob4 : ob < w4.heap.size := by omega
          have hc1 := fun i => ((hf i).cell (p := ⟨ob, 1, none⟩) hob4).trans e1
          have hc2 := fun i => ((hf i).cell (p := ⟨ob, 2, none⟩) hob4).trans e2
          have HSF := hideIt (fun i => HS4.out.kept (Kept.of_all (hf i)))
          have HDF := hideIt (fun i => HD4.out.kept (Kept.of_all (hf i)))
          have HFF := hideIt hf
          have HN := hideIt hn
          have HA1 := hideIt (fun i => sSigned_any (f i) p O L x.2.1 x.2.2 (HSF.out i) HX.out.2.1 HX.out.2.2)
          have HA2 := hideIt (fun i => (dsSigned_any (f i) C O2 L x.2.1 x.2.2 (HDF.out i) (Nat.le_of_lt HL2.out)).mono (fun e w' h => (⟨h.1, by rw [h.2]; exact Below.refl _ _⟩ : e = .returned (.bool (decide ((x.2.1, x.2.2) ∈ L))) ∧ Below (f i).heap.size (f i) w')))
          rw [HR.out] at HA1 HA2
          clear hf hn
          repeat (go_big_quiet_step (first | (go_at_call 15; exact Calls.grow HN.out (HA1.out _)) | (go_at_call 16; exact Calls.grow HN.out (HA2.out _))))
          refine wpQuiet_nil ?_
          rintro w8 ⟨i, rfl⟩
          have HV8 := hideIt (HV4.out.next (HFF.out i))
          have HS8 := hideIt (HSF.out i)
          have HD8 := hideIt (HDF.out i)
          have hs8 := (HFF.out i).size
          clear hc1 hc2 HFF HN HSF HDF HA1 HA2 e1 e2
          generalize f i = w8 at HV8 HS8 HD8 hs8 ⊢
          obtain ⟨aq, capq, cq⟩ := HD8.out.len
          go_wp2
          go_quiet ((go_at_call 20; exact Calls.quiet_of_same (sMany_any _ p O L (HS8.out.kept (Kept.of_all (below_drewN w8 _))))))
          have HV9 := hideIt (HV8.out.next (below_drewN w8 nq))
          have HS9 := hideIt (HS8.out.kept (Kept.of_all (below_drewN w8 nq)))
          have HD9 := hideIt (HD8.out.kept (Kept.of_all (below_drewN w8 nq)))
          have hs9 : w8.heap.size ≤ (w8.drewN nq).heap.size := (below_drewN w8 nq).size
          generalize w8.drewN nq = w9 at HV9 HS9 HD9 hs9 ⊢
          go_wp2
          have hle := hL
          exact ⟨⟨k + 1, L, O2, by omega, by go_num, by omega, HS9.out, HD9.out, fun j hj => ⟨(HO2b.out j hj).1, by have := (HO2b.out j hj).2; omega⟩, HV9.out, by omega⟩, by simp [intOf]; omega⟩
        · rw [hk2] at hand
          clear hk2
          go_wp2_with fail
          generalize (wr.alloc (.cells #[.int .i64 x.1, .int .i64 x.2.1, .int .i64 x.2.2] 31)) = w4 at HS4 HD4 HV4 e1 e2 hs4 ⊢
          clear c0 c1 c2 hob
          refine (sWho_any _ p O L _ _ HS4.out HX.out.2.2).mono ?_
          rintro e w5 ⟨v5, rfl, hr5, hb5⟩
          have HV5 := hideIt (HV4.out.next hb5)
          have HS5 := hideIt (HS4.out.kept (Kept.of_all hb5))
          have HD5 := hideIt (HD4.out.kept (Kept.of_all hb5))
          have g1 := (hb5.cell (lt_of_cell e1)).trans e1
          have g2 := (hb5.cell (lt_of_cell e2)).trans e2
          have hs5 := hb5.size
          have HN5 : Hid (NumsIn w5 (fun _ => True) v5 (whoTo L x.2.1 x.2.2 10)) := RowIn.of_own hr5 (fun _ _ => trivial)
          obtain ⟨a5, cap5, hv5⟩ := own_form hr5
          subst hv5
          clear hr5 hb5 HS4 HD4 HV4 e1 e2
          go_wp2_with fail
          refine (dsWho_any _ C O2 L _ _ HD5.out (Nat.le_of_lt HL2.out) (neg_signs HS5.out.ok)).mono ?_
          rintro e w6 ⟨v6, rfl, hr6, hb6⟩
          have HV6 := hideIt (HV5.out.next hb6)
          have HS6 := hideIt (HS5.out.kept (Kept.of_all hb6))
          have HD6 := hideIt (HD5.out.kept (Kept.of_all hb6))
          have hs6 := hb6.size
          have HN6 : Hid (NumsIn w6 (fun _ => True) v6 (whoTo L x.2.1 x.2.2 10)) := RowIn.of_own hr6 (fun _ _ => trivial)
          have HN5' := hideIt (RowIn.kept HN5.out (Kept.of_all hb6))
          obtain ⟨a6, cap6, hv6⟩ := own_form hr6
          subst hv6
          clear hr6 hb6 HS5 HD5 HV5 g1 g2 HN5
          go_wp2_with fail
          refine (SameInts_true _ _ _ _ (whoTo L x.2.1 x.2.2 10) _ HN5'.out HN6.out (Nat.le_trans (whoTo_le _ _ _ _) (by decide))).mono ?_
          rintro e w7 ⟨rfl, hb7⟩
          have HV7 := hideIt (HV6.out.next hb7)
          have HS7 := hideIt (HS6.out.kept (Kept.of_all hb7))
          have HD7 := hideIt (HD6.out.kept (Kept.of_all hb7))
          have hs7 := hb7.size
          clear hb7 HS6 HD6 HV6 HN5' HN6
          obtain ⟨aq, capq, cq⟩ := HD7.out.len
          go_wp2
          go_quiet ((go_at_call 20; exact Calls.quiet_of_same (sMany_any _ p O L (HS7.out.kept (Kept.of_all (below_drewN w7 _))))))
          have HV9 := hideIt (HV7.out.next (below_drewN w7 nq))
          have HS9 := hideIt (HS7.out.kept (Kept.of_all (below_drewN w7 nq)))
          have HD9 := hideIt (HD7.out.kept (Kept.of_all (below_drewN w7 nq)))
          have hs9 : w7.heap.size ≤ (w7.drewN nq).heap.size := (below_drewN w7 nq).size
          generalize w7.drewN nq = w9 at HV9 HS9 HD9 hs9 ⊢
          go_wp2
          have hle := hL
          exact ⟨⟨k + 1, L, O2, by omega, by go_num, by omega, HS9.out, HD9.out, fun j hj => ⟨(HO2b.out j hj).1, by have := (HO2b.out j hj).2; omega⟩, HV9.out, by omega⟩, by simp [intOf]; omega⟩
        · rw [hk3] at hand
          clear hk3
          go_wp2_with fail
          generalize (wr.alloc (.cells #[.int .i64 x.1, .int .i64 x.2.1, .int .i64 x.2.2] 31)) = w4 at HS4 HD4 HV4 e1 e2 hs4 ⊢
          clear c0 c1 c2 hob
          refine (sWho_any _ p O L _ _ HS4.out HX.out.2.2).mono ?_
          rintro e w5 ⟨v5, rfl, hr5, hb5⟩
          have HV5 := hideIt (HV4.out.next hb5)
          have HS5 := hideIt (HS4.out.kept (Kept.of_all hb5))
          have HD5 := hideIt (HD4.out.kept (Kept.of_all hb5))
          have g1 := (hb5.cell (lt_of_cell e1)).trans e1
          have g2 := (hb5.cell (lt_of_cell e2)).trans e2
          have hs5 := hb5.size
          have HN5 : Hid (NumsIn w5 (fun _ => True) v5 (whoTo L x.2.1 x.2.2 10)) := RowIn.of_own hr5 (fun _ _ => trivial)
          obtain ⟨a5, cap5, hv5⟩ := own_form hr5
          subst hv5
          clear hr5 hb5 HS4 HD4 HV4 e1 e2
          go_wp2_with fail
          refine (dsWho_any _ C O2 L _ _ HD5.out (Nat.le_of_lt HL2.out) (neg_signs HS5.out.ok)).mono ?_
          rintro e w6 ⟨v6, rfl, hr6, hb6⟩
          have HV6 := hideIt (HV5.out.next hb6)
          have HS6 := hideIt (HS5.out.kept (Kept.of_all hb6))
          have HD6 := hideIt (HD5.out.kept (Kept.of_all hb6))
          have hs6 := hb6.size
          have HN6 : Hid (NumsIn w6 (fun _ => True) v6 (whoTo L x.2.1 x.2.2 10)) := RowIn.of_own hr6 (fun _ _ => trivial)
          have HN5' := hideIt (RowIn.kept HN5.out (Kept.of_all hb6))
          obtain ⟨a6, cap6, hv6⟩ := own_form hr6
          subst hv6
          clear hr6 hb6 HS5 HD5 HV5 g1 g2 HN5
          go_wp2_with fail
          refine (SameInts_true _ _ _ _ (whoTo L x.2.1 x.2.2 10) _ HN5'.out HN6.out (Nat.le_trans (whoTo_le _ _ _ _) (by decide))).mono ?_
          rintro e w7 ⟨rfl, hb7⟩
          have HV7 := hideIt (HV6.out.next hb7)
          have HS7 := hideIt (HS6.out.kept (Kept.of_all hb7))
          have HD7 := hideIt (HD6.out.kept (Kept.of_all hb7))
          have hs7 := hb7.size
          clear hb7 HS6 HD6 HV6 HN5' HN6
          obtain ⟨aq, capq, cq⟩ := HD7.out.len
          go_wp2
          go_quiet ((go_at_call 20; exact Calls.quiet_of_same (sMany_any _ p O L (HS7.out.kept (Kept.of_all (below_drewN w7 _))))))
          have HV9 := hideIt (HV7.out.next (below_drewN w7 nq))
          have HS9 := hideIt (HS7.out.kept (Kept.of_all (below_drewN w7 nq)))
          have HD9 := hideIt (HD7.out.kept (Kept.of_all (below_drewN w7 nq)))
          have hs9 : w7.heap.size ≤ (w7.drewN nq).heap.size := (below_drewN w7 nq).size
          generalize w7.drewN nq = w9 at HV9 HS9 HD9 hs9 ⊢
          go_wp2
          have hle := hL
          exact ⟨⟨k + 1, L, O2, by omega, by go_num, by omega, HS9.out, HD9.out, fun j hj => ⟨(HO2b.out j hj).1, by have := (HO2b.out j hj).2; omega⟩, HV9.out, by omega⟩, by simp [intOf]; omega⟩
      · go_wp2
        go_ret
        exact ⟨rfl, HV.out.1⟩
end Go.Proofs.YtgpbkindkfpkaaaDoor
