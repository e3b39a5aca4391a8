/-
  What is proved here: the walk of cohortlaw08.LocksPlays, over this program.
-/
import Derived.Test.YtnojbejjlahhkaaGreatDoorJE
import Derived.Test.YtnojbejjlahhkaaGreatDoorSame
import Derived.Test.YtnojbejjlahhkaaGreatDoorStep
import Derived.Deep.RegionWith
import Derived.Deep.RegionHeld3
import Derived.Deep.DeepCutAuto
import Derived.Deep.CutBlock
import Derived.Deep.LoopGhost
import Derived.Laws.BitsLemmas
namespace Go.Proofs.YtnojbejjlahhkaaGreatDoor
open Go.RowKit Go.Extern.Stop Go.Stop Go.Extern

theorem low2 (n : Int) : Go.bits BinOp.and IntKind.i64 n 3 = n % 4 := by
  have h3 : (BitVec.ofInt 64 3).toNat = 2 ^ 2 - 1 := by decide
  have key : (BitVec.ofInt 64 n &&& BitVec.ofInt 64 3).toNat = (n % ((2 ^ 64 : Nat) : Int)).toNat % 2 ^ 2 := by
    rw [BitVec.toNat_and, BitVec.toNat_ofInt, h3, Nat.and_two_pow_sub_one_eq_mod]
  show IntKind.i64.wrap ((BitVec.ofInt 64 n &&& BitVec.ofInt 64 3).toNat : Nat) = n % 4
  rw [key, IntKind.wrap_i64]
  omega

set_option maxRecDepth 100000 in
set_option maxHeartbeats 16000000 in
theorem lplays_true (v : Value) (l : List Op8) (w : World) (hv : Ops8In w (· < w.heap.size) v l) (hn : l.length ≤ maxLen) (hok : ∀ o ∈ l, Op8Ok o) (hg : ET w) (ht : PT w) :
    Calls Tryz.prog 3 #[v] w fun e w' => e = .returned (.bool true) ∧ Below w.heap.size w w' := by
  have HV0 : Hid (Env w w) := ⟨Below.refl _ _, hg, ht⟩
  have HH := hideIt (head08_true w hg ht)
  have HO := hideIt hv
  have HZ := hideIt hok
  have HN := hideIt hn
  obtain ⟨a, cap, rfl⟩ := hv.form
  unfold maxLen at hn
  clear hg ht hv hok
  go_enter Tryz.func3, Tryz.ntmps3
  go_wp2_with fail
  refine HH.out.mono ?_
  rintro e w1 ⟨rfl, hb1⟩
  have HV1 := hideIt (HV0.out.next hb1)
  clear hb1 HH HV0
  go_wp2_with fail
  refine (lkNew_any w1).mono ?_
  rintro e w2 ⟨p, rfl, hs, hb⟩
  have HS2 := hideIt (Ls.new HV1.out hs hb)
  obtain ⟨O2, hO2⟩ : ∃ O2 : Nat → Prop, O2 = fun k => w1.heap.size ≤ k ∧ k < w2.heap.size := ⟨_, rfl⟩
  rw [← hO2] at HS2
  have HO2 : Hid (∀ k, O2 k → k < w2.heap.size) := hideIt (fun k hk => by rw [hO2] at hk; exact hk.2)
  clear hs hb hO2 HV1
  obtain ⟨C, hC⟩ : ∃ C, w2.heap.size = C := ⟨_, rfl⟩
  obtain ⟨w3, hw3⟩ : ∃ w3, w3 = w2.alloc (.cells #[.slice none 0 0] 29) := ⟨_, rfl⟩
  have hb3 : Below w2.heap.size w2 w3 := by rw [hw3]; exact (Below.refl _ _).alloc (Nat.le_refl _) _
  have HPL : Hid (Pl w w3 p C O2 (· = C) [] []) := hideIt ⟨HS2.out.env.next hb3, HS2.out.st.next hb3, ⟨.slice none 0 0, by rw [hw3, ← hC, World.cell?_alloc_at _ _ _ _ rfl]; rfl, by rw [hw3, ← hC]; exact World.frozen?_alloc_at _ _ _ _ rfl, rfl, fun k hk => by rw [hk, hw3]; simp [hC], ⟨none, 0, rfl, fun _ => ⟨rfl, rfl, rfl⟩, fun k x hx => by simp [heldCells] at hx⟩⟩, HS2.out.low, fun k hk => by have := HS2.out.env.1.size; omega, fun k hk hq => by have := HO2.out k hk; omega⟩
  clear hb3 HS2 HO2
  go_wp2_with fail
  try rw [hC]
  rw [← hw3]
  clear hw3
  refine (great08_few _ _ l w3 (HO.out.env HPL.out.env) HN.out HZ.out).mono ?_
  rintro e w4 ⟨⟨g, rfl, hfew⟩, rfl⟩
  cases g with
  | true =>
    clear hfew
    go_wp2
    go_ret
    exact ⟨rfl, HPL.out.env.1⟩
  | false =>
  have HFEW := hideIt (hfew rfl)
  clear hfew hC
  go_wp2
  go_loopg [6] l.length (fun g iv wr => ∃ (k : Nat) (L : Lk) (O Q : Nat → Prop), k ≤ l.length ∧ iv = .int .i64 k ∧ g = l.length - k ∧ Hid (Pl w wr p C O Q L L))
  case atStart => exact ⟨0, [], O2, (· = C), Nat.zero_le _, rfl, rfl, HPL⟩
  case round =>
    clear HPL
    obtain ⟨k, L, O, Q, hk, rfl, rfl, HP⟩ := hrel
    by_cases hlt : k < l.length
    case pos =>
      obtain ⟨o, ho⟩ : ∃ o, l[k]? = some o := ⟨l[k], by simp [hlt]⟩
      obtain ⟨b, off, u, rfl, hbw, c0, c1, c2, hu⟩ := (HO.out.env HP.out.env).at ho
      obtain ⟨hf0, hf1, hun, hus⟩ := HZ.out o (List.mem_of_getElem? ho)
      have HKF := hideIt (HFEW.out o (List.mem_of_getElem? ho))
      obtain ⟨au, cu, rfl⟩ := hu.form
      have HU := hideIt hu
      have HUS := hideIt (And.intro hun hus)
      have HF1 := hideIt hf1
      have hkl : o.2.2.length ≤ 3000 := HKF.out
      clear ho hu hun hus hf0 hf1
      have hand : Go.bits BinOp.and IntKind.i64 o.1 3 = o.1 % 4 := low2 o.1
      go_upto_block 2 with fail
      obtain ⟨wa, hwa⟩ : ∃ wa, wa = wr.alloc (.cells #[.int .i64 o.1, .int .i64 o.2.1, .slice au o.2.2.length cu] 33) := ⟨_, rfl⟩
      obtain ⟨ob, hob⟩ : ∃ ob, wr.heap.size = ob := ⟨_, rfl⟩
      have hba : Below wr.heap.size wr wa := by rw [hwa]; exact (Below.refl _ _).alloc (Nat.le_refl _) _
      have e1 : wa.cell? ⟨ob, 1, none⟩ = some (.int .i64 o.2.1) := by rw [hwa, ← hob, World.cell?_alloc_at _ _ _ _ rfl]; rfl
      have e2 : wa.cell? ⟨ob, 2, none⟩ = some (.slice au o.2.2.length cu) := by rw [hwa, ← hob, World.cell?_alloc_at _ _ _ _ rfl]; rfl
      have HPA := hideIt (HP.out.next hba)
      have HOA : Hid (OpAt w wa ob O Q o (.slice au o.2.2.length cu)) := hideIt ⟨e1, e2, fun h => by have := HP.out.st.lt _ h; omega, fun h => by have := HP.out.ds.lt _ h; omega, RowIn.kept HU.out (Kept.of_all hba)⟩
      rw [← hwa, hob]
      clear hba hwa hob c0 c1 c2 hand HU HP
      obtain ⟨K4, hK4⟩ : ∃ K4, o.1 % 4 = K4 := ⟨_, rfl⟩
      have hkinds : K4 = 2 ∨ K4 = 3 ∨ K4 = 0 ∨ K4 = 1 := by omega
      rw [hK4]
      clear hK4
      go_cut [8] (fun s8 wx => ∃ (L2 : Lk) (O2 Q2 : Nat → Prop), Hid (Pl w wx p C O2 Q2 L2 L2) ∧ Hid (OpAt w wx ob O2 Q2 o (.slice au o.2.2.length cu)))
      case first =>
        rcases hkinds with rfl | hkinds
        · as_aux_lemma =>
          go_wp2_with fail
          refine (lkUnlock_any wa p O L o.2.1 HPA.out.st).mono ?_
          rintro e w5 ⟨rfl, g1, g2⟩
          have HP5 := hideIt (HPA.out.turn g1 g2)
          have HO5 := hideIt (HOA.out.move ⟨g2, fun _ h => Or.inl h⟩ HPA.out.low)
          clear g1 g2 e1 e2
          have e1 := HO5.out.who
          go_wp2_with fail
          refine (dlUnlock_any w5 C Q L o.2.1 HP5.out.ds (by have := HPA.out.st.few; omega)).mono ?_
          rintro e w6 ⟨Q6, rfl, q1, q2⟩
          have HP6 := hideIt (HP5.out.moveQ q1 q2)
          have HO6 := hideIt (HO5.out.moveQ q2 HP5.out.ds.self HP5.out.lowq)
          clear q1 q2 e1
          go_wp2
          go_meet
          exact ⟨_, _, _, HP6, HO6⟩
        · rcases hkinds with rfl | hkinds
          · as_aux_lemma =>
            by_cases hd : (1 : Int) < (o.2.2.length : Int)
            · obtain ⟨s0, hs0⟩ : ∃ s0, o.2.2[0]? = some s0 := ⟨o.2.2[0]'(by omega), by simp⟩
              obtain ⟨s1, hs1⟩ : ∃ s1, o.2.2[1]? = some s1 := ⟨o.2.2[1]'(by omega), by simp⟩
              obtain ⟨kb, ko, rfl, hkb, k0⟩ := KeysIn.at HOA.out.ks hs0
              obtain ⟨kb', ko', hkk, _, k1⟩ := KeysIn.at HOA.out.ks hs1
              simp only [Option.some.injEq, Addr.mk.injEq, and_true] at hkk
              obtain ⟨rfl, rfl⟩ := hkk
              rw [Nat.add_zero] at k0
              clear hs0 hs1 hkb
              go_wp2_with fail
              obtain ⟨r, hr⟩ : ∃ r, (L.any fun x => inK s0 s1 x.1) = r := ⟨_, rfl⟩
              have HR := hideIt hr
              clear hr
              refine wp_region_quiet_grow (by kernel_rfl) (by kernel_rfl) ?_
              intro ι _ f hf hn
              have hc1 := fun i => ((hf i).cell (lt_of_cell e1)).trans e1
              have hc2 := fun i => ((hf i).cell (lt_of_cell e2)).trans e2
              have hc3 := fun i => ((hf i).cell (lt_of_cell k0)).trans k0
              have hc4 := fun i => ((hf i).cell (lt_of_cell k1)).trans k1
              have HPF := hideIt (fun i => HPA.out.next (hf i))
              have HOF := hideIt (fun i => HOA.out.next (hf i))
              have HN2 := hideIt hn
              have HA1 := hideIt (fun i => lkAny_any (f i) p O L s0 s1 (HPF.out i).st)
              have HA2 := hideIt (fun i => (dlAny_any (f i) C Q L s0 s1 (HPF.out i).ds (by have := HPA.out.st.few; omega)).mono (fun e w' h => (⟨h.1, by rw [h.2]; exact Below.refl _ _⟩ : e = .returned (.bool (L.any fun x => inK s0 s1 x.1)) ∧ Below (f i).heap.size (f i) w')))
              rw [HR.out] at HA1 HA2
              clear hf hn
              repeat (go_big_quiet_step (first | (go_at_call 14; exact Calls.grow HN2.out (HA1.out _)) | (go_at_call 15; exact Calls.grow HN2.out (HA2.out _))))
              refine wpQuiet_nil ?_
              rintro w8 ⟨i, rfl⟩
              have HP8 := hideIt (HPF.out i)
              have HO8 := hideIt (HOF.out i)
              clear hc1 hc2 hc3 hc4 HN2 HPF HOF HA1 HA2 e1 e2 k0 k1
              generalize f i = w8 at HP8 HO8 ⊢
              go_wp2
              go_meet
              exact ⟨_, _, _, HP8, HO8⟩
            · have hdd : decide ((1 : Int) < (o.2.2.length : Int)) = false := decide_eq_false hd
              go_wp2_with fail
              go_quiet (fail)
              have HP8 := hideIt (HPA.out.next (below_drewN wa nq))
              have HO8 := hideIt (HOA.out.next (below_drewN wa nq))
              go_wp2
              go_meet
              exact ⟨_, _, _, HP8, HO8⟩
          · rcases hkinds with rfl | rfl
            all_goals
              as_aux_lemma =>
              go_wp2_with fail
              refine (lkLock_any wa p O L o.2.1 _ o.2.2 HPA.out.st HF1.out (RowIn.mono HOA.out.ks (fun k hk _ => Nat.lt_of_lt_of_le hk HPA.out.env.1.size)) HUS.out.1 HUS.out.2).mono ?_
              rintro e w5 ⟨er, L5, O5, rfl, g1, g2, g3⟩
              have HP5 := hideIt (HPA.out.move g1 g2)
              have HO5 := hideIt (HOA.out.move g2 HPA.out.low)
              have HG5 := hideIt g3
              clear g1 g2 g3 e1 e2
              have e1 := HO5.out.who
              have e2 := HO5.out.keys
              go_wp2_with fail
              refine (dlLock_any w5 C Q L o.2.1 _ o.2.2 HP5.out.ds HPA.out.st.rise (by have := HPA.out.st.few; omega) (RowIn.mono HO5.out.ks (fun k hk _ => Nat.lt_of_lt_of_le hk HP5.out.env.1.size)) HKF.out).mono ?_
              rintro e w6 ⟨n, s, a6, Q6, L6, rfl, q1, q2, q3⟩
              obtain ⟨hL, hcase⟩ := locks_alike HG5.out q3
              rw [hL] at q1
              have HP6 := hideIt (HP5.out.moveQ q1 q2)
              have HO6 := hideIt (HO5.out.moveQ q2 HP5.out.ds.self HP5.out.lowq)
              have HQ6 := hideIt q2
              clear q1 q2 q3 e1 e2 hL
              obtain ⟨rb, hrb⟩ : ∃ rb, rb = w6.heap.size := ⟨_, rfl⟩
              obtain ⟨w7, hw7⟩ : ∃ w7, w7 = w6.alloc (.cells #[.string s, .int .i64 a6] 39) := ⟨_, rfl⟩
              have hb7 : Below w6.heap.size w6 w7 := by rw [hw7]; exact (Below.refl _ _).alloc (Nat.le_refl _) _
              have r0 : w7.cell? ⟨rb, 0, none⟩ = some (.string s) := by rw [hw7, hrb, World.cell?_alloc_at _ _ _ _ rfl]; rfl
              have r1 : w7.cell? ⟨rb, 1, none⟩ = some (.int .i64 a6) := by rw [hw7, hrb, World.cell?_alloc_at _ _ _ _ rfl]; rfl
              have HP7 := hideIt (HP6.out.next hb7)
              have HO7 := hideIt (HO6.out.next hb7)
              have HB7 := hideIt hb7
              have HW7 := hideIt hw7
              have HRB := hideIt hrb
              clear hb7 hw7 hrb
              unfold stepV
              rcases hcase with ⟨rfl, rfl⟩ | ⟨ho, rfl, hn⟩
              · go_wp2_with fail
                rw [← HW7.out, ← HRB.out]
                clear r0 r1
                go_quiet (fail)
                have HP8 := hideIt (HP7.out.next (below_drewN w7 nq))
                have HO8 := hideIt (HO7.out.next (below_drewN w7 nq))
                go_wp2
                go_meet
                exact ⟨_, _, _, HP8, HO8⟩
              · as_aux_lemma =>
                obtain ⟨ty, y, rfl⟩ := ho.iface
                have hcq : C < wa.heap.size := HPA.out.ds.lt C HPA.out.ds.self
                have ho6 := ho.kept (HQ6.out.turn.kept (fun k hk _ e => by omega))
                have HA1 := hideIt (((HP6.out.env.at ho6).next HB7.out).next (below_drew w7))
                have HKQ := hideIt (And.intro r0 r1)
                have hql : rb < w7.heap.size := lt_of_cell r0
                have hn0 : (n == 0) = false := by rcases hn with rfl | rfl | rfl <;> rfl
                have hn1 : (n != 0) = true := by rcases hn with rfl | rfl | rfl <;> rfl
                have hnn : (n != n) = false := by simp
                have hnz : ¬ n = 0 := by omega
                clear ho ho6 hn hcq
                go_wp2_with fail
                rw [← HW7.out, ← HRB.out]
                first | (go_region_held (fun w' => w'.cell? ⟨rb, 0, none⟩ = some (.string ⟨#[108, 111, 99, 107]⟩) ∧ w'.cell? ⟨rb, 1, none⟩ = some (.int .i64 a6)) (first | exact ⟨r0, r1⟩ | exact HK8.out | exact HK9.out | exact HK10.out | go_keep)
                  (first
                  | (go_at_call 9; refine HA1.out.code.mono ?_; rintro e w8 ⟨rfl, H8, HB8⟩; have HK8 : Hid (w8.cell? ⟨rb, 0, none⟩ = some (.string ⟨#[108, 111, 99, 107]⟩) ∧ w8.cell? ⟨rb, 1, none⟩ = some (.int .i64 a6)) := ⟨(HB8.out.cell (p := ⟨rb, 0, none⟩) hql).trans HKQ.out.1, (HB8.out.cell (p := ⟨rb, 1, none⟩) hql).trans HKQ.out.2⟩; have hq8 : rb < w8.heap.size := Nat.lt_of_lt_of_le hql HB8.out.size)
                  | (go_at_call 11; refine (At.trail (l := [(⟨#[108, 111, 99, 107]⟩, a6)]) (by first | exact H8.out | exact H8.out.next ((Below.refl _ _).alloc (Nat.le_refl _) _)) (by simp)).mono ?_; rintro e w9 ⟨a9, cap9, rfl, HS9, H9, HB9⟩; have HL9 : Hid (Below w8.heap.size w8 w9) := (by first | exact HB9.out | exact ((Below.refl _ _).alloc (Nat.le_refl _) _).trans (HB9.out.mono (by simp))); have HK9 : Hid (w9.cell? ⟨rb, 0, none⟩ = some (.string ⟨#[108, 111, 99, 107]⟩) ∧ w9.cell? ⟨rb, 1, none⟩ = some (.int .i64 a6)) := ⟨(HL9.out.cell (p := ⟨rb, 0, none⟩) hq8).trans HK8.out.1, (HL9.out.cell (p := ⟨rb, 1, none⟩) hq8).trans HK8.out.2⟩; have hq9 : rb < w9.heap.size := Nat.lt_of_lt_of_le hq8 HL9.out.size)
                  | (go_at_call 10; refine (Same_true (w9.heap.size + 1) (w9.heap.size + 1) _ _ [(⟨#[108, 111, 99, 107]⟩, a6)] _ (by first | exact HS9.out.up (Nat.le_succ _) | exact (HS9.out.kept ((Below.refl _ _).alloc (Nat.le_refl _) _)).up (Nat.le_succ _)) (by first | exact lit_steps w9 _ _ | exact ((lit_steps w8 _ _).kept (HB9.out.mono (by simp))).up (by have := HL9.out.size; omega)) (by simp)).mono ?_; rintro e w10 ⟨rfl, b10⟩; have HL10 : Hid (Below w9.heap.size w9 w10) := (by first | exact b10 | exact ((Below.refl _ _).alloc (Nat.le_refl _) _).trans (b10.mono (by simp))); have HK10 : Hid (w10.cell? ⟨rb, 0, none⟩ = some (.string ⟨#[108, 111, 99, 107]⟩) ∧ w10.cell? ⟨rb, 1, none⟩ = some (.int .i64 a6)) := ⟨(HL10.out.cell (p := ⟨rb, 0, none⟩) hq9).trans HK9.out.1, (HL10.out.cell (p := ⟨rb, 1, none⟩) hq9).trans HK9.out.2⟩))) | fail
                all_goals
                  have hbx : Below w7.heap.size w7 w10 := ((below_drew w7).trans HB8.out).trans ((HL9.out.trans (HL10.out.mono HL9.out.size)).mono HB8.out.size)
                  have HP8 := hideIt (HP7.out.next hbx)
                  have HO8 := hideIt (HO7.out.next hbx)
                  clear hbx r0 r1
                  go_wp2
                  go_meet
                  exact ⟨_, _, _, HP8, HO8⟩
      case rest =>
        as_aux_lemma =>
        clear hkinds
        obtain ⟨L2, O2', Q2, HPc, HOc⟩ := hcut
        clear HPA HOA e1 e2
        have e1 := HOc.out.who
        have e2 := HOc.out.keys
        obtain ⟨L, hLe⟩ : ∃ L, L2 = L := ⟨_, rfl⟩
        rw [hLe] at HPc
        clear hLe
        have hfew : L.length ≤ 128 := HPc.out.st.few
        go_wp2_with fail
        refine (lkKeys_any wc p O2' L o.2.1 HPc.out.st).mono ?_
        rintro e wd ⟨v1, rfl, ho1, hb1⟩
        have HPd := hideIt (HPc.out.next hb1)
        have HOd := hideIt (HOc.out.next hb1)
        have HK1 := hideIt (KeysIn.of_own ho1)
        clear ho1 hb1 e1 e2 HPc HOc
        have e1 := HOd.out.who
        go_wp2_with fail
        refine (dlKeys_any wd C Q2 L o.2.1 HPd.out.ds (by omega)).mono ?_
        rintro e we ⟨v2, rfl, ho2, hb2⟩
        have HPe := hideIt (HPd.out.next hb2)
        have HOe := hideIt (HOd.out.next hb2)
        have HK1e := hideIt (KeysIn.below HK1.out hb2)
        have HK2e := hideIt (KeysIn.of_own ho2)
        clear ho2 hb2 e1 HPd HOd HK1
        obtain ⟨N, hN⟩ : ∃ N, ownL L o.2.1 = N := ⟨_, rfl⟩
        have hNl : N.length ≤ maxLen := by have := own_few L o.2.1; rw [hN] at this; unfold maxLen; omega
        rw [hN] at HK1e HK2e
        have HNL := hideIt hNl
        clear hN hNl
        go_upto_region 25 with fail
        go_cut [152] (fun s152 wx => s152 = .bool false ∧ Hid (Below we.heap.size we wx))
        case first =>
          obtain ⟨v0, d0, _, _, _, hv0⟩ := HPe.out.ds
          obtain ⟨aL, cL, rfl⟩ := hv0.form
          have HPr := hideIt (HPe.out.next (below_drew we))
          have HKr1 := hideIt (KeysIn.below HK1e.out (below_drew we))
          have HKr2 := hideIt (KeysIn.below HK2e.out (below_drew we))
          have hlen : ((L.length : Int) != (L.length : Int)) = false := by simp
          clear hv0
          go_region_with (first
            | (go_at_call 18; refine (lkMany_any _ p O2' L HPr.out.st).mono ?_; rintro e wm ⟨rfl, rfl⟩)
            | (go_at_call 19; refine (SameKeys_any _ _ _ _ N N _ HKr1.out HKr2.out HNL.out).mono ?_; rintro e ws ⟨rfl, hbs⟩; have HBS := hideIt ((below_drew we).trans (hbs.mono (below_drew we).size)); rw [decide_eq_true rfl]))
          all_goals
            go_wp2_with fail
            go_meet
            exact ⟨rfl, HBS⟩
        case rest =>
          obtain ⟨rfl, HBc⟩ := hcut
          have HPf := hideIt (HPe.out.next HBc.out)
          have HOf := hideIt (HOe.out.next HBc.out)
          clear HPe HOe HK1e HK2e HNL HBc
          have e2 := HOf.out.keys
          go_wp2_with fail
          go_loopg [13] o.2.2.length (fun g s13 wx => wx = wc ∧ ∃ j : Nat, j ≤ o.2.2.length ∧ s13 = .int .i64 j ∧ g = o.2.2.length - j)
          case atStart => exact ⟨rfl, 0, Nat.zero_le _, rfl, rfl⟩
          case round =>
            obtain ⟨rfl, j, hj, rfl, rfl⟩ := hrel
            by_cases hjl : j < o.2.2.length
            · obtain ⟨t, ht⟩ : ∃ t, o.2.2[j]? = some t := ⟨o.2.2[j], by simp [hjl]⟩
              obtain ⟨kb, ko, rfl, hkb, k0⟩ := KeysIn.at HOf.out.ks ht
              have HTL := hideIt (HUS.out.2 t (List.mem_of_getElem? ht))
              obtain ⟨x, y, hxy⟩ : ∃ x y, holdV (holdL L t) = .tuple #[.int .i64 x, .bool y] := ⟨_, _, rfl⟩
              have HXY := hideIt hxy
              have hxx : (x != x) = false := by simp
              clear ht hkb hxy
              go_wp2_with fail
              refine (lkHolder_any _ p O2' L t HPf.out.st HTL.out).mono ?_
              rintro e wm ⟨rfl, rfl⟩
              rw [HXY.out]
              go_wp2_with fail
              refine (dlHolder_any _ C Q2 L t HPf.out.ds (by omega)).mono ?_
              rintro e wm ⟨rfl, rfl⟩
              rw [HXY.out]
              go_wp2
              go_roundg (o.2.2.length - (j + 1))
              case measure => omega
              case rel => exact ⟨rfl, j + 1, by omega, by go_num, rfl⟩
            · go_wp2
              go_roundg (l.length - (k + 1))
              case measure => omega
              case rel => exact ⟨k + 1, L, O2', Q2, by omega, by go_num, rfl, HPf⟩
    case neg =>
      go_wp2
      go_ret
      exact ⟨rfl, HP.out.env.1⟩
end Go.Proofs.YtnojbejjlahhkaaGreatDoor
