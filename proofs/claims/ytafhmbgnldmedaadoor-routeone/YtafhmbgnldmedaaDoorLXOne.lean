/-
  What is proved here: the walk of cohortlaw09.RouteOne, over this program.
-/
import Derived.Test.YtafhmbgnldmedaaDoorPN
namespace Go.Proofs.YtafhmbgnldmedaaDoor
open Go.RowKit Go.Extern.Stop Go.Stop Go.Extern

/-- whoever asks for a key's owner is told it -/
theorem owner_def {w0 w : World} {p : Nat} {l : List Pc} {k : List UInt8} {x : Pc} (h : Rs w0 w p l) (hx : OwnIs l k x) : Calls Tryd.prog 19 #[.pointer (some ⟨p, 0, none⟩), .string ⟨k.toArray⟩] w fun e w' => e = .returned (pcV x) ∧ Below w.heap.size w w' := by
  refine (rqOwner_any w p _ l k h.rt h.fit.lin h.few).mono ?_
  rintro e w' ⟨y, rfl, hy, hb⟩
  obtain rfl := own_one hx hy
  exact ⟨rfl, hb⟩
theorem own_key {L : List Pc} {fk tk k : List UInt8} {x : Pc} (hl : Lin L) (h : OneIs L fk tk x true) (hk : inR fk tk k = true) : OwnIs L k x := by
  obtain ⟨p, hp⟩ := own_ex hl k
  obtain rfl := one_own hl h hk hp
  exact hp
/-- does one of the first k pieces begin within the range? -/
def BegK (lk : List Pc) (fk tk : List UInt8) (k : Nat) (b : Bool) : Prop := b = true ↔ ∃ j q, j < k ∧ lk[j]? = some q ∧ kLt fk q.1 ∧ (tk = [] ∨ kLt q.1 tk)
theorem beg_zero (lk : List Pc) (fk tk : List UInt8) : BegK lk fk tk 0 false := ⟨fun h => (by cases h), fun ⟨j, _, h, _⟩ => (by omega)⟩
theorem beg_true {lk : List Pc} {fk tk : List UInt8} {k : Nat} (h : BegK lk fk tk k true) : BegK lk fk tk (k + 1) true := by
  obtain ⟨j, q, h1, h2⟩ := h.1 rfl
  exact ⟨fun _ => ⟨j, q, by omega, h2⟩, fun _ => rfl⟩
theorem beg_yes {lk : List Pc} {fk tk : List UInt8} {k : Nat} {q : Pc} (hq : lk[k]? = some q) (h1 : kLt fk q.1) (h2 : tk = [] ∨ kLt q.1 tk) : BegK lk fk tk (k + 1) true :=
  ⟨fun _ => ⟨k, q, by omega, hq, h1, h2⟩, fun _ => rfl⟩
theorem beg_no {lk : List Pc} {fk tk : List UInt8} {k : Nat} {q : Pc} (h : BegK lk fk tk k false) (hq : lk[k]? = some q) (hn : ¬ (kLt fk q.1 ∧ (tk = [] ∨ kLt q.1 tk))) : BegK lk fk tk (k + 1) false := by
  refine ⟨fun h => (by cases h), fun ⟨j, y, h1, h2, h3⟩ => ?_⟩
  by_cases e : j = k
  · subst e; rw [hq] at h2; cases h2; exact absurd h3 hn
  · exact h.2 ⟨j, y, by omega, h2, h3⟩
theorem beg_alone {lk : List Pc} {fk tk : List UInt8} {b : Bool} (ha : Alone lk fk tk) (h : BegK lk fk tk lk.length b) : b = false := by
  cases b with
  | false => rfl
  | true =>
    obtain ⟨j, q, _, h2, h3, h4⟩ := h.1 rfl
    exact absurd h4 (ha q (List.mem_of_getElem? h2) h3)
theorem beg_more {lk : List Pc} {fk tk : List UInt8} {b : Bool} (ha : ¬ Alone lk fk tk) (h : BegK lk fk tk lk.length b) : b = true := by
  cases b with
  | true => rfl
  | false =>
    refine absurd (fun q hq h3 h4 => ?_) ha
    obtain ⟨j, hj⟩ := List.getElem?_of_mem hq
    have := h.2 ⟨j, q, (List.getElem?_eq_some_iff.1 hj).1, hj, h3, h4⟩
    cases this
set_option maxRecDepth 100000 in
set_option maxHeartbeats 16000000 in
theorem rone_true (v vm vk : Value) (l : List Pc) (ms : List Mv) (fk tk : List UInt8) (keys : List (List UInt8)) (w : World) (hv : PcsIn w (· < w.heap.size) v l) (hn : l.length ≤ maxLen)
    (hm : MvsIn w (· < w.heap.size) vm ms) (hmn : ms.length ≤ maxLen) (hks : KeysIn w (· < w.heap.size) vk keys) (hkn : keys.length ≤ maxLen) (hg : ET w) (ht : PT w) :
    Calls Tryd.prog 6 #[v, vm, .string ⟨fk.toArray⟩, .string ⟨tk.toArray⟩, vk] w fun e w' => e = .returned (.bool true) ∧ Below w.heap.size w w' := by
  have HV0 : Hid (Env w w) := ⟨Below.refl _ _, hg, ht⟩
  have HH := hideIt (head09_true w hg ht)
  have HA := hideIt (And.intro hv hn)
  obtain ⟨a, cap, rfl⟩ := hv.form
  obtain ⟨am, cm, rfl⟩ := hm.form
  obtain ⟨ak, ck, rfl⟩ := hks.form
  have HMS := hideIt hm
  have HKS : Hid (KeysIn w (· < w.heap.size) (.slice ak keys.length ck) keys) := hideIt hks
  have HMN := hideIt (And.intro hmn hkn)
  clear hm hks hmn hkn
  clear hg ht hv hn
  go_enter Tryd.func6, Tryd.ntmps6
  go_wp2_with fail
  refine HH.out.mono ?_
  rintro e w1 ⟨rfl, hb1⟩
  have HV1 := hideIt (HV0.out.next hb1)
  have HP1 := hideIt (HA.out.1.kept (kept_next (w0 := w) hb1))
  clear hb1 HH
  go_wp2_with fail
  refine (rqOf_any w1 _ _ l HP1.out HA.out.2).mono ?_
  rintro e w2 ⟨n, k, hof, ⟨hn, er, rfl, ho, hb2⟩ | ⟨rfl, p, rfl, hnr⟩⟩
  case inl =>
    have HV2 := hideIt (HV1.out.next hb2)
    obtain ⟨ty, y, rfl⟩ := ho.iface
    clear hb2 ho
    go_wp2
    go_ret
    exact ⟨rfl, HV2.out.1⟩
  have hf : FitP l := by
    rcases of_fit hof with ⟨_, h⟩ | ⟨h, _⟩
    · exact h
    · exact absurd rfl h
  have HS2 := hideIt (Rs.new HV1.out hnr hf)
  clear hof hnr hf HP1 HV1
  by_cases hc1 : (60 : Int) < (ms.length : Int)
  · go_wp2
    go_ret
    exact ⟨rfl, HS2.out.env.1⟩
  by_cases hc2 : (60 : Int) < (keys.length : Int)
  · go_wp2
    go_ret
    exact ⟨rfl, HS2.out.env.1⟩
  have HC := hideIt (And.intro hc1 hc2)
  go_wp2
  clear hc1 hc2
  go_loopw [14] (fun i wr => ∃ (k : Nat) (lk : List Pc), k ≤ ms.length ∧ i = .int .i64 k ∧ Hid (Rs w wr p lk)) (fun i _ => ms.length - (intOf i).toNat)
  case atStart => exact ⟨0, l, Nat.zero_le _, rfl, HS2⟩
  case round =>
    obtain ⟨k, lk, hk, rfl, HS⟩ := hrel
    by_cases hlt : k < ms.length
    · obtain ⟨o, ho⟩ : ∃ o, ms[k]? = some o := ⟨ms[k], by simp [hlt]⟩
      obtain ⟨b, off, rfl, _, c0, c1, c2⟩ := MvsIn.at (HMS.out.kept (Kept.of_below HS.out.env.1 (fun _ h _ => h))) ho
      have hbd : Below wr.heap.size wr wr.drew := (Below.refl _ _).drew
      have HSd := hideIt (HS.out.next hbd)
      clear ho hbd
      go_wp2_with fail
      go_region_with (go_at_call 15
                      refine (rqMove_any _ p _ lk o.1 o.2.1 o.2.2 HSd.out.rt HSd.out.fit).mono ?_
                      rintro e w4 ⟨n, k4, l', er, rfl, hm, her, hr, hg⟩
                      have HS4 := hideIt (HSd.out.move hr hg hm)
                      clear hm her hr hg)
      all_goals
        go_wp2
        exact ⟨⟨k + 1, l', by omega, by go_num, HS4⟩, by simp [intOf]; omega⟩
    · have HLK := hideIt (And.intro HS.out.fit HS.out.few)
      go_wp2_with fail
      refine (rqOne_any wr p _ lk fk tk HS.out.rt HS.out.fit.lin HS.out.few).mono ?_
      rintro e w4 ⟨x, is, rfl, hone, hb4⟩
      unfold pcV
      obtain ⟨W4, hW, hwb, hr4⟩ := room_pc w4 x
      have HS4 := hideIt ((HS.out.next hb4).next hwb)
      have HR4 := hideIt hr4
      clear hb4 hwb hr4 HS
      rcases hone with ⟨rfl, hrng, hal, hown⟩ | ⟨rfl, hno, rfl⟩
      · have HAL := hideIt hal
        have HOW := hideIt hown
        have HRNG := hideIt hrng
        have h1 : (fk.length : Int) ≤ 16 := by have := hrng.1; omega
        have h2 : (tk.length : Int) ≤ 16 := by have := hrng.to; omega
        by_cases htk : tk = []
        · subst htk
          clear hrng hal hown h2
          go_wp2_with fail
          rw [← hW]
          clear hW
          refine (rqPieces_any W4 p _ lk HS4.out.rt HS4.out.few).mono ?_
          rintro e w5 ⟨z, rfl, hz, hb5⟩
          have HS5 := hideIt (HS4.out.next hb5)
          have HR5 := hideIt (HR4.out.next hb5)
          have HZ5 : Hid (PcsNe w5 p z lk) := hideIt (PcsNe.own hz HS4.out.rt.lt)
          obtain ⟨az, cz, rfl⟩ := own_form hz
          clear hz hb5 HS4 HR4
          go_wp2
          go_loopw [18, 20] (fun bv i wr => ∃ (k2 : Nat) (b : Bool), k2 ≤ lk.length ∧ i = .int .i64 k2 ∧ bv = .bool b ∧ Hid (BegK lk fk [] k2 b) ∧ Hid (Below w5.heap.size w5 wr)) (fun _ i _ => lk.length - (intOf i).toNat)
          case atStart => exact ⟨0, false, Nat.zero_le _, rfl, rfl, beg_zero _ _ _, hideIt (Below.refl _ _)⟩
          case round =>
            obtain ⟨k2, b, hk2, rfl, rfl, HBK, HB⟩ := hrel
            have hl100 := HLK.out.2
            by_cases hlt2 : k2 < lk.length
            · obtain ⟨q, hq⟩ : ∃ q, lk[k2]? = some q := ⟨lk[k2], by simp [hlt2]⟩
              obtain ⟨bb, off, rfl, _, c0, c1, c2⟩ := PcsIn.at (HZ5.out.next HB.out) hq
              have HQ := hideIt hq
              have q1 := leq_iff q.1 fk
              clear hq
              cases b with
              | true =>
                have HN : Hid (BegK lk fk [] (k2 + 1) true) := hideIt (beg_true HBK.out)
                go_wp2
                exact ⟨⟨k2 + 1, _, by omega, by go_num, rfl, HN, HB⟩, by simp [intOf]; omega⟩
              | false =>
              cases g1 : Op.bytesLess fk q.1 with
              | false =>
                rw [g1] at q1
                have HN : Hid (BegK lk fk [] (k2 + 1) false) := hideIt (beg_no HBK.out HQ.out (fun h => by have := h.1; unfold kLt at this; rw [g1] at this; cases this))
                go_wp2
                exact ⟨⟨k2 + 1, _, by omega, by go_num, rfl, HN, HB⟩, by simp [intOf]; omega⟩
              | true =>
                rw [g1] at q1
                have HN : Hid (BegK lk fk [] (k2 + 1) true) := hideIt (beg_yes HQ.out g1 (Or.inl rfl))
                go_wp2
                exact ⟨⟨k2 + 1, _, by omega, by go_num, rfl, HN, HB⟩, by simp [intOf]; omega⟩
            · obtain rfl : k2 = lk.length := by omega
              have HSr := hideIt (HS5.out.next HB.out)
              have HRr := hideIt (HR5.out.next HB.out)
              obtain rfl := beg_alone HAL.out HBK.out
              have hne := fun w => neq_pc x x w
              rw [decide_eq_true (rfl : x = x)] at hne
              have r0 := HRr.out.1
              have r1 := HRr.out.2.1
              have r2 := HRr.out.2.2
              have HON : Hid (OneIs lk fk [] x true) := hideIt (Or.inl ⟨rfl, HRNG.out, HAL.out, HOW.out⟩)
              go_wp2_with fail
              refine wp_region_quiet_grow (by kernel_rfl) (by kernel_rfl) ?_
              intro ι _ f hf hn
              have s0 := fun i => ((hf i).cell (lt_of_cell r0)).trans r0
              have s1 := fun i => ((hf i).cell (lt_of_cell r1)).trans r1
              have s2 := fun i => ((hf i).cell (lt_of_cell r2)).trans r2
              have HSF := hideIt hf
              have HNN := hideIt hn
              have HA1 := hideIt (fun i => owner_def (HSr.out.next (hf i)) HOW.out)
              unfold pcV at HA1
              clear hf hn r0 r1 r2
              repeat (go_big_quiet_step ((go_at_call 19; exact Calls.grow HNN.out (HA1.out _))))
              refine wpQuiet_nil ?_
              rintro w6 ⟨i, rfl⟩
              have HS6 := hideIt (HSr.out.next (HSF.out i))
              have HR6 := hideIt (HRr.out.next (HSF.out i))
              clear HSF HA1 HNN s0 s1 s2
              generalize f i = w6 at HS6 HR6 ⊢
              · go_wp2
                go_loopw [21] (fun i wr => ∃ k3 : Nat, k3 ≤ keys.length ∧ i = .int .i64 k3 ∧ Hid (Below w6.heap.size w6 wr)) (fun i _ => keys.length - (intOf i).toNat)
                case atStart => exact ⟨0, Nat.zero_le _, rfl, hideIt (Below.refl _ _)⟩
                case round =>
                  obtain ⟨k3, hk3, rfl, HB⟩ := hrel
                  have HSr := hideIt (HS6.out.next HB.out)
                  have HRr := hideIt (HR6.out.next HB.out)
                  by_cases hlt3 : k3 < keys.length
                  · obtain ⟨key, hkey⟩ : ∃ key, keys[k3]? = some key := ⟨keys[k3], by simp [hlt3]⟩
                    obtain ⟨b, off, rfl, _, c0⟩ := KeysIn.at (HKS.out.low HSr.out.env.1) hkey
                    have r0 := HRr.out.1
                    have r1 := HRr.out.2.1
                    have r2 := HRr.out.2.2
                    clear hkey
                    cases g5 : Op.bytesLess key fk with
                    | true =>
                      go_wp2_with fail
                      go_quiet (fail)
                      have HB7 := hideIt (HB.out.trans ((below_drewN wr nq).mono HB.out.size))
                      go_wp2
                      exact ⟨⟨k3 + 1, by omega, by go_num, HB7⟩, by simp [intOf]; omega⟩
                    | false =>
                      have HIN : Hid (inR fk [] key = true) := hideIt (inR_iff.2 ⟨fun h => (by unfold kLt at h; rw [g5] at h; cases h), Or.inl rfl⟩)
                      go_wp2_with fail
                      refine wp_region_quiet_grow (by kernel_rfl) (by kernel_rfl) ?_
                      intro ι _ f hf hn
                      have s0 := fun i => ((hf i).cell (lt_of_cell r0)).trans r0
                      have s1 := fun i => ((hf i).cell (lt_of_cell r1)).trans r1
                      have s2 := fun i => ((hf i).cell (lt_of_cell r2)).trans r2
                      have s3 := fun i => ((hf i).cell (lt_of_cell c0)).trans c0
                      have HSF := hideIt hf
                      have HNN := hideIt hn
                      have HA1 := hideIt (fun i => owner_def (k := key) (x := x) (HSr.out.next (hf i)) (own_key HSr.out.fit.lin HON.out HIN.out))
                      unfold pcV at HA1
                      clear hf hn r0 r1 r2 c0
                      repeat (go_big_quiet_step ((go_at_call 19; exact Calls.grow HNN.out (HA1.out _))))
                      refine wpQuiet_nil ?_
                      rintro w7 ⟨i, rfl⟩
                      have HB7 := hideIt (HB.out.trans ((HSF.out i).mono HB.out.size))
                      clear HSF HA1 HNN s0 s1 s2 s3
                      generalize f i = w7 at HB7 ⊢
                      go_wp2
                      exact ⟨⟨k3 + 1, by omega, by go_num, HB7⟩, by simp [intOf]; omega⟩
                  · go_wp2
                    go_ret
                    exact ⟨rfl, HSr.out.env.1⟩
        · have g2 : (tk == []) = false := by simpa using htk
          have g4 : Op.bytesLess fk tk = true := by
            rcases hrng.2 with h | h
            · exact absurd h htk
            · exact h.1
          have HTN := hideIt htk
          clear hrng hal hown htk
          go_wp2_with fail
          rw [← hW]
          clear hW
          refine (rqPieces_any W4 p _ lk HS4.out.rt HS4.out.few).mono ?_
          rintro e w5 ⟨z, rfl, hz, hb5⟩
          have HS5 := hideIt (HS4.out.next hb5)
          have HR5 := hideIt (HR4.out.next hb5)
          have HZ5 : Hid (PcsNe w5 p z lk) := hideIt (PcsNe.own hz HS4.out.rt.lt)
          obtain ⟨az, cz, rfl⟩ := own_form hz
          clear hz hb5 HS4 HR4
          go_wp2
          go_loopw [18, 20] (fun bv i wr => ∃ (k2 : Nat) (b : Bool), k2 ≤ lk.length ∧ i = .int .i64 k2 ∧ bv = .bool b ∧ Hid (BegK lk fk tk k2 b) ∧ Hid (Below w5.heap.size w5 wr)) (fun _ i _ => lk.length - (intOf i).toNat)
          case atStart => exact ⟨0, false, Nat.zero_le _, rfl, rfl, beg_zero _ _ _, hideIt (Below.refl _ _)⟩
          case round =>
            obtain ⟨k2, b, hk2, rfl, rfl, HBK, HB⟩ := hrel
            have hl100 := HLK.out.2
            by_cases hlt2 : k2 < lk.length
            · obtain ⟨q, hq⟩ : ∃ q, lk[k2]? = some q := ⟨lk[k2], by simp [hlt2]⟩
              obtain ⟨bb, off, rfl, _, c0, c1, c2⟩ := PcsIn.at (HZ5.out.next HB.out) hq
              have HQ := hideIt hq
              have q1 := leq_iff q.1 fk
              clear hq
              cases b with
              | true =>
                have HN : Hid (BegK lk fk tk (k2 + 1) true) := hideIt (beg_true HBK.out)
                go_wp2
                exact ⟨⟨k2 + 1, _, by omega, by go_num, rfl, HN, HB⟩, by simp [intOf]; omega⟩
              | false =>
              cases g1 : Op.bytesLess fk q.1 with
              | false =>
                rw [g1] at q1
                have HN : Hid (BegK lk fk tk (k2 + 1) false) := hideIt (beg_no HBK.out HQ.out (fun h => by have := h.1; unfold kLt at this; rw [g1] at this; cases this))
                go_wp2
                exact ⟨⟨k2 + 1, _, by omega, by go_num, rfl, HN, HB⟩, by simp [intOf]; omega⟩
              | true =>
                rw [g1] at q1
                cases g3 : Op.bytesLess q.1 tk with
                | true =>
                  have HN : Hid (BegK lk fk tk (k2 + 1) true) := hideIt (beg_yes HQ.out g1 (Or.inr g3))
                  go_wp2
                  exact ⟨⟨k2 + 1, _, by omega, by go_num, rfl, HN, HB⟩, by simp [intOf]; omega⟩
                | false =>
                  have HN : Hid (BegK lk fk tk (k2 + 1) false) := hideIt (beg_no HBK.out HQ.out (fun h => by rcases h.2 with h2 | h2; exact HTN.out h2; unfold kLt at h2; rw [g3] at h2; cases h2))
                  go_wp2
                  exact ⟨⟨k2 + 1, _, by omega, by go_num, rfl, HN, HB⟩, by simp [intOf]; omega⟩
            · obtain rfl : k2 = lk.length := by omega
              have HSr := hideIt (HS5.out.next HB.out)
              have HRr := hideIt (HR5.out.next HB.out)
              obtain rfl := beg_alone HAL.out HBK.out
              have hne := fun w => neq_pc x x w
              rw [decide_eq_true (rfl : x = x)] at hne
              have r0 := HRr.out.1
              have r1 := HRr.out.2.1
              have r2 := HRr.out.2.2
              have HON : Hid (OneIs lk fk tk x true) := hideIt (Or.inl ⟨rfl, HRNG.out, HAL.out, HOW.out⟩)
              go_wp2_with fail
              refine wp_region_quiet_grow (by kernel_rfl) (by kernel_rfl) ?_
              intro ι _ f hf hn
              have s0 := fun i => ((hf i).cell (lt_of_cell r0)).trans r0
              have s1 := fun i => ((hf i).cell (lt_of_cell r1)).trans r1
              have s2 := fun i => ((hf i).cell (lt_of_cell r2)).trans r2
              have HSF := hideIt hf
              have HNN := hideIt hn
              have HA1 := hideIt (fun i => owner_def (HSr.out.next (hf i)) HOW.out)
              unfold pcV at HA1
              clear hf hn r0 r1 r2
              repeat (go_big_quiet_step ((go_at_call 19; exact Calls.grow HNN.out (HA1.out _))))
              refine wpQuiet_nil ?_
              rintro w6 ⟨i, rfl⟩
              have HS6 := hideIt (HSr.out.next (HSF.out i))
              have HR6 := hideIt (HRr.out.next (HSF.out i))
              clear HSF HA1 HNN s0 s1 s2
              generalize f i = w6 at HS6 HR6 ⊢
              · go_wp2
                go_loopw [21] (fun i wr => ∃ k3 : Nat, k3 ≤ keys.length ∧ i = .int .i64 k3 ∧ Hid (Below w6.heap.size w6 wr)) (fun i _ => keys.length - (intOf i).toNat)
                case atStart => exact ⟨0, Nat.zero_le _, rfl, hideIt (Below.refl _ _)⟩
                case round =>
                  obtain ⟨k3, hk3, rfl, HB⟩ := hrel
                  have HSr := hideIt (HS6.out.next HB.out)
                  have HRr := hideIt (HR6.out.next HB.out)
                  by_cases hlt3 : k3 < keys.length
                  · obtain ⟨key, hkey⟩ : ∃ key, keys[k3]? = some key := ⟨keys[k3], by simp [hlt3]⟩
                    obtain ⟨b, off, rfl, _, c0⟩ := KeysIn.at (HKS.out.low HSr.out.env.1) hkey
                    have r0 := HRr.out.1
                    have r1 := HRr.out.2.1
                    have r2 := HRr.out.2.2
                    clear hkey
                    cases g5 : Op.bytesLess key fk with
                    | true =>
                      go_wp2_with fail
                      go_quiet (fail)
                      have HB7 := hideIt (HB.out.trans ((below_drewN wr nq).mono HB.out.size))
                      go_wp2
                      exact ⟨⟨k3 + 1, by omega, by go_num, HB7⟩, by simp [intOf]; omega⟩
                    | false =>
                      cases g6 : Op.bytesLess key tk with
                      | true =>
                        have HIN : Hid (inR fk tk key = true) := hideIt (inR_iff.2 ⟨fun h => (by unfold kLt at h; rw [g5] at h; cases h), Or.inr g6⟩)
                        go_wp2_with fail
                        refine wp_region_quiet_grow (by kernel_rfl) (by kernel_rfl) ?_
                        intro ι _ f hf hn
                        have s0 := fun i => ((hf i).cell (lt_of_cell r0)).trans r0
                        have s1 := fun i => ((hf i).cell (lt_of_cell r1)).trans r1
                        have s2 := fun i => ((hf i).cell (lt_of_cell r2)).trans r2
                        have s3 := fun i => ((hf i).cell (lt_of_cell c0)).trans c0
                        have HSF := hideIt hf
                        have HNN := hideIt hn
                        have HA1 := hideIt (fun i => owner_def (k := key) (x := x) (HSr.out.next (hf i)) (own_key HSr.out.fit.lin HON.out HIN.out))
                        unfold pcV at HA1
                        clear hf hn r0 r1 r2 c0
                        repeat (go_big_quiet_step ((go_at_call 19; exact Calls.grow HNN.out (HA1.out _))))
                        refine wpQuiet_nil ?_
                        rintro w7 ⟨i, rfl⟩
                        have HB7 := hideIt (HB.out.trans ((HSF.out i).mono HB.out.size))
                        clear HSF HA1 HNN s0 s1 s2 s3
                        generalize f i = w7 at HB7 ⊢
                        go_wp2
                        exact ⟨⟨k3 + 1, by omega, by go_num, HB7⟩, by simp [intOf]; omega⟩
                      | false =>
                        go_wp2_with fail
                        go_quiet (fail)
                        have HB7 := hideIt (HB.out.trans ((below_drewN wr nq).mono HB.out.size))
                        go_wp2
                        exact ⟨⟨k3 + 1, by omega, by go_num, HB7⟩, by simp [intOf]; omega⟩
                  · go_wp2
                    go_ret
                    exact ⟨rfl, HSr.out.env.1⟩
      · have HNO := hideIt hno
        clear hno
        by_cases h1 : (fk.length : Int) ≤ 16
        case neg =>
          by_cases htk : tk = []
          · subst htk
            go_wp2_with fail
            rw [← hW]
            clear hW
            refine (rqPieces_any W4 p _ lk HS4.out.rt HS4.out.few).mono ?_
            rintro e w5 ⟨z, rfl, hz, hb5⟩
            have HS5 := hideIt (HS4.out.next hb5)
            have HR5 := hideIt (HR4.out.next hb5)
            have HZ5 : Hid (PcsNe w5 p z lk) := hideIt (PcsNe.own hz HS4.out.rt.lt)
            obtain ⟨az, cz, rfl⟩ := own_form hz
            clear hz hb5 HS4 HR4
            go_wp2
            go_loopw [18, 20] (fun bv i wr => ∃ (k2 : Nat) (b : Bool), k2 ≤ lk.length ∧ i = .int .i64 k2 ∧ bv = .bool b ∧ Hid (BegK lk fk [] k2 b) ∧ Hid (Below w5.heap.size w5 wr)) (fun _ i _ => lk.length - (intOf i).toNat)
            case atStart => exact ⟨0, false, Nat.zero_le _, rfl, rfl, beg_zero _ _ _, hideIt (Below.refl _ _)⟩
            case round =>
              obtain ⟨k2, b, hk2, rfl, rfl, HBK, HB⟩ := hrel
              have hl100 := HLK.out.2
              by_cases hlt2 : k2 < lk.length
              · obtain ⟨q, hq⟩ : ∃ q, lk[k2]? = some q := ⟨lk[k2], by simp [hlt2]⟩
                obtain ⟨bb, off, rfl, _, c0, c1, c2⟩ := PcsIn.at (HZ5.out.next HB.out) hq
                have HQ := hideIt hq
                have q1 := leq_iff q.1 fk
                clear hq
                cases b with
                | true =>
                  have HN : Hid (BegK lk fk [] (k2 + 1) true) := hideIt (beg_true HBK.out)
                  go_wp2
                  exact ⟨⟨k2 + 1, _, by omega, by go_num, rfl, HN, HB⟩, by simp [intOf]; omega⟩
                | false =>
                cases g1 : Op.bytesLess fk q.1 with
                | false =>
                  rw [g1] at q1
                  have HN : Hid (BegK lk fk [] (k2 + 1) false) := hideIt (beg_no HBK.out HQ.out (fun h => by have := h.1; unfold kLt at this; rw [g1] at this; cases this))
                  go_wp2
                  exact ⟨⟨k2 + 1, _, by omega, by go_num, rfl, HN, HB⟩, by simp [intOf]; omega⟩
                | true =>
                  rw [g1] at q1
                  have HN : Hid (BegK lk fk [] (k2 + 1) true) := hideIt (beg_yes HQ.out g1 (Or.inl rfl))
                  go_wp2
                  exact ⟨⟨k2 + 1, _, by omega, by go_num, rfl, HN, HB⟩, by simp [intOf]; omega⟩
              · obtain rfl : k2 = lk.length := by omega
                have HSr := hideIt (HS5.out.next HB.out)
                have HRr := hideIt (HR5.out.next HB.out)
                go_wp2_with fail
                refine wp_region_quiet_grow (by kernel_rfl) (by kernel_rfl) ?_
                intro ι _ f hf _
                have HSF := hideIt hf
                clear hf
                repeat (go_big_quiet_step (fail))
                refine wpQuiet_nil ?_
                rintro w6 ⟨i, rfl⟩
                have HS6 := hideIt (HSr.out.next (HSF.out i))
                clear HSF
                generalize f i = w6 at HS6 ⊢
                go_wp2
                go_loopw [21] (fun i wr => ∃ k3 : Nat, k3 ≤ keys.length ∧ i = .int .i64 k3 ∧ Hid (Below w6.heap.size w6 wr)) (fun i _ => keys.length - (intOf i).toNat)
                case atStart => exact ⟨0, Nat.zero_le _, rfl, hideIt (Below.refl _ _)⟩
                case round =>
                  obtain ⟨k3, hk3, rfl, HB⟩ := hrel
                  by_cases hlt3 : k3 < keys.length
                  · go_wp2_with fail
                    refine wp_region_quiet_grow (by kernel_rfl) (by kernel_rfl) ?_
                    intro ι _ f hf _
                    have HSF := hideIt hf
                    clear hf
                    repeat (go_big_quiet_step (fail))
                    refine wpQuiet_nil ?_
                    rintro w7 ⟨i, rfl⟩
                    have HB7 := hideIt (HB.out.trans ((HSF.out i).mono HB.out.size))
                    clear HSF
                    generalize f i = w7 at HB7 ⊢
                    go_wp2
                    exact ⟨⟨k3 + 1, by omega, by go_num, HB7⟩, by simp [intOf]; omega⟩
                  · go_wp2
                    go_ret
                    exact ⟨rfl, (HS6.out.next HB.out).env.1⟩
          · have g2 : (tk == []) = false := by simpa using htk
            have HTN := hideIt htk
            clear htk
            go_wp2_with fail
            rw [← hW]
            clear hW
            refine (rqPieces_any W4 p _ lk HS4.out.rt HS4.out.few).mono ?_
            rintro e w5 ⟨z, rfl, hz, hb5⟩
            have HS5 := hideIt (HS4.out.next hb5)
            have HR5 := hideIt (HR4.out.next hb5)
            have HZ5 : Hid (PcsNe w5 p z lk) := hideIt (PcsNe.own hz HS4.out.rt.lt)
            obtain ⟨az, cz, rfl⟩ := own_form hz
            clear hz hb5 HS4 HR4
            go_wp2
            go_loopw [18, 20] (fun bv i wr => ∃ (k2 : Nat) (b : Bool), k2 ≤ lk.length ∧ i = .int .i64 k2 ∧ bv = .bool b ∧ Hid (BegK lk fk tk k2 b) ∧ Hid (Below w5.heap.size w5 wr)) (fun _ i _ => lk.length - (intOf i).toNat)
            case atStart => exact ⟨0, false, Nat.zero_le _, rfl, rfl, beg_zero _ _ _, hideIt (Below.refl _ _)⟩
            case round =>
              obtain ⟨k2, b, hk2, rfl, rfl, HBK, HB⟩ := hrel
              have hl100 := HLK.out.2
              by_cases hlt2 : k2 < lk.length
              · obtain ⟨q, hq⟩ : ∃ q, lk[k2]? = some q := ⟨lk[k2], by simp [hlt2]⟩
                obtain ⟨bb, off, rfl, _, c0, c1, c2⟩ := PcsIn.at (HZ5.out.next HB.out) hq
                have HQ := hideIt hq
                have q1 := leq_iff q.1 fk
                clear hq
                cases b with
                | true =>
                  have HN : Hid (BegK lk fk tk (k2 + 1) true) := hideIt (beg_true HBK.out)
                  go_wp2
                  exact ⟨⟨k2 + 1, _, by omega, by go_num, rfl, HN, HB⟩, by simp [intOf]; omega⟩
                | false =>
                cases g1 : Op.bytesLess fk q.1 with
                | false =>
                  rw [g1] at q1
                  have HN : Hid (BegK lk fk tk (k2 + 1) false) := hideIt (beg_no HBK.out HQ.out (fun h => by have := h.1; unfold kLt at this; rw [g1] at this; cases this))
                  go_wp2
                  exact ⟨⟨k2 + 1, _, by omega, by go_num, rfl, HN, HB⟩, by simp [intOf]; omega⟩
                | true =>
                  rw [g1] at q1
                  cases g3 : Op.bytesLess q.1 tk with
                  | true =>
                    have HN : Hid (BegK lk fk tk (k2 + 1) true) := hideIt (beg_yes HQ.out g1 (Or.inr g3))
                    go_wp2
                    exact ⟨⟨k2 + 1, _, by omega, by go_num, rfl, HN, HB⟩, by simp [intOf]; omega⟩
                  | false =>
                    have HN : Hid (BegK lk fk tk (k2 + 1) false) := hideIt (beg_no HBK.out HQ.out (fun h => by rcases h.2 with h2 | h2; exact HTN.out h2; unfold kLt at h2; rw [g3] at h2; cases h2))
                    go_wp2
                    exact ⟨⟨k2 + 1, _, by omega, by go_num, rfl, HN, HB⟩, by simp [intOf]; omega⟩
              · obtain rfl : k2 = lk.length := by omega
                have HSr := hideIt (HS5.out.next HB.out)
                have HRr := hideIt (HR5.out.next HB.out)
                go_wp2_with fail
                refine wp_region_quiet_grow (by kernel_rfl) (by kernel_rfl) ?_
                intro ι _ f hf _
                have HSF := hideIt hf
                clear hf
                repeat (go_big_quiet_step (fail))
                refine wpQuiet_nil ?_
                rintro w6 ⟨i, rfl⟩
                have HS6 := hideIt (HSr.out.next (HSF.out i))
                clear HSF
                generalize f i = w6 at HS6 ⊢
                go_wp2
                go_loopw [21] (fun i wr => ∃ k3 : Nat, k3 ≤ keys.length ∧ i = .int .i64 k3 ∧ Hid (Below w6.heap.size w6 wr)) (fun i _ => keys.length - (intOf i).toNat)
                case atStart => exact ⟨0, Nat.zero_le _, rfl, hideIt (Below.refl _ _)⟩
                case round =>
                  obtain ⟨k3, hk3, rfl, HB⟩ := hrel
                  by_cases hlt3 : k3 < keys.length
                  · go_wp2_with fail
                    refine wp_region_quiet_grow (by kernel_rfl) (by kernel_rfl) ?_
                    intro ι _ f hf _
                    have HSF := hideIt hf
                    clear hf
                    repeat (go_big_quiet_step (fail))
                    refine wpQuiet_nil ?_
                    rintro w7 ⟨i, rfl⟩
                    have HB7 := hideIt (HB.out.trans ((HSF.out i).mono HB.out.size))
                    clear HSF
                    generalize f i = w7 at HB7 ⊢
                    go_wp2
                    exact ⟨⟨k3 + 1, by omega, by go_num, HB7⟩, by simp [intOf]; omega⟩
                  · go_wp2
                    go_ret
                    exact ⟨rfl, (HS6.out.next HB.out).env.1⟩
        by_cases htk : tk = []
        · subst htk
          have HAL := hideIt (fun ha => HNO.out ⟨⟨by omega, Or.inl rfl⟩, ha⟩)
          go_wp2_with fail
          rw [← hW]
          clear hW
          refine (rqPieces_any W4 p _ lk HS4.out.rt HS4.out.few).mono ?_
          rintro e w5 ⟨z, rfl, hz, hb5⟩
          have HS5 := hideIt (HS4.out.next hb5)
          have HR5 := hideIt (HR4.out.next hb5)
          have HZ5 : Hid (PcsNe w5 p z lk) := hideIt (PcsNe.own hz HS4.out.rt.lt)
          obtain ⟨az, cz, rfl⟩ := own_form hz
          clear hz hb5 HS4 HR4
          go_wp2
          go_loopw [18, 20] (fun bv i wr => ∃ (k2 : Nat) (b : Bool), k2 ≤ lk.length ∧ i = .int .i64 k2 ∧ bv = .bool b ∧ Hid (BegK lk fk [] k2 b) ∧ Hid (Below w5.heap.size w5 wr)) (fun _ i _ => lk.length - (intOf i).toNat)
          case atStart => exact ⟨0, false, Nat.zero_le _, rfl, rfl, beg_zero _ _ _, hideIt (Below.refl _ _)⟩
          case round =>
            obtain ⟨k2, b, hk2, rfl, rfl, HBK, HB⟩ := hrel
            have hl100 := HLK.out.2
            by_cases hlt2 : k2 < lk.length
            · obtain ⟨q, hq⟩ : ∃ q, lk[k2]? = some q := ⟨lk[k2], by simp [hlt2]⟩
              obtain ⟨bb, off, rfl, _, c0, c1, c2⟩ := PcsIn.at (HZ5.out.next HB.out) hq
              have HQ := hideIt hq
              have q1 := leq_iff q.1 fk
              clear hq
              cases b with
              | true =>
                have HN : Hid (BegK lk fk [] (k2 + 1) true) := hideIt (beg_true HBK.out)
                go_wp2
                exact ⟨⟨k2 + 1, _, by omega, by go_num, rfl, HN, HB⟩, by simp [intOf]; omega⟩
              | false =>
              cases g1 : Op.bytesLess fk q.1 with
              | false =>
                rw [g1] at q1
                have HN : Hid (BegK lk fk [] (k2 + 1) false) := hideIt (beg_no HBK.out HQ.out (fun h => by have := h.1; unfold kLt at this; rw [g1] at this; cases this))
                go_wp2
                exact ⟨⟨k2 + 1, _, by omega, by go_num, rfl, HN, HB⟩, by simp [intOf]; omega⟩
              | true =>
                rw [g1] at q1
                have HN : Hid (BegK lk fk [] (k2 + 1) true) := hideIt (beg_yes HQ.out g1 (Or.inl rfl))
                go_wp2
                exact ⟨⟨k2 + 1, _, by omega, by go_num, rfl, HN, HB⟩, by simp [intOf]; omega⟩
            · obtain rfl : k2 = lk.length := by omega
              have HSr := hideIt (HS5.out.next HB.out)
              have HRr := hideIt (HR5.out.next HB.out)
              obtain rfl := beg_more HAL.out HBK.out
              go_wp2_with fail
              refine wp_region_quiet_grow (by kernel_rfl) (by kernel_rfl) ?_
              intro ι _ f hf _
              have HSF := hideIt hf
              clear hf
              repeat (go_big_quiet_step (fail))
              refine wpQuiet_nil ?_
              rintro w6 ⟨i, rfl⟩
              have HS6 := hideIt (HSr.out.next (HSF.out i))
              clear HSF
              generalize f i = w6 at HS6 ⊢
              go_wp2
              go_loopw [21] (fun i wr => ∃ k3 : Nat, k3 ≤ keys.length ∧ i = .int .i64 k3 ∧ Hid (Below w6.heap.size w6 wr)) (fun i _ => keys.length - (intOf i).toNat)
              case atStart => exact ⟨0, Nat.zero_le _, rfl, hideIt (Below.refl _ _)⟩
              case round =>
                obtain ⟨k3, hk3, rfl, HB⟩ := hrel
                by_cases hlt3 : k3 < keys.length
                · go_wp2_with fail
                  refine wp_region_quiet_grow (by kernel_rfl) (by kernel_rfl) ?_
                  intro ι _ f hf _
                  have HSF := hideIt hf
                  clear hf
                  repeat (go_big_quiet_step (fail))
                  refine wpQuiet_nil ?_
                  rintro w7 ⟨i, rfl⟩
                  have HB7 := hideIt (HB.out.trans ((HSF.out i).mono HB.out.size))
                  clear HSF
                  generalize f i = w7 at HB7 ⊢
                  go_wp2
                  exact ⟨⟨k3 + 1, by omega, by go_num, HB7⟩, by simp [intOf]; omega⟩
                · go_wp2
                  go_ret
                  exact ⟨rfl, (HS6.out.next HB.out).env.1⟩
        have g2 : (tk == []) = false := by simpa using htk
        have HTN := hideIt htk
        clear htk
        by_cases h2 : (tk.length : Int) ≤ 16
        case neg =>
          go_wp2_with fail
          rw [← hW]
          clear hW
          refine (rqPieces_any W4 p _ lk HS4.out.rt HS4.out.few).mono ?_
          rintro e w5 ⟨z, rfl, hz, hb5⟩
          have HS5 := hideIt (HS4.out.next hb5)
          have HR5 := hideIt (HR4.out.next hb5)
          have HZ5 : Hid (PcsNe w5 p z lk) := hideIt (PcsNe.own hz HS4.out.rt.lt)
          obtain ⟨az, cz, rfl⟩ := own_form hz
          clear hz hb5 HS4 HR4
          go_wp2
          go_loopw [18, 20] (fun bv i wr => ∃ (k2 : Nat) (b : Bool), k2 ≤ lk.length ∧ i = .int .i64 k2 ∧ bv = .bool b ∧ Hid (BegK lk fk tk k2 b) ∧ Hid (Below w5.heap.size w5 wr)) (fun _ i _ => lk.length - (intOf i).toNat)
          case atStart => exact ⟨0, false, Nat.zero_le _, rfl, rfl, beg_zero _ _ _, hideIt (Below.refl _ _)⟩
          case round =>
            obtain ⟨k2, b, hk2, rfl, rfl, HBK, HB⟩ := hrel
            have hl100 := HLK.out.2
            by_cases hlt2 : k2 < lk.length
            · obtain ⟨q, hq⟩ : ∃ q, lk[k2]? = some q := ⟨lk[k2], by simp [hlt2]⟩
              obtain ⟨bb, off, rfl, _, c0, c1, c2⟩ := PcsIn.at (HZ5.out.next HB.out) hq
              have HQ := hideIt hq
              have q1 := leq_iff q.1 fk
              clear hq
              cases b with
              | true =>
                have HN : Hid (BegK lk fk tk (k2 + 1) true) := hideIt (beg_true HBK.out)
                go_wp2
                exact ⟨⟨k2 + 1, _, by omega, by go_num, rfl, HN, HB⟩, by simp [intOf]; omega⟩
              | false =>
              cases g1 : Op.bytesLess fk q.1 with
              | false =>
                rw [g1] at q1
                have HN : Hid (BegK lk fk tk (k2 + 1) false) := hideIt (beg_no HBK.out HQ.out (fun h => by have := h.1; unfold kLt at this; rw [g1] at this; cases this))
                go_wp2
                exact ⟨⟨k2 + 1, _, by omega, by go_num, rfl, HN, HB⟩, by simp [intOf]; omega⟩
              | true =>
                rw [g1] at q1
                cases g3 : Op.bytesLess q.1 tk with
                | true =>
                  have HN : Hid (BegK lk fk tk (k2 + 1) true) := hideIt (beg_yes HQ.out g1 (Or.inr g3))
                  go_wp2
                  exact ⟨⟨k2 + 1, _, by omega, by go_num, rfl, HN, HB⟩, by simp [intOf]; omega⟩
                | false =>
                  have HN : Hid (BegK lk fk tk (k2 + 1) false) := hideIt (beg_no HBK.out HQ.out (fun h => by rcases h.2 with h2 | h2; exact HTN.out h2; unfold kLt at h2; rw [g3] at h2; cases h2))
                  go_wp2
                  exact ⟨⟨k2 + 1, _, by omega, by go_num, rfl, HN, HB⟩, by simp [intOf]; omega⟩
            · obtain rfl : k2 = lk.length := by omega
              have HSr := hideIt (HS5.out.next HB.out)
              have HRr := hideIt (HR5.out.next HB.out)
              go_wp2_with fail
              refine wp_region_quiet_grow (by kernel_rfl) (by kernel_rfl) ?_
              intro ι _ f hf _
              have HSF := hideIt hf
              clear hf
              repeat (go_big_quiet_step (fail))
              refine wpQuiet_nil ?_
              rintro w6 ⟨i, rfl⟩
              have HS6 := hideIt (HSr.out.next (HSF.out i))
              clear HSF
              generalize f i = w6 at HS6 ⊢
              go_wp2
              go_loopw [21] (fun i wr => ∃ k3 : Nat, k3 ≤ keys.length ∧ i = .int .i64 k3 ∧ Hid (Below w6.heap.size w6 wr)) (fun i _ => keys.length - (intOf i).toNat)
              case atStart => exact ⟨0, Nat.zero_le _, rfl, hideIt (Below.refl _ _)⟩
              case round =>
                obtain ⟨k3, hk3, rfl, HB⟩ := hrel
                by_cases hlt3 : k3 < keys.length
                · go_wp2_with fail
                  refine wp_region_quiet_grow (by kernel_rfl) (by kernel_rfl) ?_
                  intro ι _ f hf _
                  have HSF := hideIt hf
                  clear hf
                  repeat (go_big_quiet_step (fail))
                  refine wpQuiet_nil ?_
                  rintro w7 ⟨i, rfl⟩
                  have HB7 := hideIt (HB.out.trans ((HSF.out i).mono HB.out.size))
                  clear HSF
                  generalize f i = w7 at HB7 ⊢
                  go_wp2
                  exact ⟨⟨k3 + 1, by omega, by go_num, HB7⟩, by simp [intOf]; omega⟩
                · go_wp2
                  go_ret
                  exact ⟨rfl, (HS6.out.next HB.out).env.1⟩
        cases g4 : Op.bytesLess fk tk with
        | false =>
          go_wp2_with fail
          rw [← hW]
          clear hW
          refine (rqPieces_any W4 p _ lk HS4.out.rt HS4.out.few).mono ?_
          rintro e w5 ⟨z, rfl, hz, hb5⟩
          have HS5 := hideIt (HS4.out.next hb5)
          have HR5 := hideIt (HR4.out.next hb5)
          have HZ5 : Hid (PcsNe w5 p z lk) := hideIt (PcsNe.own hz HS4.out.rt.lt)
          obtain ⟨az, cz, rfl⟩ := own_form hz
          clear hz hb5 HS4 HR4
          go_wp2
          go_loopw [18, 20] (fun bv i wr => ∃ (k2 : Nat) (b : Bool), k2 ≤ lk.length ∧ i = .int .i64 k2 ∧ bv = .bool b ∧ Hid (BegK lk fk tk k2 b) ∧ Hid (Below w5.heap.size w5 wr)) (fun _ i _ => lk.length - (intOf i).toNat)
          case atStart => exact ⟨0, false, Nat.zero_le _, rfl, rfl, beg_zero _ _ _, hideIt (Below.refl _ _)⟩
          case round =>
            obtain ⟨k2, b, hk2, rfl, rfl, HBK, HB⟩ := hrel
            have hl100 := HLK.out.2
            by_cases hlt2 : k2 < lk.length
            · obtain ⟨q, hq⟩ : ∃ q, lk[k2]? = some q := ⟨lk[k2], by simp [hlt2]⟩
              obtain ⟨bb, off, rfl, _, c0, c1, c2⟩ := PcsIn.at (HZ5.out.next HB.out) hq
              have HQ := hideIt hq
              have q1 := leq_iff q.1 fk
              clear hq
              cases b with
              | true =>
                have HN : Hid (BegK lk fk tk (k2 + 1) true) := hideIt (beg_true HBK.out)
                go_wp2
                exact ⟨⟨k2 + 1, _, by omega, by go_num, rfl, HN, HB⟩, by simp [intOf]; omega⟩
              | false =>
              cases g1 : Op.bytesLess fk q.1 with
              | false =>
                rw [g1] at q1
                have HN : Hid (BegK lk fk tk (k2 + 1) false) := hideIt (beg_no HBK.out HQ.out (fun h => by have := h.1; unfold kLt at this; rw [g1] at this; cases this))
                go_wp2
                exact ⟨⟨k2 + 1, _, by omega, by go_num, rfl, HN, HB⟩, by simp [intOf]; omega⟩
              | true =>
                rw [g1] at q1
                cases g3 : Op.bytesLess q.1 tk with
                | true =>
                  have HN : Hid (BegK lk fk tk (k2 + 1) true) := hideIt (beg_yes HQ.out g1 (Or.inr g3))
                  go_wp2
                  exact ⟨⟨k2 + 1, _, by omega, by go_num, rfl, HN, HB⟩, by simp [intOf]; omega⟩
                | false =>
                  have HN : Hid (BegK lk fk tk (k2 + 1) false) := hideIt (beg_no HBK.out HQ.out (fun h => by rcases h.2 with h2 | h2; exact HTN.out h2; unfold kLt at h2; rw [g3] at h2; cases h2))
                  go_wp2
                  exact ⟨⟨k2 + 1, _, by omega, by go_num, rfl, HN, HB⟩, by simp [intOf]; omega⟩
            · obtain rfl : k2 = lk.length := by omega
              have HSr := hideIt (HS5.out.next HB.out)
              have HRr := hideIt (HR5.out.next HB.out)
              go_wp2_with fail
              refine wp_region_quiet_grow (by kernel_rfl) (by kernel_rfl) ?_
              intro ι _ f hf _
              have HSF := hideIt hf
              clear hf
              repeat (go_big_quiet_step (fail))
              refine wpQuiet_nil ?_
              rintro w6 ⟨i, rfl⟩
              have HS6 := hideIt (HSr.out.next (HSF.out i))
              clear HSF
              generalize f i = w6 at HS6 ⊢
              go_wp2
              go_loopw [21] (fun i wr => ∃ k3 : Nat, k3 ≤ keys.length ∧ i = .int .i64 k3 ∧ Hid (Below w6.heap.size w6 wr)) (fun i _ => keys.length - (intOf i).toNat)
              case atStart => exact ⟨0, Nat.zero_le _, rfl, hideIt (Below.refl _ _)⟩
              case round =>
                obtain ⟨k3, hk3, rfl, HB⟩ := hrel
                by_cases hlt3 : k3 < keys.length
                · go_wp2_with fail
                  refine wp_region_quiet_grow (by kernel_rfl) (by kernel_rfl) ?_
                  intro ι _ f hf _
                  have HSF := hideIt hf
                  clear hf
                  repeat (go_big_quiet_step (fail))
                  refine wpQuiet_nil ?_
                  rintro w7 ⟨i, rfl⟩
                  have HB7 := hideIt (HB.out.trans ((HSF.out i).mono HB.out.size))
                  clear HSF
                  generalize f i = w7 at HB7 ⊢
                  go_wp2
                  exact ⟨⟨k3 + 1, by omega, by go_num, HB7⟩, by simp [intOf]; omega⟩
                · go_wp2
                  go_ret
                  exact ⟨rfl, (HS6.out.next HB.out).env.1⟩
        | true =>
          have HAL := hideIt (fun ha => HNO.out ⟨⟨by omega, Or.inr ⟨g4, by omega⟩⟩, ha⟩)
          go_wp2_with fail
          rw [← hW]
          clear hW
          refine (rqPieces_any W4 p _ lk HS4.out.rt HS4.out.few).mono ?_
          rintro e w5 ⟨z, rfl, hz, hb5⟩
          have HS5 := hideIt (HS4.out.next hb5)
          have HR5 := hideIt (HR4.out.next hb5)
          have HZ5 : Hid (PcsNe w5 p z lk) := hideIt (PcsNe.own hz HS4.out.rt.lt)
          obtain ⟨az, cz, rfl⟩ := own_form hz
          clear hz hb5 HS4 HR4
          go_wp2
          go_loopw [18, 20] (fun bv i wr => ∃ (k2 : Nat) (b : Bool), k2 ≤ lk.length ∧ i = .int .i64 k2 ∧ bv = .bool b ∧ Hid (BegK lk fk tk k2 b) ∧ Hid (Below w5.heap.size w5 wr)) (fun _ i _ => lk.length - (intOf i).toNat)
          case atStart => exact ⟨0, false, Nat.zero_le _, rfl, rfl, beg_zero _ _ _, hideIt (Below.refl _ _)⟩
          case round =>
            obtain ⟨k2, b, hk2, rfl, rfl, HBK, HB⟩ := hrel
            have hl100 := HLK.out.2
            by_cases hlt2 : k2 < lk.length
            · obtain ⟨q, hq⟩ : ∃ q, lk[k2]? = some q := ⟨lk[k2], by simp [hlt2]⟩
              obtain ⟨bb, off, rfl, _, c0, c1, c2⟩ := PcsIn.at (HZ5.out.next HB.out) hq
              have HQ := hideIt hq
              have q1 := leq_iff q.1 fk
              clear hq
              cases b with
              | true =>
                have HN : Hid (BegK lk fk tk (k2 + 1) true) := hideIt (beg_true HBK.out)
                go_wp2
                exact ⟨⟨k2 + 1, _, by omega, by go_num, rfl, HN, HB⟩, by simp [intOf]; omega⟩
              | false =>
              cases g1 : Op.bytesLess fk q.1 with
              | false =>
                rw [g1] at q1
                have HN : Hid (BegK lk fk tk (k2 + 1) false) := hideIt (beg_no HBK.out HQ.out (fun h => by have := h.1; unfold kLt at this; rw [g1] at this; cases this))
                go_wp2
                exact ⟨⟨k2 + 1, _, by omega, by go_num, rfl, HN, HB⟩, by simp [intOf]; omega⟩
              | true =>
                rw [g1] at q1
                cases g3 : Op.bytesLess q.1 tk with
                | true =>
                  have HN : Hid (BegK lk fk tk (k2 + 1) true) := hideIt (beg_yes HQ.out g1 (Or.inr g3))
                  go_wp2
                  exact ⟨⟨k2 + 1, _, by omega, by go_num, rfl, HN, HB⟩, by simp [intOf]; omega⟩
                | false =>
                  have HN : Hid (BegK lk fk tk (k2 + 1) false) := hideIt (beg_no HBK.out HQ.out (fun h => by rcases h.2 with h2 | h2; exact HTN.out h2; unfold kLt at h2; rw [g3] at h2; cases h2))
                  go_wp2
                  exact ⟨⟨k2 + 1, _, by omega, by go_num, rfl, HN, HB⟩, by simp [intOf]; omega⟩
            · obtain rfl : k2 = lk.length := by omega
              have HSr := hideIt (HS5.out.next HB.out)
              have HRr := hideIt (HR5.out.next HB.out)
              obtain rfl := beg_more HAL.out HBK.out
              go_wp2_with fail
              refine wp_region_quiet_grow (by kernel_rfl) (by kernel_rfl) ?_
              intro ι _ f hf _
              have HSF := hideIt hf
              clear hf
              repeat (go_big_quiet_step (fail))
              refine wpQuiet_nil ?_
              rintro w6 ⟨i, rfl⟩
              have HS6 := hideIt (HSr.out.next (HSF.out i))
              clear HSF
              generalize f i = w6 at HS6 ⊢
              go_wp2
              go_loopw [21] (fun i wr => ∃ k3 : Nat, k3 ≤ keys.length ∧ i = .int .i64 k3 ∧ Hid (Below w6.heap.size w6 wr)) (fun i _ => keys.length - (intOf i).toNat)
              case atStart => exact ⟨0, Nat.zero_le _, rfl, hideIt (Below.refl _ _)⟩
              case round =>
                obtain ⟨k3, hk3, rfl, HB⟩ := hrel
                by_cases hlt3 : k3 < keys.length
                · go_wp2_with fail
                  refine wp_region_quiet_grow (by kernel_rfl) (by kernel_rfl) ?_
                  intro ι _ f hf _
                  have HSF := hideIt hf
                  clear hf
                  repeat (go_big_quiet_step (fail))
                  refine wpQuiet_nil ?_
                  rintro w7 ⟨i, rfl⟩
                  have HB7 := hideIt (HB.out.trans ((HSF.out i).mono HB.out.size))
                  clear HSF
                  generalize f i = w7 at HB7 ⊢
                  go_wp2
                  exact ⟨⟨k3 + 1, by omega, by go_num, HB7⟩, by simp [intOf]; omega⟩
                · go_wp2
                  go_ret
                  exact ⟨rfl, (HS6.out.next HB.out).env.1⟩
end Go.Proofs.YtafhmbgnldmedaaDoor
