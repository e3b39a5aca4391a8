/-
  What is proved here: the walk of cohortlaw08.LocksTwice, over this program.
-/
import Derived.Test.YtnojbejjlahhkaaDoorHH
import Derived.Deep.RegionWith
namespace Go.Proofs.YtnojbejjlahhkaaDoor
open Go.RowKit Go.Extern.Stop Go.Stop Go.Extern

/-- locks once somebody has none: what is free of it and another one's Lock of the same keys -/
theorem hold_free {L : Lk} (hr : KRise L) {who : Int} {keys : List (List UInt8)} {j : Nat} {t : List UInt8} (h : keys[j]? = some t) : holdL (dropL (puts L who keys) who) t = none := by
  rw [hold_drop (puts_rise hr who keys), puts_own hr h]
  simp
theorem nodup_len {a b : List (List UInt8)} (ha : a.Nodup) (h : ∀ s ∈ a, s ∈ b) : a.length ≤ b.length := by
  induction a generalizing b with
  | nil => exact Nat.zero_le _
  | cons x r ih =>
    obtain ⟨h1, h2⟩ := List.pairwise_cons.1 ha
    have hx := h x (List.mem_cons_self ..)
    have h3 := ih (b := b.erase x) h2 fun s hs => (List.mem_erase_of_ne (h1 s hs).symm).2 (h s (List.mem_cons_of_mem _ hs))
    rw [List.length_erase_of_mem hx] at h3
    have := List.length_pos_of_mem hx
    simp only [List.length_cons]
    omega
theorem mem_drop_len {a b : Lk} (ha : KRise a) (h : ∀ s n, holdL a s = some n → ∃ m, holdL b s = some m) : a.length ≤ b.length := by
  have h1 : (a.map (·.1)).Nodup := (SRise.nodup (List.pairwise_map.2 ha))
  have := nodup_len (b := b.map (·.1)) h1 fun s hs => by
    obtain ⟨⟨k, n⟩, hm, rfl⟩ := List.mem_map.1 hs
    obtain ⟨m, hm2⟩ := h k n (ha.hold.1 hm)
    exact List.mem_map.2 ⟨(k, m), hold_mem hm2, rfl⟩
  simpa using this
/-- once somebody has left them, another one's Lock of the same keys makes no more -/
theorem free_few {L : Lk} (hr : KRise L) (who other : Int) (keys : List (List UInt8)) : (puts (dropL (puts L who keys) who) other keys).length ≤ (puts L who keys).length := by
  have h1 := puts_rise hr who keys
  have h2 : KRise (dropL (puts L who keys) who) := h1.filter _
  refine mem_drop_len (puts_rise h2 other keys) fun s n hn => ?_
  rw [hold_puts h2] at hn
  by_cases hm : s ∈ keys
  · obtain ⟨j, hj⟩ := List.getElem?_of_mem hm
    exact ⟨who, puts_own hr hj⟩
  · rw [if_neg hm, hold_drop h1] at hn
    cases hh : holdL (puts L who keys) s with
    | none => rw [hh] at hn; cases hn
    | some m => exact ⟨m, rfl⟩

set_option maxRecDepth 100000 in
set_option maxHeartbeats 16000000 in
theorem ltwice_true (v : Value) (l : List Op8) (who : Int) (vk : Value) (keys : List (List UInt8)) (other : Int) (w : World) (hv : Ops8In w (· < w.heap.size) v l) (hn : l.length ≤ maxLen) (hok : ∀ o ∈ l, Op8Ok o) (fw : fits who)
    (hk : KeysIn w (· < w.heap.size) vk keys) (hkn : keys.length ≤ maxLen) (hks : ∀ s ∈ keys, s.length ≤ maxLen) (fo : fits other) (hg : ET w) (ht : PT w) :
    Calls Tryd.prog 5 #[v, .int .i64 who, vk, .int .i64 other] w fun e w' => e = .returned (.bool true) ∧ Below w.heap.size w w' := by
  have HV0 : Hid (Env w w) := ⟨Below.refl _ _, hg, ht⟩
  have HH := hideIt (head08_true w hg ht)
  have HO := hideIt hv
  have HZ := hideIt hok
  have HN := hideIt hn
  have HF := hideIt (And.intro fw fo)
  have HKI := hideIt hk
  have HKS := hideIt hks
  have HKN := hideIt hkn
  obtain ⟨a, cap, rfl⟩ := hv.form
  obtain ⟨ak, ck, rfl⟩ := hk.form
  unfold maxLen at hn hkn
  clear hg ht hv hok fw fo hk hks
  go_enter Tryd.func5, Tryd.ntmps5
  go_wp2_with fail
  refine HH.out.mono ?_
  rintro e w1 ⟨rfl, hb1⟩
  have HV1 := hideIt (HV0.out.next hb1)
  clear hb1 HH HV0
  go_wp2_with fail
  refine (lkNew_any w1).mono ?_
  rintro e w2 ⟨p, rfl, hs, hb⟩
  have HS2 := hideIt (Ls.new HV1.out hs hb)
  obtain ⟨O2, hO2⟩ : ∃ O2 : Nat → Prop, O2 = fun k => w1.heap.size ≤ k ∧ k < w2.heap.size := ⟨_, rfl⟩
  rw [← hO2] at HS2
  clear hs hb hO2 HV1
  go_wp2_with fail
  refine (great08_any _ _ l w2 (HO.out.env HS2.out.env) HN.out HZ.out).mono ?_
  rintro e w3 ⟨⟨g, rfl⟩, rfl⟩
  cases g with
  | true =>
    go_wp2
    go_ret
    exact ⟨rfl, HS2.out.env.1⟩
  | false =>
  by_cases hl3 : (300 : Int) < (keys.length : Int)
  · go_wp2
    go_ret
    exact ⟨rfl, HS2.out.env.1⟩
  go_wp2
  go_loopw [11] (fun iv wr => ∃ (k : Nat) (L : Lk) (O : Nat → Prop), k ≤ l.length ∧ iv = .int .i64 k ∧ Hid (Ls w wr p O L)) (fun iv _ => l.length - (intOf iv).toNat)
  case atStart => exact ⟨0, [], O2, Nat.zero_le _, rfl, HS2⟩
  case round =>
    clear HS2
    obtain ⟨k, L, O, hk, rfl, HS⟩ := hrel
    by_cases hlt : k < l.length
    case pos =>
      obtain ⟨o, ho⟩ : ∃ o, l[k]? = some o := ⟨l[k], by simp [hlt]⟩
      obtain ⟨b, off, u, rfl, hbw, c0, c1, c2, hu⟩ := (HO.out.env HS.out.env).at ho
      obtain ⟨hf0, hf1, hun, hus⟩ := HZ.out o (List.mem_of_getElem? ho)
      obtain ⟨au, cu, rfl⟩ := hu.form
      have HU := hideIt hu
      have HUS := hideIt (And.intro hun hus)
      have HF1 := hideIt hf1
      clear ho hu hun hus hf0 hf1
      have HSd := hideIt (HS.out.next (below_drew wr))
      have HUd := hideIt (RowIn.mono (A' := (· < wr.drew.heap.size)) (RowIn.kept HU.out (Kept.of_below (B := w.heap.size) ((below_drew wr).mono HS.out.env.1.size) (fun _ h _ => h))) (fun _ _ h => h))
      go_wp2
      go_region_with (go_at_call 9; refine (lkLock_any _ p O L _ _ o.2.2 HSd.out.st HF1.out HUd.out HUS.out.1 HUS.out.2).mono ?_; rintro e w4 ⟨er, L', O', rfl, g1, g2, g3⟩; have HS4 := hideIt (HSd.out.move g1 g2); clear g1 g2 g3)
      all_goals
        go_wp2
        exact ⟨⟨k + 1, L', O', by omega, by go_num, HS4⟩, by simp [intOf]; omega⟩
    case neg =>
      obtain rfl : k = l.length := by omega
      have HR := hideIt HS.out.st.rise
      go_wp2_with fail
      refine (lkLock_any wr p O L who _ keys HS.out.st HF.out.1 (HKI.out.low HS.out.env) HKN.out HKS.out).mono ?_
      rintro e w6 ⟨er, L6, O6, rfl, g1, g2, g3⟩
      have HS6 := hideIt (HS.out.move g1 g2)
      have hnl := lock_nil g3
      clear g1 g2 g3 HS
      rcases hnl with ⟨⟨ty, y, rfl⟩, rfl⟩ | ⟨rfl, hw0, hL6, hn128, hbar⟩
      · go_wp2
        go_ret
        exact ⟨rfl, HS6.out.env.1⟩
      · have HBR := hideIt hbar
        have HNN := hideIt hn128
        rw [hL6] at HS6
        clear hL6 hbar hn128
        go_wp2_with fail
        refine (lkMany_any w6 p O6 (puts L who keys) HS6.out.st).mono ?_
        rintro e w7 ⟨rfl, rfl⟩
        obtain ⟨M, hM⟩ : ∃ M, (puts L who keys).length = M := ⟨_, rfl⟩
        rw [hM]
        have HM := hideIt hM
        clear hM
        go_wp2_with fail
        refine (lkLock_any w7 p O6 (puts L who keys) who _ keys HS6.out.st HF.out.1 (HKI.out.low HS6.out.env) HKN.out HKS.out).mono ?_
        rintro e w8 ⟨er, L8, O8, rfl, g1, g2, g3⟩
        obtain ⟨rfl, hL8⟩ := lock_again hw0 (bar_puts HR.out HBR.out) (by rw [puts_again HR.out]; exact HNN.out) g3
        rw [puts_again HR.out] at hL8
        rw [hL8] at g1
        have HS8 := hideIt (HS6.out.move g1 g2)
        clear g1 g2 g3 hL8 HS6
        go_wp2_with fail
        refine (lkMany_any w8 p O8 (puts L who keys) HS8.out.st).mono ?_
        rintro e w9 ⟨rfl, rfl⟩
        rw [HM.out]
        have hmm : ((M : Int) != (M : Int)) = false := by simp
        go_wp2_with fail
        refine (lkUnlock_any w9 p O8 (puts L who keys) who HS8.out.st).mono ?_
        rintro e w10 ⟨rfl, g1, g2⟩
        have HSA := hideIt (HS8.out.turn g1 g2)
        clear g1 g2 HS8 hmm
        go_wp2_with fail
        refine (lkLock_any w10 p O8 _ other _ keys HSA.out.st HF.out.2 (HKI.out.low HSA.out.env) HKN.out HKS.out).mono ?_
        rintro e w11 ⟨er, L9, O9, rfl, g1, g2, g3⟩
        have HSB := hideIt (HSA.out.move g1 g2)
        have hfree : ∀ (j : Nat) t, keys[j]? = some t → barE (dropL (puts L who keys) who) other t = 0 := fun j t ht => bar_ok (bar_zero (HBR.out j t ht)).1 (Or.inl (hold_free HR.out ht))
        by_cases ho : 0 ≤ other
        · obtain ⟨rfl, hL9⟩ := lock_again ho hfree (by have h1 := free_few HR.out who other keys; have h2 := HNN.out; omega) g3
          rw [hL9] at HSB
          have HFF := hideIt (free_few HR.out who other keys)
          clear g1 g2 g3 hfree hL9
          go_wp2_with fail
          refine (lkMany_any w11 p O9 _ HSB.out.st).mono ?_
          rintro e w12 ⟨rfl, rfl⟩
          have hle : (puts (dropL (puts L who keys) who) other keys).length ≤ M := by have h1 := HFF.out; have h2 := HM.out; omega
          obtain ⟨M2, hM2⟩ : ∃ M2 : Nat, (puts (dropL (puts L who keys) who) other keys).length = M2 := ⟨_, rfl⟩
          rw [hM2] at hle ⊢
          have HLE := hideIt hle
          clear hM2 hle
          go_wp2
          go_ret
          exact ⟨congrArg (fun b => Ending.returned (.bool b)) (decide_eq_true HLE.out), HSB.out.env.1⟩
        · rcases lock_nil g3 with ⟨⟨ty, y, rfl⟩, _⟩ | ⟨_, h, _⟩
          · clear g1 g2 g3 hfree
            go_wp2
            go_ret
            exact ⟨congrArg (fun b => Ending.returned (.bool !b)) (decide_eq_false (by omega)), HSB.out.env.1⟩
          · omega
end Go.Proofs.YtnojbejjlahhkaaDoor
