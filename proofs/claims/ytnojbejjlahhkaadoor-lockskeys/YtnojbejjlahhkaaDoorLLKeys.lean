/-
  What is proved here: the walk of cohortlaw08.LocksKeys, over this program.
-/
import Derived.Test.YtnojbejjlahhkaaDoorHH
import Derived.Deep.RegionWith
namespace Go.Proofs.YtnojbejjlahhkaaDoor
open Go.RowKit Go.Extern.Stop Go.Stop Go.Extern

/-- every holder is one of the first k that called -/
def Held (L : Lk) (l : List Op8) (k : Nat) : Prop := ∀ s n, holdL L s = some n → ∃ (j : Nat) (o : Op8), j < k ∧ l[j]? = some o ∧ o.2.1 = n
theorem Held.up {L : Lk} {l : List Op8} {k : Nat} (h : Held L l k) : Held L l (k + 1) := fun s n hn => by
  obtain ⟨j, o, h1, h2, h3⟩ := h s n hn
  exact ⟨j, o, by omega, h2, h3⟩
theorem Held.lock {L L' : Lk} {l : List Op8} {k : Nat} (h : Held L l k) (hr : KRise L) {o : Op8} (ho : l[k]? = some o) {keys : List (List UInt8)} {w' : World} {B : Nat} {er : Value} (hl : LockIs L o.2.1 keys w' B er L') : Held L' l (k + 1) := by
  rcases lock_nil hl with ⟨_, rfl⟩ | ⟨_, _, rfl, _, _⟩
  · exact h.up
  · intro s n hn
    rw [hold_puts hr] at hn
    split at hn
    · cases hn; exact ⟨k, o, by omega, ho, rfl⟩
    · exact h.up s n hn
theorem Held.drop {L : Lk} {l : List Op8} {k : Nat} (h : Held L l k) (hr : KRise L) (who : Int) : Held (dropL L who) l (k + 1) := fun s n hn => by
  rw [hold_drop hr] at hn
  cases hh : holdL L s with
  | none => rw [hh] at hn; cases hn
  | some m =>
    rw [hh] at hn
    simp only [Option.filter_some] at hn
    split at hn
    · cases hn; exact h.up s n hh
    · cases hn
def whos (l : List Op8) (k : Nat) : List Int := (l.take k).map fun o => o.2.1
theorem whos_up {l : List Op8} {k : Nat} {o : Op8} (h : l[k]? = some o) : whos l (k + 1) = whos l k ++ [o.2.1] := by
  unfold whos
  rw [List.take_add_one, h]
  simp
theorem whos_mem {l : List Op8} {k : Nat} {n : Int} : n ∈ whos l k ↔ ∃ (j : Nat) (o : Op8), j < k ∧ l[j]? = some o ∧ o.2.1 = n := by
  unfold whos
  rw [List.mem_map]
  constructor
  · rintro ⟨o, ho, rfl⟩
    obtain ⟨j, hj⟩ := List.getElem?_of_mem ho
    have hlt := (List.getElem?_eq_some_iff.1 hj).1
    rw [List.length_take] at hlt
    rw [List.getElem?_take_of_lt (by omega)] at hj
    exact ⟨j, o, by omega, hj, rfl⟩
  · rintro ⟨j, o, h1, h2, rfl⟩
    refine ⟨o, List.mem_of_getElem? (i := j) ?_, rfl⟩
    rw [List.getElem?_take_of_lt h1]; exact h2
/-- how many keys some have -/
def cntW (L : Lk) (ws : List Int) : Nat := (L.filter fun x => decide (x.2 ∈ ws)).length
theorem cntW_nil (L : Lk) : cntW L [] = 0 := by simp [cntW]
theorem cntW_le (L : Lk) (ws : List Int) : cntW L ws ≤ L.length := List.length_filter_le _ _
theorem cntW_same (L : Lk) {ws : List Int} {n : Int} (h : n ∈ ws) : cntW L (ws ++ [n]) = cntW L ws := by
  unfold cntW
  congr 1
  refine List.filter_congr fun x _ => ?_
  congr 1
  simp only [List.mem_append, List.mem_singleton, eq_iff_iff]
  exact ⟨fun e => by rcases e with e | e; exact e; rw [e]; exact h, Or.inl⟩
theorem cntW_add (L : Lk) {ws : List Int} {n : Int} (h : n ∉ ws) : cntW L (ws ++ [n]) = cntW L ws + (ownL L n).length := by
  unfold cntW ownL
  rw [List.length_map]
  induction L with
  | nil => rfl
  | cons x r ih =>
    by_cases h1 : x.2 = n
    · have h2 : x.2 ∉ ws := by rw [h1]; exact h
      rw [List.filter_cons_of_pos (by simp [h1]), List.filter_cons_of_neg (by simp [h2]), List.filter_cons_of_pos (by simp [h1])]
      simp only [List.length_cons, ih]
      omega
    · by_cases h2 : x.2 ∈ ws
      · rw [List.filter_cons_of_pos (by simp [h2]), List.filter_cons_of_pos (by simp [h2]), List.filter_cons_of_neg (by simp [h1])]
        simp only [List.length_cons, ih]
        omega
      · rw [List.filter_cons_of_neg (by simp [h1, h2]), List.filter_cons_of_neg (by simp [h2]), List.filter_cons_of_neg (by simp [h1])]
        exact ih
theorem cntW_all {L : Lk} (hr : KRise L) {l : List Op8} {k : Nat} (h : Held L l k) : cntW L (whos l k) = L.length := by
  unfold cntW
  rw [List.filter_eq_self.2]
  rintro ⟨s, n⟩ hx
  simp only [decide_eq_true_eq]
  exact whos_mem.2 (h s n (hr.hold.1 hx))
/-- was somebody among the first j? -/
def AgainIs (l : List Op8) (n : Int) (j : Nat) (r : Bool) : Prop := r = decide (n ∈ whos l j)
theorem AgainIs.up {l : List Op8} {n : Int} {j : Nat} {r : Bool} (h : AgainIs l n j r) {o : Op8} (ho : l[j]? = some o) : AgainIs l n (j + 1) (r || o.2.1 == n) := by
  unfold AgainIs at h ⊢
  rw [whos_up ho, h]
  by_cases h1 : n ∈ whos l j
  · simp [h1]
  · by_cases h2 : o.2.1 = n
    · simp [h2]
    · have h3 : ¬ n = o.2.1 := fun e => h2 e.symm
      simp [h1, h2, h3]
theorem any_own {L : Lk} (hr : KRise L) {who : Int} {k : Nat} {s : List UInt8} (h : (ownL L who)[k]? = some s) : (L.any fun x => inK s [] x.1) = true :=
  any_true ((own_mem hr).1 (List.mem_of_getElem? h)) (by
    have h1 : Op.bytesLess s s = false := by simpa [kLt] using kLt_irrefl s
    unfold inK; rw [h1]; rfl)
theorem own_lt {L : Lk} (hr : KRise L) {who : Int} {k : Nat} {s t : List UInt8} (h : (ownL L who)[k]? = some s) (h2 : (ownL L who)[k + 1]? = some t) : Op.bytesLess s t = true := by
  have h3 := own_rise hr who
  unfold SRise at h3
  rw [List.pairwise_iff_getElem] at h3
  obtain ⟨a1, a2⟩ := List.getElem?_eq_some_iff.1 h
  obtain ⟨b1, b2⟩ := List.getElem?_eq_some_iff.1 h2
  have := h3 k (k + 1) a1 b1 (by omega)
  rw [a2, b2] at this
  exact this

set_option maxRecDepth 100000 in
set_option maxHeartbeats 16000000 in
theorem lkeys_true (v : Value) (l : List Op8) (w : World) (hv : Ops8In w (· < w.heap.size) v l) (hn : l.length ≤ maxLen) (hok : ∀ o ∈ l, Op8Ok o) (hg : ET w) (ht : PT w) :
    Calls Tryd.prog 4 #[v] w fun e w' => e = .returned (.bool true) ∧ Below w.heap.size w w' := by
  have HV0 : Hid (Env w w) := ⟨Below.refl _ _, hg, ht⟩
  have HH := hideIt (head08_true w hg ht)
  have HO := hideIt hv
  have HZ := hideIt hok
  have HN := hideIt hn
  obtain ⟨a, cap, rfl⟩ := hv.form
  unfold maxLen at hn
  clear hg ht hv hok
  go_enter Tryd.func4, Tryd.ntmps4
  go_wp2_with fail
  refine HH.out.mono ?_
  rintro e w1 ⟨rfl, hb1⟩
  have HV1 := hideIt (HV0.out.next hb1)
  clear hb1 HH HV0
  go_wp2_with fail
  refine (lkNew_any w1).mono ?_
  rintro e w2 ⟨p, rfl, hs, hb⟩
  have HS2 := hideIt (Ls.new HV1.out hs hb)
  obtain ⟨O2, hO2⟩ : ∃ O2 : Nat → Prop, O2 = fun k => w1.heap.size ≤ k ∧ k < w2.heap.size := ⟨_, rfl⟩
  rw [← hO2] at HS2
  clear hs hb hO2 HV1
  go_wp2_with fail
  refine (great08_any _ _ l w2 (HO.out.env HS2.out.env) HN.out HZ.out).mono ?_
  rintro e w3 ⟨⟨g, rfl⟩, rfl⟩
  cases g with
  | true =>
    go_wp2
    go_ret
    exact ⟨rfl, HS2.out.env.1⟩
  | false =>
  go_wp2
  go_loopw [5] (fun iv wr => ∃ (k : Nat) (L : Lk) (O : Nat → Prop), k ≤ l.length ∧ iv = .int .i64 k ∧ Hid (Held L l k) ∧ Hid (Ls w wr p O L)) (fun iv _ => l.length - (intOf iv).toNat)
  case atStart => exact ⟨0, [], O2, Nat.zero_le _, rfl, hideIt (fun s n h => by simp [holdL] at h), HS2⟩
  case round =>
    clear HS2
    obtain ⟨k, L, O, hk, rfl, HE, HS⟩ := hrel
    by_cases hlt : k < l.length
    case pos =>
      obtain ⟨o, ho⟩ : ∃ o, l[k]? = some o := ⟨l[k], by simp [hlt]⟩
      obtain ⟨b, off, u, rfl, hbw, c0, c1, c2, hu⟩ := (HO.out.env HS.out.env).at ho
      obtain ⟨hf0, hf1, hun, hus⟩ := HZ.out o (List.mem_of_getElem? ho)
      obtain ⟨au, cu, rfl⟩ := hu.form
      have HU := hideIt hu
      have HUS := hideIt (And.intro hun hus)
      have HF1 := hideIt hf1
      have HX := hideIt ho
      clear ho hu hun hus hf0 hf1
      cases hz : (Go.bits BinOp.and IntKind.i64 o.1 1 == 0) with
      | true =>
        have HSd := hideIt (HS.out.next (below_drew wr))
        have HUd := hideIt (RowIn.mono (A' := (· < wr.drew.heap.size)) (RowIn.kept HU.out (Kept.of_below (B := w.heap.size) ((below_drew wr).mono HS.out.env.1.size) (fun _ h _ => h))) (fun _ _ h => h))
        go_wp2
        go_region_with (go_at_call 9; refine (lkLock_any _ p O L _ _ o.2.2 HSd.out.st HF1.out HUd.out HUS.out.1 HUS.out.2).mono ?_; rintro e w4 ⟨er, L', O', rfl, g1, g2, g3⟩; have HS4 := hideIt (HSd.out.move g1 g2); have HE4 := hideIt (HE.out.lock HS.out.st.rise HX.out g3); clear g1 g2 g3)
        all_goals
          go_wp2
          exact ⟨⟨k + 1, L', O', by omega, by go_num, HE4, HS4⟩, by simp [intOf]; omega⟩
      | false =>
        go_wp2_with fail
        refine (lkUnlock_any wr p O L o.2.1 HS.out.st).mono ?_
        rintro e w4 ⟨rfl, g1, g2⟩
        have HS4 := hideIt (HS.out.turn g1 g2)
        have HE4 := hideIt (HE.out.drop HS.out.st.rise o.2.1)
        clear g1 g2
        go_wp2
        exact ⟨⟨k + 1, dropL L o.2.1, O, by omega, by go_num, HE4, HS4⟩, by simp [intOf]; omega⟩
    case neg =>
      obtain rfl : k = l.length := by omega
      have HR := hideIt HS.out.st.rise
      have HL := hideIt HS.out.st.few
      go_wp2
      go_loopw [6, 7] (fun nv iv wr => ∃ k : Nat, k ≤ l.length ∧ nv = .int .i64 (cntW L (whos l k)) ∧ iv = .int .i64 k ∧ Hid (Ls w wr p O L)) (fun _ iv _ => l.length - (intOf iv).toNat)
      case atStart => exact ⟨0, Nat.zero_le _, by rw [show whos l 0 = [] from rfl, cntW_nil]; rfl, rfl, HS⟩
      case round =>
        clear HS
        obtain ⟨k, hk, rfl, rfl, HS⟩ := hrel
        by_cases hlt : k < l.length
        case neg =>
          obtain rfl : k = l.length := by omega
          rw [cntW_all HR.out HE.out]
          go_wp2_with fail
          refine (lkMany_any _ p O L HS.out.st).mono ?_
          rintro e w9 ⟨rfl, rfl⟩
          go_wp2
          go_ret
          exact ⟨rfl, HS.out.env.1⟩
        case pos =>
          obtain ⟨o, ho⟩ : ∃ o, l[k]? = some o := ⟨l[k], by simp [hlt]⟩
          have HX := hideIt ho
          have HUP := hideIt (whos_up ho)
          obtain ⟨m, hm⟩ : ∃ m, cntW L (whos l k) = m := ⟨_, rfl⟩
          have hm128 : m ≤ 128 := by have := cntW_le L (whos l k); have := HL.out; omega
          rw [hm]
          have HM := hideIt hm
          clear ho hm
          go_wp2
          go_loopw [8, 9] (fun av jv wr => ∃ (j : Nat) (r : Bool), j ≤ k ∧ av = .bool r ∧ jv = .int .i64 j ∧ Hid (AgainIs l o.2.1 j r) ∧ Hid (Ls w wr p O L)) (fun _ jv _ => k - (intOf jv).toNat)
          case atStart => exact ⟨0, false, Nat.zero_le _, rfl, rfl, hideIt (by simp [AgainIs, whos]), HS⟩
          case round =>
            clear HS
            obtain ⟨j, r, hj, rfl, rfl, HA, HS⟩ := hrel
            by_cases hjk : j < k
            case pos =>
              obtain ⟨q, hq⟩ : ∃ q, l[j]? = some q := ⟨l[j]'(by omega), by simp⟩
              have hops := HO.out.env HS.out.env
              obtain ⟨b, off, u, rfl, _, c0, c1, c2, _⟩ := hops.at HX.out
              obtain ⟨b', off', u', e1, _, d0, d1, d2, _⟩ := hops.at hq
              simp only [Option.some.injEq, Addr.mk.injEq, and_true] at e1
              obtain ⟨rfl, rfl⟩ := e1
              have HAU := hideIt (HA.out.up hq)
              clear hq hops c0 c2 d0 d2 HA
              cases r with
              | true =>
                go_wp2_with fail
                go_quiet (fail)
                have HS3 := hideIt (HS.out.next (below_drewN wr nq))
                go_wp2
                exact ⟨⟨j + 1, true, by omega, rfl, by go_num, by simpa using HAU, HS3⟩, by simp [intOf]; omega⟩
              | false =>
                rw [Bool.false_or] at HAU
                cases hqo : q.2.1 == o.2.1 with
                | true =>
                  rw [hqo] at HAU
                  go_wp2_with fail
                  go_quiet (fail)
                  have HS3 := hideIt (HS.out.next (below_drewN wr nq))
                  go_wp2
                  exact ⟨⟨j + 1, true, by omega, rfl, by go_num, HAU, HS3⟩, by simp [intOf]; omega⟩
                | false =>
                  rw [hqo] at HAU
                  go_wp2_with fail
                  go_quiet (fail)
                  have HS3 := hideIt (HS.out.next (below_drewN wr nq))
                  go_wp2
                  exact ⟨⟨j + 1, false, by omega, rfl, by go_num, HAU, HS3⟩, by simp [intOf]; omega⟩
            case neg =>
              obtain rfl : j = k := by omega
              obtain ⟨b, off, u, rfl, hbw, c0, c1, c2, _⟩ := (HO.out.env HS.out.env).at HX.out
              have HBW := hideIt hbw
              clear c0 c2 hbw
              go_wp2_with fail
              refine (lkKeys_any _ p O L o.2.1 HS.out.st).mono ?_
              rintro e w4 ⟨v1, rfl, h1, hb4⟩
              have HW4 := hideIt (KeysIn.of_own h1)
              obtain ⟨a1, c1', rfl⟩ := own_form h1
              have HS4 := hideIt (HS.out.next hb4)
              obtain ⟨M, hM⟩ : ∃ M, (ownL L o.2.1).length = M := ⟨_, rfl⟩
              have hM128 : M ≤ 128 := by have := own_few L o.2.1; have := HL.out; omega
              rw [hM] at HW4 ⊢
              have HMM := hideIt hM
              clear h1 hb4 HS c1 hM
              go_wp2
              go_loopw [11] (fun jv wr => ∃ q : Nat, q ≤ M ∧ jv = .int .i64 q ∧ Hid (Below w4.heap.size w4 wr)) (fun jv _ => M - (intOf jv).toNat)
              case atStart => exact ⟨0, Nat.zero_le _, rfl, hideIt (Below.refl _ _)⟩
              case round =>
                obtain ⟨q, hq, rfl, HB⟩ := hrel
                have HSW := hideIt (HS4.out.next HB.out)
                have HRW := hideIt (HW4.out.below HB.out)
                by_cases hqM : q < M
                case pos =>
                  obtain ⟨s, hs⟩ : ∃ s, (ownL L o.2.1)[q]? = some s := ⟨(ownL L o.2.1)[q]'(by have := HMM.out; omega), by simp⟩
                  obtain ⟨g, goff, rfl, _, s0⟩ := KeysIn.at HRW.out hs
                  have hbw := HBW.out
                  have k1 := ((HO.out.env HSW.out.env).at HX.out)
                  obtain ⟨b2, off2, u2, e2, _, _, k1, _, _⟩ := k1
                  simp only [Option.some.injEq, Addr.mk.injEq, and_true] at e2
                  obtain ⟨rfl, rfl⟩ := e2
                  have hho := (own_mem HR.out).1 (List.mem_of_getElem? hs)
                  have hfit := HSW.out.st.held hho
                  have HHO := hideIt hho
                  have HFT := hideIt hfit.2
                  have HAN := hideIt (any_own HR.out hs)
                  have HSX := hideIt hs
                  clear hs hho hfit hbw
                  go_wp2_with fail
                  refine (lkHolder_any wr p O L s HSW.out.st HFT.out).mono ?_
                  rintro e w5 ⟨rfl, rfl⟩
                  rw [HHO.out, show holdV (some o.2.1) = .tuple #[.int .i64 o.2.1, .bool true] from rfl]
                  have hnn : (o.2.1 != o.2.1) = false := by simp
                  cases q with
                  | zero =>
                    rw [Nat.add_zero] at s0
                    go_wp2
                    refine wp_region_quiet_grow (by kernel_rfl) (by kernel_rfl) ?_
                    intro ι _ f hf hnf
                    have hk1 := fun i => ((hf i).cell (lt_of_cell k1)).trans k1
                    have hs0 := fun i => ((hf i).cell (lt_of_cell s0)).trans s0
                    have HSF := hideIt (fun i => (HSW.out.next (hf i)).st)
                    have HFF := hideIt hf
                    have HNF := hideIt hnf
                    have HA1 : Hid (∀ i, Calls Tryd.prog 15 #[.pointer (some ⟨p, 0, none⟩), .string ⟨s.toArray⟩, .string ⟨#[]⟩] (f i) fun e w' => e = .returned (.bool true) ∧ Below (f i).heap.size (f i) w') := hideIt (fun i => by have h0 := lkAny_any (f i) p O L s [] (HSF.out i); rw [HAN.out] at h0; exact h0)
                    clear hf hnf
                    repeat (go_big_quiet_step ((go_at_call 15; exact Calls.grow HNF.out (HA1.out _))))
                    refine wpQuiet_nil ?_
                    rintro w8 ⟨i, rfl⟩
                    have HB8 := hideIt (HB.out.trans ((HFF.out i).mono HB.out.size))
                    clear hk1 hs0 HFF HNF HSF HA1
                    generalize f i = w8 at HB8 ⊢
                    go_wp2
                    exact ⟨⟨0 + 1, by omega, by go_num, HB8⟩, by simp [intOf]; omega⟩
                  | succ q =>
                    obtain ⟨s', hs'⟩ : ∃ s', (ownL L o.2.1)[q]? = some s' := ⟨(ownL L o.2.1)[q]'(by have := HMM.out; omega), by simp⟩
                    obtain ⟨g', goff', e3, _, r0⟩ := KeysIn.at HRW.out hs'
                    simp only [Option.some.injEq, Addr.mk.injEq, and_true] at e3
                    obtain ⟨rfl, rfl⟩ := e3
                    have hgeq := leq_iff s s'
                    have hless := own_lt HR.out hs' HSX.out
                    rw [hless, Bool.not_true] at hgeq
                    clear hs'
                    go_wp2
                    refine wp_region_quiet_grow (by kernel_rfl) (by kernel_rfl) ?_
                    intro ι _ f hf hnf
                    have hk1 := fun i => ((hf i).cell (lt_of_cell k1)).trans k1
                    have hs0 := fun i => ((hf i).cell (lt_of_cell s0)).trans s0
                    have hr0 := fun i => ((hf i).cell (lt_of_cell r0)).trans r0
                    have HSF := hideIt (fun i => (HSW.out.next (hf i)).st)
                    have HFF := hideIt hf
                    have HNF := hideIt hnf
                    have HA1 : Hid (∀ i, Calls Tryd.prog 15 #[.pointer (some ⟨p, 0, none⟩), .string ⟨s.toArray⟩, .string ⟨#[]⟩] (f i) fun e w' => e = .returned (.bool true) ∧ Below (f i).heap.size (f i) w') := hideIt (fun i => by have h0 := lkAny_any (f i) p O L s [] (HSF.out i); rw [HAN.out] at h0; exact h0)
                    clear hf hnf
                    repeat (go_big_quiet_step ((go_at_call 15; exact Calls.grow HNF.out (HA1.out _))))
                    refine wpQuiet_nil ?_
                    rintro w8 ⟨i, rfl⟩
                    have HB8 := hideIt (HB.out.trans ((HFF.out i).mono HB.out.size))
                    clear hk1 hs0 HFF HNF HSF HA1 hr0
                    generalize f i = w8 at HB8 ⊢
                    go_wp2
                    exact ⟨⟨q + 1 + 1, by omega, by go_num, HB8⟩, by simp [intOf]; omega⟩
                case neg =>
                  obtain rfl : q = M := by omega
                  have hag := HA.out
                  unfold AgainIs at hag
                  cases r with
                  | true =>
                    have hin : o.2.1 ∈ whos l j := by simpa using hag
                    have hc : cntW L (whos l (j + 1)) = m := by rw [HUP.out, cntW_same L hin]; exact HM.out
                    have HC := hideIt hc
                    clear hag hin hc
                    go_wp2
                    exact ⟨⟨j + 1, by omega, by rw [HC.out], by go_num, HSW⟩, by simp [intOf]; omega⟩
                  | false =>
                    have hin : o.2.1 ∉ whos l j := by simpa using hag
                    have hc : cntW L (whos l (j + 1)) = m + q := by rw [HUP.out, cntW_add L hin, HMM.out]; rw [HM.out]
                    have HC := hideIt hc
                    clear hag hin hc
                    go_wp2
                    exact ⟨⟨j + 1, by omega, by rw [HC.out]; go_num, by go_num, HSW⟩, by simp [intOf]; omega⟩
end Go.Proofs.YtnojbejjlahhkaaDoor
