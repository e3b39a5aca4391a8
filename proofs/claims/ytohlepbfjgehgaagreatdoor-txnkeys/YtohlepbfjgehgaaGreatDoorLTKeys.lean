/-
  What is proved here: the walk of cohortlaw10.TxnKeys, over this program.
-/
import Derived.Test.YtohlepbfjgehgaaGreatDoorTR
namespace Go.Proofs.YtohlepbfjgehgaaGreatDoor
open Go.RowKit Go.Extern.Stop Go.Stop Go.Extern

theorem any_take {α : Type} (f : α → Bool) {l : List α} {k : Nat} {x : α} (h : l[k]? = some x) : (l.take (k + 1)).any f = ((l.take k).any f || f x) := by
  obtain ⟨hlt, he⟩ := List.getElem?_eq_some_iff.1 h
  rw [List.take_succ_eq_append_getElem hlt, he, List.any_append]
  simp
theorem key_named {rs : List Rd} {ws : List Wr} {k : Nat} {s : List UInt8} (h : (txK rs ws)[k]? = some s) : (rs.any (fun x => x.1 == s) || ws.any (fun x => x.1 == s)) = true := by
  rcases (txK_mem rs ws s).1 (List.mem_of_getElem? h) with ⟨x, hx, e⟩ | ⟨x, hx, e⟩
  · rw [Bool.or_eq_true]
    exact Or.inl (List.any_eq_true.2 ⟨x, hx, by simp [e]⟩)
  · rw [Bool.or_eq_true]
    exact Or.inr (List.any_eq_true.2 ⟨x, hx, by simp [e]⟩)
theorem key_next {rs : List Rd} {ws : List Wr} {k : Nat} {s t : List UInt8} (h : (txK rs ws)[k]? = some s) (h2 : (txK rs ws)[k + 1]? = some t) : Op.bytesLess s t = true := by
  have h3 := txK_rise rs ws
  rw [List.pairwise_iff_getElem] at h3
  obtain ⟨a1, a2⟩ := List.getElem?_eq_some_iff.1 h
  obtain ⟨b1, b2⟩ := List.getElem?_eq_some_iff.1 h2
  have := h3 k (k + 1) a1 b1 (by omega)
  rw [a2, b2] at this
  exact this
theorem is_key {rs : List Rd} {ws : List Wr} {s : List UInt8} (h : (∃ x ∈ rs, x.1 = s) ∨ (∃ x ∈ ws, x.1 = s)) : isIn (txK rs ws) s = true := decide_eq_true ((txK_mem _ _ _).2 h)
theorem int_next {T : List Int} {k : Nat} {s t : Int} (h : (risenI T)[k]? = some s) (h2 : (risenI T)[k + 1]? = some t) : s < t := by
  have h3 := risenI_rise T
  rw [List.pairwise_iff_getElem] at h3
  obtain ⟨a1, a2⟩ := List.getElem?_eq_some_iff.1 h
  obtain ⟨b1, b2⟩ := List.getElem?_eq_some_iff.1 h2
  have := h3 k (k + 1) a1 b1 (by omega)
  rw [a2, b2] at this
  exact this
def IIn (w : World) (A : Nat → Prop) (v : Value) (T : List Int) : Prop := RowIn w A v T.length (intsC T)
theorem IIn.at {w : World} {A : Nat → Prop} {a : Option Addr} {n cap : Nat} {l : List Int} (h : IIn w A (.slice a n cap) l) {k : Nat} {s : Int} (hs : l[k]? = some s) : ∃ b off, a = some ⟨b, off, none⟩ ∧ A b ∧ w.cell? ⟨b, off + k, none⟩ = some (.int .i64 s) := by
  obtain ⟨a', cap', e1, _, h2⟩ := h
  simp only [Value.slice.injEq] at e1
  obtain ⟨rfl, _, rfl⟩ := e1
  exact h2 k _ (by simp [intsC, hs])
theorem shard_of {was : List Pc} {k : Nat} {x : Int} (h : (risenI (was.map (·.2.1)))[k]? = some x) : was.any (fun p => p.2.1 == x) = true := by
  have := (risenI_mem _ _).1 (List.mem_of_getElem? h)
  obtain ⟨p, hp, e⟩ := List.mem_map.1 this
  exact List.any_eq_true.2 ⟨p, hp, by simp [e]⟩
theorem none_both {L : List Pc} {T : List (List UInt8)} {was : List Pc} (h : Told9 L T T.length was) : ((T.length : Int) == 0) = (((risenI (was.map (·.2.1))).length : Int) == 0) := by
  by_cases h0 : T.length = 0
  · have hw : was = [] := List.eq_nil_of_length_eq_zero (by rw [h.1, h0])
    have hr : (risenI (was.map (·.2.1))).length = 0 := by have := risenI_len (was.map (·.2.1)); rw [hw] at this ⊢; simpa using this
    rw [hr, h0]
  · have hr : (risenI (was.map (·.2.1))).length ≠ 0 := fun e => by
      have hw : was ≠ [] := fun e => h0 (by rw [← h.1, e]; rfl)
      obtain ⟨p, r, rfl⟩ := List.exists_cons_of_ne_nil hw
      have hm : p.2.1 ∈ risenI ((p :: r).map (·.2.1)) := (risenI_mem _ _).2 (by simp)
      rw [List.eq_nil_of_length_eq_zero e] at hm
      cases hm
    rw [beq_eq_false_iff_ne.2 (show (T.length : Int) ≠ 0 by omega), beq_eq_false_iff_ne.2 (show ((risenI (was.map (·.2.1))).length : Int) ≠ 0 by omega)]

set_option maxRecDepth 100000 in
set_option maxHeartbeats 32000000 in
theorem tkeys_true (c n : Int) (rv wv v : Value) (rs : List Rd) (ws : List Wr) (l : List Pc) (w : World) (hr : RdsIn w (· < w.heap.size) rv rs) (hw : WrsIn w (· < w.heap.size) wv ws) (hrl : rs.length ≤ 140737488355328) (hwl : ws.length ≤ 140737488355328)
    (hv : PcsIn w (· < w.heap.size) v l) (hn : l.length ≤ maxLen) (hg : ET w) (ht : PT w) :
    Calls Tryz.prog 5 #[.agg #[.int .i64 c, .int .i64 n, rv, wv], v] w fun e w' => e = .returned (.bool true) ∧ Below w.heap.size w w' := by
  obtain ⟨ar, cr, rfl⟩ := hr.form
  obtain ⟨aw, cw, rfl⟩ := hw.form
  obtain ⟨a, cap, rfl⟩ := hv.form
  have HLN : Hid (rs.length ≤ 140737488355328 ∧ ws.length ≤ 140737488355328) := hideIt ⟨hrl, hwl⟩
  have hT := T4.new w 25 (.int .i64 c) (.int .i64 n) (.slice ar rs.length cr) (.slice aw ws.length cw)
  obtain ⟨W, hW⟩ : ∃ W, W = w.alloc (.cells #[.int .i64 c, .int .i64 n, .slice ar rs.length cr, .slice aw ws.length cw] 25) := ⟨_, rfl⟩
  have hwb : Below w.heap.size w W := by rw [hW]; exact (Below.refl _ _).alloc (Nat.le_refl _) _
  rw [← hW] at hT
  have HTT := hideIt hT
  have HEW : Hid (Env W W) := by
    have h0 : Env w w := ⟨Below.refl _ _, hg, ht⟩
    have h1 := h0.next hwb
    exact ⟨Below.refl _ _, h1.et, h1.pt⟩
  have HEND : Hid (∀ w', Env W w' → Below w.heap.size w w') := hideIt (fun w' h => hwb.trans (h.1.mono hwb.size))
  have HRV := hideIt (RowIn.lt (RowIn.low hr hwb))
  have HWV := hideIt (RowIn.lt (RowIn.low hw hwb))
  have HA := hideIt (And.intro (RowIn.lt (RowIn.low hv hwb)) hn)
  have HH := hideIt (head10_true W HEW.out.et HEW.out.pt)
  clear hr hw hv hn hrl hwl hg ht hwb hT
  go_enter Tryz.func5, Tryz.ntmps5
  go_wp2_with fail
  rw [← hW]
  clear hW
  refine HH.out.mono ?_
  rintro e w1 ⟨rfl, hb1⟩
  have HE1 := hideIt (HEW.out.next hb1)
  clear hb1 HH HEW
  have x0 := (HTT.out.next HE1.out.1).1.1
  have x1 := (HTT.out.next HE1.out.1).1.2.1
  have x2 := (HTT.out.next HE1.out.1).1.2.2.1
  have x3 := (HTT.out.next HE1.out.1).1.2.2.2
  go_wp2_with fail
  refine (Great10_any w1 _ c n _ _ rs ws (RowIn.low HRV.out HE1.out.1) (RowIn.low HWV.out HE1.out.1) HLN.out.1 HLN.out.2).mono ?_
  rintro e w2 ⟨⟨g, rfl, hgl⟩, hb2⟩
  have HE2 := hideIt (HE1.out.next hb2)
  clear hb2 HE1 HLN x0 x1 x2 x3
  cases g with
  | true =>
    go_wp2
    go_ret
    exact ⟨rfl, HEND.out _ HE2.out⟩
  | false =>
  have HN : Hid (rs.length ≤ 3000 ∧ ws.length ≤ 3000) := hideIt (by have := hgl rfl; omega)
  clear hgl
  by_cases h100 : (100 : Int) < (l.length : Int)
  · go_wp2
    go_ret
    exact ⟨rfl, HEND.out _ HE2.out⟩
  have x0 := (HTT.out.next HE2.out.1).1.1
  have x1 := (HTT.out.next HE2.out.1).1.2.1
  have x2 := (HTT.out.next HE2.out.1).1.2.2.1
  have x3 := (HTT.out.next HE2.out.1).1.2.2.2
  go_wp2_with fail
  refine (txKeys_any w2 _ c n _ _ rs ws (RowIn.low HRV.out HE2.out.1) (RowIn.low HWV.out HE2.out.1) (by have := HN.out; omega) (by have := HN.out; omega)).mono ?_
  rintro e w4 ⟨z4, rfl, ho4, hb4⟩
  obtain ⟨T, hT⟩ : ∃ T, T = txK rs ws := ⟨_, rfl⟩
  have HTK := hideIt hT
  have HTL : Hid (T.length ≤ 6000) := hideIt (by rw [hT]; have h1 := txK_len rs ws; have := HN.out; omega)
  rw [← hT] at ho4
  have HK4 : Hid (SIn w4 (· < w4.heap.size) z4 T) := hideIt (RowIn.lt (SIn.of_own ho4 rfl))
  obtain ⟨a4, c4, rfl⟩ := own_form ho4
  have HE4 := hideIt (HE2.out.next hb4)
  clear ho4 hb4 HE2 hT x0 x1 x2 x3 h100
  go_wp2
  go_loopw [7] (fun i wr => ∃ k : Nat, k ≤ T.length ∧ i = .int .i64 k ∧ Hid (Below w4.heap.size w4 wr)) (fun i _ => T.length - (intOf i).toNat)
  case atStart => exact ⟨0, Nat.zero_le _, rfl, Below.refl _ _⟩
  case round =>
    obtain ⟨k, hk, rfl, HB⟩ := hrel
    have htl := HTL.out
    by_cases hlt : k < T.length
    · obtain ⟨s, hs⟩ : ∃ s, T[k]? = some s := ⟨T[k], by simp [hlt]⟩
      have HSK := hideIt hs
      clear hs
      go_wp2
      go_loopw [8, 9] (fun b i wz => ∃ (j : Nat) (bb : Bool), j ≤ rs.length ∧ i = .int .i64 j ∧ b = .bool bb ∧ Hid (bb = (rs.take j).any (fun x => x.1 == s)) ∧ Hid (Below w4.heap.size w4 wz)) (fun _ i _ => rs.length - (intOf i).toNat)
      case atStart => exact ⟨0, false, Nat.zero_le _, rfl, rfl, hideIt (by simp), HB⟩
      case round =>
        obtain ⟨j, bb, hj, rfl, rfl, HBB, HBz⟩ := hrel
        have HEz := hideIt (HE4.out.next HBz.out)
        have hn3 := HN.out
        have z2 := (HTT.out.next HEz.out.1).1.2.2.1
        by_cases hjl : j < rs.length
        · obtain ⟨x, hx⟩ : ∃ x, rs[j]? = some x := ⟨rs[j], by simp [hjl]⟩
          obtain ⟨bx, ofx, ex, _, p0, p1⟩ := RdsIn.at (RowIn.low HRV.out HEz.out.1) hx
          cases ex
          obtain ⟨bk, ofk, rfl, _, d0⟩ := SIn.at (RowIn.low HK4.out HBz.out) HSK.out
          have HAN := hideIt (any_take (fun x : Rd => x.1 == s) hx)
          clear hx
          cases bb with
          | true =>
            have HNX : Hid (true = (rs.take (j + 1)).any (fun x => x.1 == s)) := hideIt (by have h := HAN.out; have hb := HBB.out; rw [← hb, Bool.true_or] at h; exact h.symm)
            go_wp2_with fail
            go_quiet (fail)
            have HBq := hideIt (HBz.out.trans ((below_drewN _ nq).mono HBz.out.size))
            go_wp2
            exact ⟨⟨j + 1, true, by omega, by go_num, rfl, HNX, HBq⟩, by simp [intOf]; omega⟩
          | false =>
            obtain ⟨nb, hnb⟩ : ∃ nb, (x.1 == s) = nb := ⟨_, rfl⟩
            have HNX : Hid (nb = (rs.take (j + 1)).any (fun x => x.1 == s)) := hideIt (by have h := HAN.out; have hb := HBB.out; rw [← hb, Bool.false_or, hnb] at h; exact h.symm)
            go_wp2_with fail
            go_quiet (fail)
            have HBq := hideIt (HBz.out.trans ((below_drewN _ nq).mono HBz.out.size))
            go_wp2
            exact ⟨⟨j + 1, nb, by omega, by go_num, by simp, HNX, HBq⟩, by simp [intOf]; omega⟩
        · go_wp2
          go_loopw [8, 10] (fun b i wz => ∃ (j : Nat) (bb : Bool), j ≤ ws.length ∧ i = .int .i64 j ∧ b = .bool bb ∧ Hid (bb = (rs.any (fun x => x.1 == s) || (ws.take j).any (fun x => x.1 == s))) ∧ Hid (Below w4.heap.size w4 wz)) (fun _ i _ => ws.length - (intOf i).toNat)
          case atStart => exact ⟨0, bb, Nat.zero_le _, rfl, rfl, hideIt (by rw [HBB.out, show j = rs.length by omega, List.take_length]; simp), HBz⟩
          case round =>
            clear HBB HBz HEz z2 hjl hj hn3
            obtain ⟨j, bb, hj, rfl, rfl, HBB, HBz⟩ := hrel
            have HEz := hideIt (HE4.out.next HBz.out)
            have hn3 := HN.out
            have z2 := (HTT.out.next HEz.out.1).1.2.2.2
            by_cases hjl : j < ws.length
            · obtain ⟨x, hx⟩ : ∃ x, ws[j]? = some x := ⟨ws[j], by simp [hjl]⟩
              obtain ⟨bx, ofx, ex, _, p0, p1⟩ := WrsIn.at (RowIn.low HWV.out HEz.out.1) hx
              cases ex
              obtain ⟨bk, ofk, rfl, _, d0⟩ := SIn.at (RowIn.low HK4.out HBz.out) HSK.out
              have HAN := hideIt (any_take (fun x : Wr => x.1 == s) hx)
              clear hx
              cases bb with
              | true =>
                have HNX : Hid (true = (rs.any (fun x => x.1 == s) || (ws.take (j + 1)).any (fun x => x.1 == s))) := hideIt (by have h := HAN.out; have hb := HBB.out; rw [h, ← Bool.or_assoc, ← hb, Bool.true_or])
                go_wp2_with fail
                go_quiet (fail)
                have HBq := hideIt (HBz.out.trans ((below_drewN _ nq).mono HBz.out.size))
                go_wp2
                exact ⟨⟨j + 1, true, by omega, by go_num, rfl, HNX, HBq⟩, by simp [intOf]; omega⟩
              | false =>
                obtain ⟨nb, hnb⟩ : ∃ nb, (x.1 == s) = nb := ⟨_, rfl⟩
                have HNX : Hid (nb = (rs.any (fun x => x.1 == s) || (ws.take (j + 1)).any (fun x => x.1 == s))) := hideIt (by have h := HAN.out; have hb := HBB.out; rw [h, ← Bool.or_assoc, ← hb, Bool.false_or, hnb])
                go_wp2_with fail
                go_quiet (fail)
                have HBq := hideIt (HBz.out.trans ((below_drewN _ nq).mono HBz.out.size))
                go_wp2
                exact ⟨⟨j + 1, nb, by omega, by go_num, by simp, HNX, HBq⟩, by simp [intOf]; omega⟩
            · have HNM : Hid (bb = true) := hideIt (by
                rw [HBB.out, show j = ws.length by omega, List.take_length]
                have h1 := HSK.out
                rw [HTK.out] at h1
                exact key_named h1)
              have hbt := HNM.out
              subst hbt
              obtain ⟨bk, ofk, rfl, _, d0⟩ := SIn.at (RowIn.low HK4.out HBz.out) HSK.out
              cases k with
              | zero =>
                go_wp2_with fail
                go_quiet (fail)
                have HBq := hideIt (HBz.out.trans ((below_drewN _ nq).mono HBz.out.size))
                go_wp2
                exact ⟨⟨0 + 1, by omega, by go_num, HBq⟩, by simp [intOf]; omega⟩
              | succ q =>
                obtain ⟨s', hs'⟩ : ∃ s', T[q]? = some s' := ⟨T[q]'(by omega), by simp⟩
                obtain ⟨bk', ofk', ek', _, d1⟩ := SIn.at (RowIn.low HK4.out HBz.out) hs'
                simp only [Option.some.injEq, Addr.mk.injEq, and_true] at ek'
                obtain ⟨rfl, rfl⟩ := ek'
                have hgeq := leq_iff s s'
                have hless : Op.bytesLess s' s = true := by
                  have h1 := HSK.out
                  rw [HTK.out] at h1 hs'
                  exact key_next hs' h1
                rw [hless, Bool.not_true] at hgeq
                have hj1 : IntKind.i64.wrap (((q : Nat) : Int) + 1 - 1) = (q : Int) := by simp [IntKind.wrap, IntKind.bits, IntKind.signed]; omega
                clear hs'
                go_wp2_with fail
                go_quiet (fail)
                have HBq := hideIt (HBz.out.trans ((below_drewN _ nq).mono HBz.out.size))
                go_wp2
                exact ⟨⟨q + 1 + 1, by omega, by go_num, HBq⟩, by simp [intOf]; omega⟩
    · go_wp2
      go_loopw [11] (fun i wr => ∃ k : Nat, k ≤ rs.length ∧ i = .int .i64 k ∧ Hid (Below w4.heap.size w4 wr)) (fun i _ => rs.length - (intOf i).toNat)
      case atStart => exact ⟨0, Nat.zero_le _, rfl, HB⟩
      case round =>
        clear hk hlt HB
        obtain ⟨k, hk, rfl, HB⟩ := hrel
        have hn3 := HN.out
        have HEz := hideIt (HE4.out.next HB.out)
        have z2 := (HTT.out.next HEz.out.1).1.2.2.1
        by_cases hlt : k < rs.length
        · obtain ⟨x, hx⟩ : ∃ x, rs[k]? = some x := ⟨rs[k], by simp [hlt]⟩
          obtain ⟨bx, ofx, ex, _, p0, p1⟩ := RdsIn.at (RowIn.low HRV.out HEz.out.1) hx
          cases ex
          have HIN : Hid (isIn T x.1 = true) := hideIt (by rw [HTK.out]; exact is_key (Or.inl ⟨x, List.mem_of_getElem? hx, rfl⟩))
          clear hx
          go_wp2_with fail
          refine (txHas_any wr _ _ T x.1 (RowIn.low HK4.out HB.out) (by have := HTL.out; omega)).mono ?_
          intro e w10 hh
          obtain ⟨rfl, h10⟩ := hh
          obtain rfl := h10.symm
          rw [HIN.out]
          go_wp2
          exact ⟨⟨k + 1, by omega, by go_num, HB⟩, by simp [intOf]; omega⟩
        · go_wp2
          go_loopw [12] (fun i wr => ∃ k : Nat, k ≤ ws.length ∧ i = .int .i64 k ∧ Hid (Below w4.heap.size w4 wr)) (fun i _ => ws.length - (intOf i).toNat)
          case atStart => exact ⟨0, Nat.zero_le _, rfl, HB⟩
          case round =>
            clear hk hlt HB
            obtain ⟨k, hk, rfl, HB⟩ := hrel
            have hn3 := HN.out
            have HEz := hideIt (HE4.out.next HB.out)
            have z2 := (HTT.out.next HEz.out.1).1.2.2.2
            by_cases hlt : k < ws.length
            · obtain ⟨x, hx⟩ : ∃ x, ws[k]? = some x := ⟨ws[k], by simp [hlt]⟩
              obtain ⟨bx, ofx, ex, _, p0, p1⟩ := WrsIn.at (RowIn.low HWV.out HEz.out.1) hx
              cases ex
              have HIN : Hid (isIn T x.1 = true) := hideIt (by rw [HTK.out]; exact is_key (Or.inr ⟨x, List.mem_of_getElem? hx, rfl⟩))
              clear hx
              go_wp2_with fail
              refine (txHas_any wr _ _ T x.1 (RowIn.low HK4.out HB.out) (by have := HTL.out; omega)).mono ?_
              intro e w10 hh
              obtain ⟨rfl, h10⟩ := hh
              obtain rfl := h10.symm
              rw [HIN.out]
              go_wp2
              exact ⟨⟨k + 1, by omega, by go_num, HB⟩, by simp [intOf]; omega⟩
            · have HEz := hideIt (HE4.out.next HB.out)
              have HBz4 := HB
              go_wp2_with fail
              clear hk hlt
              refine (rqOf_any wr _ _ l (RowIn.low HA.out.1 HEz.out.1) HA.out.2).mono ?_
              rintro e w5 ⟨nn, kk, hof, ⟨hne, er, rfl, ho, hb5⟩ | ⟨rfl, p, rfl, hnr⟩⟩
              · obtain ⟨ty, y, rfl⟩ := ho.iface
                have HE5 := hideIt (HEz.out.next hb5)
                clear ho hb5 hof
                go_wp2
                go_ret
                exact ⟨rfl, HEND.out _ HE5.out⟩
              have hfit : FitP l := by
                rcases of_fit hof with ⟨_, h⟩ | ⟨h, _⟩
                · exact h
                · exact absurd rfl h
              have HS5 := hideIt (Rs.new HEz.out hnr hfit)
              have HB5 := hideIt (HBz4.out.trans (hnr.2.2.mono HBz4.out.size))
              have HFL := hideIt hfit
              have x0 := (HTT.out.next HS5.out.env.1).1.1
              have x1 := (HTT.out.next HS5.out.env.1).1.2.1
              have x2 := (HTT.out.next HS5.out.env.1).1.2.2.1
              have x3 := (HTT.out.next HS5.out.env.1).1.2.2.2
              clear hof hnr hfit HEz HB HBz4
              go_wp2_with fail
              refine (txShards_any w5 _ _ p l c n _ _ rs ws HS5.out.rt HFL.out (RowIn.low HRV.out HS5.out.env.1) (RowIn.low HWV.out HS5.out.env.1) (by have := HN.out; omega) (by have := HN.out; omega)).mono ?_
              rintro e w6 ⟨z6, was, rfl, hto, ho6, hb6⟩
              rw [← HTK.out] at hto
              obtain ⟨S, hS⟩ : ∃ S, S = risenI (was.map (·.2.1)) := ⟨_, rfl⟩
              have HSD := hideIt hS
              rw [← hS] at ho6
              have HSL : Hid (S.length ≤ 6000) := hideIt (by
                have h1 := risenI_len (was.map (·.2.1))
                rw [List.length_map, hto.1] at h1
                rw [hS]; omega)
              have HI6 : Hid (IIn w6 (· < w6.heap.size) z6 S) := hideIt (RowIn.lt (RowIn.of_own (A := fun _ => True) ho6 (fun _ _ => trivial)))
              obtain ⟨a6, c6, rfl⟩ := own_form ho6
              have HTO := hideIt hto
              have HS6 := hideIt (HS5.out.next hb6)
              have HB6 := hideIt (HB5.out.trans (hb6.mono HB5.out.size))
              clear hS ho6 hto hb6 HS5 HB5 x0 x1 x2 x3
              go_wp2
              go_loopw [16] (fun i wr => ∃ k : Nat, k ≤ S.length ∧ i = .int .i64 k ∧ Hid (Below w6.heap.size w6 wr)) (fun i _ => S.length - (intOf i).toNat)
              case atStart => exact ⟨0, Nat.zero_le _, rfl, Below.refl _ _⟩
              case round =>
                obtain ⟨k, hk, rfl, HB⟩ := hrel
                have hsl := HSL.out
                have htl := HTL.out
                by_cases hlt : k < S.length
                · obtain ⟨sh, hsh⟩ : ∃ sh, S[k]? = some sh := ⟨S[k], by simp [hlt]⟩
                  have HSH := hideIt hsh
                  clear hsh
                  go_wp2
                  go_loopw [17, 18] (fun b i wz => ∃ (j : Nat) (bb : Bool), j ≤ T.length ∧ i = .int .i64 j ∧ b = .bool bb ∧ Hid (bb = (was.take j).any (fun p => p.2.1 == sh)) ∧ Hid (Below w6.heap.size w6 wz)) (fun _ i _ => T.length - (intOf i).toNat)
                  case atStart => exact ⟨0, false, Nat.zero_le _, rfl, rfl, hideIt (by simp), HB⟩
                  case round =>
                    obtain ⟨j, bb, hj, rfl, rfl, HBB, HBz⟩ := hrel
                    have HBx := HBz
                    by_cases hjl : j < T.length
                    · obtain ⟨s, hs⟩ : ∃ s, T[j]? = some s := ⟨T[j], by simp [hjl]⟩
                      obtain ⟨y, hy, hyo⟩ := told9_at HTO.out hs
                      have HY := hideIt hyo
                      have HAN := hideIt (any_take (fun p : Pc => p.2.1 == sh) hy)
                      rw [← HBB.out] at HAN
                      obtain ⟨bk, ofk, rfl, _, d0⟩ := SIn.at (RowIn.low HK4.out (HB6.out.trans (HBx.out.mono HB6.out.size))) hs
                      clear hs hy hyo
                      have HSz := hideIt (HS6.out.next HBx.out)
                      go_wp2_with fail
                      refine (rqOwner_any _ p _ l s HSz.out.rt HSz.out.fit.lin HSz.out.few).mono ?_
                      rintro e w7 ⟨x, rfl, hx, hb7⟩
                      obtain rfl := own_one HY.out hx
                      unfold pcV
                      obtain ⟨W7, hW, hwb, _, y0, y1, y2⟩ := room3 w7 62 (.string ⟨y.1.toArray⟩) (.int .i64 y.2.1) (.int .i64 y.2.2)
                      have hb8 := hb7.trans (hwb.mono hb7.size)
                      have HB8 := hideIt (HBx.out.trans (hb8.mono HBx.out.size))
                      have HBW := hideIt (HBz.out.trans (hb8.mono HBz.out.size))
                      obtain ⟨bi, ofi, ei, _, i0⟩ := IIn.at (RowIn.low HI6.out HB8.out) HSH.out
                      cases ei
                      clear hx hb7 hwb hb8 d0 HSz HBB HBz
                      cases bb with
                      | true =>
                        rw [Bool.true_or] at HAN
                        go_wp2_with fail
                        rw [← hW]
                        clear hW
                        go_quiet (fail)
                        have HBq := hideIt (HBW.out.trans ((below_drewN W7 nq).mono HBW.out.size))
                        go_wp2
                        exact ⟨⟨j + 1, true, by omega, by go_num, rfl, hideIt HAN.out.symm, HBq⟩, by simp [intOf]; omega⟩
                      | false =>
                        rw [Bool.false_or] at HAN
                        obtain ⟨nn, hnn⟩ : ∃ nn, (y.2.1 == sh) = nn := ⟨_, rfl⟩
                        simp only [hnn] at HAN
                        go_wp2_with fail
                        rw [← hW]
                        clear hW
                        go_quiet (fail)
                        have HBq := hideIt (HBW.out.trans ((below_drewN W7 nq).mono HBW.out.size))
                        go_wp2
                        exact ⟨⟨j + 1, nn, by omega, by go_num, by simp, hideIt HAN.out.symm, HBq⟩, by simp [intOf]; omega⟩
                    · have hbt : bb = true := by
                        rw [HBB.out, show j = T.length by omega, ← HTO.out.1, List.take_length]
                        have h1 := HSH.out
                        rw [HSD.out] at h1
                        exact shard_of h1
                      subst hbt
                      obtain ⟨bi, ofi, rfl, _, i0⟩ := IIn.at (RowIn.low HI6.out HBx.out) HSH.out
                      clear HBB
                      cases k with
                      | zero =>
                        go_wp2_with fail
                        go_quiet (fail)
                        have HBq := hideIt (HBx.out.trans ((below_drewN _ nq).mono HBx.out.size))
                        go_wp2
                        exact ⟨⟨0 + 1, by omega, by go_num, HBq⟩, by simp [intOf]; omega⟩
                      | succ q =>
                        obtain ⟨s', hs'⟩ : ∃ s', S[q]? = some s' := ⟨S[q]'(by omega), by simp⟩
                        obtain ⟨bi', ofi', ei', _, i1⟩ := IIn.at (RowIn.low HI6.out HBx.out) hs'
                        simp only [Option.some.injEq, Addr.mk.injEq, and_true] at ei'
                        obtain ⟨rfl, rfl⟩ := ei'
                        have hless : s' < sh := by
                          have h1 := HSH.out
                          rw [HSD.out] at h1 hs'
                          exact int_next hs' h1
                        have hnle : ¬ sh ≤ s' := by omega
                        have hj1 : IntKind.i64.wrap (((q : Nat) : Int) + 1 - 1) = (q : Int) := by simp [IntKind.wrap, IntKind.bits, IntKind.signed]; omega
                        clear hs'
                        go_wp2_with fail
                        go_quiet (fail)
                        have HBq := hideIt (HBx.out.trans ((below_drewN _ nq).mono HBx.out.size))
                        go_wp2
                        exact ⟨⟨q + 1 + 1, by omega, by go_num, HBq⟩, by simp [intOf]; omega⟩
                · have hboth : ((T.length : Int) == 0) = ((S.length : Int) == 0) := by rw [HSD.out]; exact none_both HTO.out
                  have HSr := hideIt (HS6.out.next HB.out)
                  obtain ⟨tb, htb⟩ : ∃ tb, ((T.length : Int) == 0) = tb := ⟨_, rfl⟩
                  have hsb : ((S.length : Int) == 0) = tb := by rw [← hboth]; exact htb
                  clear hboth
                  cases tb with
                  | true =>
                    go_wp2
                    go_ret
                    exact ⟨rfl, HEND.out _ HSr.out.env⟩
                  | false =>
                    go_wp2
                    go_ret
                    exact ⟨rfl, HEND.out _ HSr.out.env⟩
end Go.Proofs.YtohlepbfjgehgaaGreatDoor
