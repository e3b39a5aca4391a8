/-
  What is proved here: the walk of cohortlaw03.BookGrows, over this program.
-/
import Derived.Test.YtongebdafjedjaaDoorBE
namespace Go.Proofs.YtongebdafjedjaaDoor
open Go.RowKit Go.Extern.Stop Go.Stop Go.Extern

/-- the first n cells of block b are bytes that may be written -/
def Free (w : World) (b n : Nat) : Prop := ∀ j, j < n → (∃ z : Nat, z < 256 ∧ w.cell? ⟨b, j, none⟩ = some (.int .u8 z)) ∧ w.frozen? ⟨b, j, none⟩ = false
theorem Free.of_bytes {w : World} {A : Nat → Prop} {b cap : Nat} {s : List UInt8} (h : BytesIn w A (.slice (some ⟨b, 0, none⟩) s.length cap) s) (hf : ∀ j, j < s.length → w.frozen? ⟨b, j, none⟩ = false) : Free w b s.length := by
  intro j hj
  obtain ⟨b', off', e, _, c⟩ := BytesIn.at h (k := j) (x := s[j]) (by simp [hj])
  simp only [Option.some.injEq, Addr.mk.injEq] at e
  obtain ⟨rfl, rfl, _⟩ := e
  rw [Nat.zero_add] at c
  exact ⟨⟨_, s[j].toNat_lt, c⟩, hf j hj⟩
theorem Free.set {w : World} {b n j z : Nat} (h : Free w b n) (hj : j < n) (hz : z < 256) : Free (w.setCell ⟨b, j, none⟩ (.int .u8 z)) b n := by
  intro i hi
  obtain ⟨⟨y, hy, c⟩, f⟩ := h i hi
  rw [World.frozen?_setCell]
  refine ⟨?_, f⟩
  by_cases e : i = j
  · subst e
    exact ⟨z, hz, World.cell?_setCell_same _ _ _ c⟩
  · exact ⟨y, hy, by rw [World.cell?_setCell_other _ _ _ _ (by simp)]; exact c⟩
theorem turn_set (w : World) (b j : Nat) (u : Value) : Turn (fun k => k = b) w (w.setCell ⟨b, j, none⟩ u) := ⟨rfl, rfl, rfl, by rw [size_set]; exact Nat.le_refl _, fun k _ ho => Below.heap_setCell w ⟨b, j, none⟩ u k ho⟩

/-- T has just those of the first k texts that are not too long -/
def Came (l T : List (List UInt8)) (k : Nat) : Prop := ∀ x, x ∈ T ↔ x ∈ l.take k ∧ x.length ≤ 65536
theorem mem_take_succ {l : List (List UInt8)} {k : Nat} {x y : List UInt8} (hx : l[k]? = some x) : y ∈ l.take (k + 1) ↔ y ∈ l.take k ∨ y = x := by
  have hlt : k < l.length := (List.getElem?_eq_some_iff.1 hx).1
  have he : l[k] = x := (List.getElem?_eq_some_iff.1 hx).2
  rw [List.take_succ_eq_append_getElem hlt, he]; simp
theorem Came.long {l T : List (List UInt8)} {k : Nat} {x : List UInt8} (h : Came l T k) (hx : l[k]? = some x) (hl : 65536 < x.length) : Came l T (k + 1) := by
  intro y
  rw [mem_take_succ hx, h y]
  constructor
  · rintro ⟨h1, h2⟩; exact ⟨Or.inl h1, h2⟩
  · rintro ⟨h1 | rfl, h2⟩
    · exact ⟨h1, h2⟩
    · omega
theorem Came.short {l T : List (List UInt8)} {k : Nat} {x : List UInt8} (h : Came l T k) (hx : l[k]? = some x) (hl : x.length ≤ 65536) : Came l (comes T x) (k + 1) := by
  intro y
  rw [mem_take_succ hx, comes_mem, h y]
  constructor
  · rintro (⟨h1, h2⟩ | rfl)
    · exact ⟨Or.inl h1, h2⟩
    · exact ⟨Or.inr rfl, hl⟩
  · rintro ⟨h1 | rfl, h2⟩
    · exact Or.inl ⟨h1, h2⟩
    · exact Or.inr rfl

def Fresh (l : List (List UInt8)) (x : List UInt8) (j : Nat) (fb : Bool) : Prop := fb = true ↔ x.length ≤ 65536 ∧ x ∉ l.take j
theorem Fresh.next {l : List (List UInt8)} {x z : List UInt8} {j : Nat} {fb : Bool} (h : Fresh l x j fb) (hz : l[j]? = some z) : Fresh l x (j + 1) (fb && !decide (z = x)) := by
  unfold Fresh at h ⊢
  rw [mem_take_succ hz, Bool.and_eq_true, h]
  constructor
  · rintro ⟨⟨h1, h2⟩, h3⟩
    exact ⟨h1, fun h => h.elim h2 (fun e => by simp [e] at h3)⟩
  · rintro ⟨h1, h2⟩
    exact ⟨⟨h1, fun h => h2 (Or.inl h)⟩, by simp; exact fun e => h2 (Or.inr e.symm)⟩
theorem Fresh.count {l T : List (List UInt8)} {x : List UInt8} {k : Nat} {fb : Bool} (h : Fresh l x k fb) (hc : Came l T k) (hx : x.length ≤ 65536) : (fb = true → ((comes T x).length : Int) = (T.length : Int) + 1) ∧ (fb = false → ((comes T x).length : Int) = (T.length : Int)) := by
  constructor
  · intro e
    have : x ∉ T := fun hm => (h.1 e).2 ((hc x).1 hm).1
    unfold comes
    rw [if_neg this]; simp
  · intro e
    have : x ∈ T := by
      rw [hc x]
      refine ⟨?_, hx⟩
      apply Classical.byContradiction
      intro hn
      have := h.2 ⟨hx, hn⟩
      rw [e] at this; cases this
    unfold comes
    rw [if_pos this]

set_option maxRecDepth 100000 in
set_option maxHeartbeats 8000000 in
theorem grows_true (v : Value) (l : List (List UInt8)) (w : World) (hv : TextsIn w (· < w.heap.size) v l) (hll : l.length ≤ maxLen) (hsz : ∀ x ∈ l, x.length ≤ maxLen) (hg : ET w) (ht : PT w) :
    Calls Tryd.prog 5 #[v] w fun e w' => e = .returned (.bool true) ∧ Below w.heap.size w w' := by
  have HV0 : Hid (Env w w) := ⟨Below.refl _ _, hg, ht⟩
  have HH := hideIt (head03_true w hg ht)
  have HY := hideIt hv
  have HZ := hideIt (And.intro hll hsz)
  obtain ⟨a, cap, rfl⟩ := hv.form
  clear hg ht hv hll hsz
  go_enter Tryd.func5, Tryd.ntmps5
  go_wp2_with fail
  refine HH.out.mono ?_
  rintro e w1 ⟨rfl, hb1⟩
  have HV1 := hideIt (HV0.out.next hb1)
  clear hb1 HH HV0
  go_wp2_with fail
  refine (bNew_any w1).mono ?_
  rintro e w2 ⟨p, rfl, hs, hb⟩
  have HV2 := hideIt (HV1.out.next hb)
  have HS2 := hideIt hs
  have hlo := HV1.out.1.size
  have HY2 := hideIt (HY.out.kept (Kept.of_below HV2.out.1 (fun _ h _ => h)))
  clear hs hb HV1
  go_wp2_with fail
  refine (great03_any _ _ l w2 HY2.out HZ.out.1 HZ.out.2).mono ?_
  rintro e w3 ⟨⟨g, rfl, hgr⟩, rfl⟩
  cases g with
  | true =>
    go_wp2
    go_ret
    exact ⟨rfl, HV2.out.1⟩
  | false =>
    have HGR := hideIt (hgr rfl).2
    have hl3 : l.length ≤ 300 := (hgr rfl).1
    clear hgr
    go_wp2
    go_loopw [5, 6] (fun n i wr => ∃ (k : Nat) (O : Nat → Prop) (T : List (List UInt8)), k ≤ l.length ∧ i = .int .i64 k ∧ n = .int .i64 T.length ∧ T.length ≤ k ∧ Hid (BookSt wr p O T) ∧ Hid (∀ j, O j → w.heap.size ≤ j ∧ j < wr.heap.size) ∧ Hid (Env w wr) ∧ Hid (Came l T k)) (fun _ i _ => l.length - (intOf i).toNat)
    case atStart => exact ⟨0, _, [], Nat.zero_le _, rfl, rfl, Nat.le_refl _, HS2.out, fun j hj => ⟨by have := hj.1; omega, hj.2⟩, HV2.out, by intro x; simp⟩
    case round =>
      clear HS2 HV2 hlo HY2
      obtain ⟨k, O, T, hk, rfl, rfl, hTk, HS, HO, HV, HC⟩ := hrel
      by_cases hlt : k < l.length
      · obtain ⟨x, hx⟩ : ∃ x, l[k]? = some x := ⟨l[k], by simp [hlt]⟩
        have hy := HY.out.kept (Kept.of_below HV.out.1 (fun _ h _ => h))
        obtain ⟨b, off, u, rfl, hbw, c0, y0⟩ := hy.at hx
        have hx3 := HGR.out x (List.mem_of_getElem? hx)
        have HX := hideIt hx
        have HBW := hideIt hbw
        obtain ⟨a1, cap1, rfl, _⟩ := y0.form
        have hwr : w.heap.size ≤ wr.heap.size := HV.out.1.size
        clear hx hy y0 hbw
        go_wp2
        go_loopw [7, 8] (fun f i wq => ∃ (j : Nat) (fb : Bool), j ≤ k ∧ i = .int .i64 j ∧ f = .bool fb ∧ Hid (Fresh l x j fb) ∧ Hid (BookSt wq p O T) ∧ Hid (Env w wq) ∧ wr.heap.size ≤ wq.heap.size) (fun _ i _ => k - (intOf i).toNat)
        case atStart => exact ⟨0, _, Nat.zero_le _, rfl, rfl, show Fresh l x 0 _ by unfold Fresh; simp; omega, HS.out, HV.out, Nat.le_refl _⟩
        case round =>
          clear HS HV c0
          obtain ⟨j, fb, hj, rfl, rfl, HF, HS, HV, hsq⟩ := hrel
          have hwq : w.heap.size ≤ wr.heap.size := HV.out.1.size
          have hy := HY.out.kept (Kept.of_below HV.out.1 (fun _ h _ => h))
          obtain ⟨b2, off2, u2, e2, _, c2, y2⟩ := hy.at HX.out
          cases e2
          have HY2 := hideIt y2
          by_cases hlj : j < k
          · obtain ⟨z, hz⟩ : ∃ z, l[j]? = some z := ⟨l[j], by simp [show j < l.length by omega]⟩
            obtain ⟨b1, off1, u1, e1, _, c1, y1⟩ := hy.at hz
            cases e1
            have HF' := hideIt (HF.out.next hz)
            cases fb with
            | false =>
              clear hz hy y1 y2 c1 c2
              go_wp2
              go_quiet (fail)
              have HV9 := hideIt (HV.out.next (below_drewN wr nq))
              have HS9 := hideIt (HS.out.kept (Kept.of_all (below_drewN wr nq)))
              have hs9 : wr.heap.size ≤ (wr.drewN nq).heap.size := (below_drewN wr nq).size
              generalize wr.drewN nq = w9 at HV9 HS9 hs9 ⊢
              go_wp2
              exact ⟨⟨j + 1, false, by omega, by go_num, rfl, HF'.out, HS9.out, HV9.out, by omega⟩, by simp [intOf]; omega⟩
            | true =>
              have hst1 := fun m => BytesIn.str (RowIn.kept y1 (Kept.of_all (below_drewN wr m)))
              have hst2 := fun m => BytesIn.str (RowIn.kept y2 (Kept.of_all (below_drewN wr m)))
              obtain ⟨a3, cap3, rfl, _⟩ := y1.form
              obtain ⟨a4, cap4, rfl, _⟩ := y2.form
              clear hz hy y1 y2
              by_cases hzx : z = x
              · have HF2 : Hid (Fresh l x (j + 1) false) := hideIt (by have := HF'.out; simpa [hzx] using this)
                subst hzx
                go_wp2
                go_quiet (fail)
                have HV9 := hideIt (HV.out.next (below_drewN wr nq))
                have HS9 := hideIt (HS.out.kept (Kept.of_all (below_drewN wr nq)))
                have hs9 : wr.heap.size ≤ (wr.drewN nq).heap.size := (below_drewN wr nq).size
                generalize wr.drewN nq = w9 at HV9 HS9 hs9 ⊢
                clear hst1 hst2
                go_wp2
                exact ⟨⟨j + 1, false, by omega, by go_num, rfl, HF2.out, HS9.out, HV9.out, by omega⟩, by simp [intOf]; omega⟩
              · have HF2 : Hid (Fresh l x (j + 1) true) := hideIt (by have := HF'.out; simpa [hzx] using this)
                have hss : (z == x) = false := by simp [hzx]
                go_wp2
                go_quiet (fail)
                have HV9 := hideIt (HV.out.next (below_drewN wr nq))
                have HS9 := hideIt (HS.out.kept (Kept.of_all (below_drewN wr nq)))
                have hs9 : wr.heap.size ≤ (wr.drewN nq).heap.size := (below_drewN wr nq).size
                generalize wr.drewN nq = w9 at HV9 HS9 hs9 ⊢
                clear hst1 hst2
                go_wp2
                exact ⟨⟨j + 1, true, by omega, by go_num, rfl, HF2.out, HS9.out, HV9.out, by omega⟩, by simp [intOf]; omega⟩
          · have HFk : Hid (Fresh l x k fb) := by
              have e : j = k := by omega
              rw [← e]; exact HF.out
            obtain ⟨a2, cap2, rfl, _⟩ := y2.form
            clear hy y2 HF
            by_cases hlong : (65536 : Int) < (x.length : Int)
            · have hfb : fb = false := by
                cases fb with
                | false => rfl
                | true => exact absurd (HFk.out.1 rfl).1 (by omega)
              subst hfb
              go_wp2_with fail
              refine (bDigest_long _ p O _ T _ x HS.out HY2.out (by omega) (by unfold maxLen; omega)).mono ?_
              rintro e w4 ⟨er, rfl, ho, hb4⟩
              obtain ⟨ty, y, rfl⟩ := ho.iface
              have HV4 := hideIt (HV.out.next hb4)
              have HS4 := hideIt (HS.out.kept (Kept.of_all hb4))
              have hs4 := hb4.size
              clear ho hb4 c2
              go_wp2_with fail
              refine (bText_bad _ p O T (-1) HS4.out (Or.inl (by decide))).mono ?_
              rintro e w5 ⟨er, rfl, ho, hb5⟩
              obtain ⟨ty5, y5, rfl⟩ := ho.iface
              have HV5 := hideIt (HV4.out.next hb5)
              have HS5 := hideIt (HS4.out.kept (Kept.of_all hb5))
              have hs5 := hb5.size
              clear ho hb5 HV4 HS4
              go_wp2
              go_loopw [13] (fun i wq => i = .int .i64 0 ∧ wq = w5) (fun _ _ => 0)
              case atStart => exact ⟨rfl, rfl⟩
              case round =>
                obtain ⟨rfl, e⟩ := hrel
                subst e
                go_wp2_with fail
                refine (bText_bad _ p O T (-1) HS5.out (Or.inl (by decide))).mono ?_
                rintro e w6 ⟨er, rfl, ho, hb6⟩
                obtain ⟨ty6, y6, rfl⟩ := ho.iface
                have HV6 := hideIt (HV5.out.next hb6)
                have HS6 := hideIt (HS5.out.kept (Kept.of_all hb6))
                have hs6 := hb6.size
                clear ho hb6 HV5 HS5
                go_wp2
                go_quiet ((go_at_call 17; exact Calls.quiet_of_same (bMany_any _ p O T (HS6.out.kept (Kept.of_all (below_drewN w6 _))))))
                have HV9 := hideIt (HV6.out.next (below_drewN w6 nq))
                have HS9 := hideIt (HS6.out.kept (Kept.of_all (below_drewN w6 nq)))
                have hs9 : w6.heap.size ≤ (w6.drewN nq).heap.size := (below_drewN w6 nq).size
                generalize w6.drewN nq = w9 at HV9 HS9 hs9 ⊢
                go_wp2
                exact ⟨⟨k + 1, O, T, by omega, by go_num, rfl, by omega, HS9.out, fun j hj => ⟨(HO.out j hj).1, by have := (HO.out j hj).2; omega⟩, HV9.out, HC.out.long HX.out (by omega)⟩, by simp [intOf]; omega⟩
            · have hT6 : T.length < 65536 := by omega
              have hfn := HFk.out.count HC.out (by omega)
              cases fb
              case' false =>
                have hN := hfn.2 rfl
                clear hfn
                go_wp2_with fail
                rw [← hN]
              case' true =>
                have hN := hfn.1 rfl
                clear hfn
                go_wp2_with fail
                rw [← hN]
              all_goals
                refine (bDigest_ok _ p O _ T _ x HS.out HY2.out (by omega) hT6).mono ?_
                rintro e w4 ⟨d, O', rfl, hd, hs4, ht4, ho4⟩
                have hcl := comes_le T x
                have HCN := hideIt (HC.out.short HX.out (by omega))
                have HDX := hideIt hd
                have HV4 := hideIt (HV.out.turned ht4 (fun k hk => (HO.out k hk).1))
                have HO4 : Hid (∀ j, O' j → w.heap.size ≤ j ∧ j < w4.heap.size) := fun j hj => by
                  obtain ⟨h1 | h1, h2⟩ := ho4 j hj
                  · exact ⟨(HO.out j h1).1, h2⟩
                  · exact ⟨by omega, h2⟩
                have HS4 := hideIt hs4
                have hs4 := ht4.size
                clear hd ht4 ho4 c2 hN
                generalize comes T x = T' at HCN HS4 hcl HDX ⊢
                go_wp2_with fail
                refine (bText_ok _ p O' T' x d HS4.out HDX.out).mono ?_
                rintro e w5 ⟨cap5, rfl, y5, hc5, hf5, hb5⟩
                have HF5 := hideIt (Free.of_bytes y5 hf5)
                have HV5 := hideIt (HV4.out.next hb5)
                have HS5 := hideIt (HS4.out.kept (Kept.of_all hb5))
                have HO5 : Hid (∀ j, O' j → w.heap.size ≤ j ∧ j < w5.heap.size ∧ j ≠ w4.heap.size) := fun j hj => by
                  have := HO4.out j hj; have := hb5.size; omega
                have hs5 := hb5.size
                obtain ⟨g, hg, hgw⟩ : ∃ g, w4.heap.size = g ∧ w.heap.size ≤ g := ⟨_, rfl, by omega⟩
                rw [hg] at HF5 HO5 ⊢
                clear y5 hf5 hb5 HV4 HS4 hg HO4
                go_wp2
                go_loopw [13] (fun i wq => ∃ m : Nat, m ≤ x.length ∧ i = .int .i64 m ∧ Hid (Free wq g x.length) ∧ Hid (BookSt wq p O' T') ∧ Hid (Env w wq) ∧ w5.heap.size ≤ wq.heap.size) (fun i _ => x.length - (intOf i).toNat)
                case atStart => exact ⟨0, Nat.zero_le _, rfl, HF5.out, HS5.out, HV5.out, Nat.le_refl _⟩
                case round =>
                  clear HF5 HS5 HV5
                  obtain ⟨m, hm, rfl, HF, HS, HV, hsq⟩ := hrel
                  by_cases hmx : m < x.length
                  · obtain ⟨⟨z, hz, c⟩, f⟩ := HF.out m hmx
                    go_wp2
                    have ez : ((z : Int) + 1) % 256 = (((z + 1) % 256 : Nat) : Int) := by omega
                    rw [ez]
                    have ht1 := turn_set wr g m (.int .u8 (((z + 1) % 256 : Nat) : Int))
                    refine ⟨⟨m + 1, by omega, by go_num, HF.out.set hmx (by omega), HS.out.kept (ht1.kept (fun k hk _ e => (HO5.out k hk).2.2 e)), HV.out.turned ht1 (fun k hk => by omega), by have := ht1.size; omega⟩, by simp [intOf]; omega⟩
                  · go_wp2_with fail
                    refine (bText_ok _ p O' T' x d HS.out HDX.out).mono ?_
                    rintro e w6 ⟨cap6, rfl, y6, _, _, hb6⟩
                    have HV6 := hideIt (HV.out.next hb6)
                    have HS6 := hideIt (HS.out.kept (Kept.of_all hb6))
                    have hs6 := hb6.size
                    have HY6 := hideIt y6
                    clear hb6 y6
                    have hy := HY.out.kept (Kept.of_below HV6.out.1 (fun _ h _ => h))
                    obtain ⟨b3, off3, u3, e3, _, c3, y3⟩ := hy.at HX.out
                    cases e3
                    have hst1 := fun m => BytesIn.str (RowIn.kept HY6.out (Kept.of_all (below_drewN w6 m)))
                    have hst2 := fun m => BytesIn.str (RowIn.kept y3 (Kept.of_all (below_drewN w6 m)))
                    obtain ⟨a3, cap3, rfl, _⟩ := y3.form
                    clear hy y3
                    go_wp2
                    go_quiet ((go_at_call 17; exact Calls.quiet_of_same (bMany_any _ p O' T' (HS6.out.kept (Kept.of_all (below_drewN w6 _))))))
                    have HV9 := hideIt (HV6.out.next (below_drewN w6 nq))
                    have HS9 := hideIt (HS6.out.kept (Kept.of_all (below_drewN w6 nq)))
                    have hs9 : w6.heap.size ≤ (w6.drewN nq).heap.size := (below_drewN w6 nq).size
                    generalize w6.drewN nq = w9 at HV9 HS9 hs9 ⊢
                    clear hst1 hst2 c3
                    go_wp2
                    exact ⟨⟨k + 1, O', T', by omega, by go_num, rfl, by omega, HS9.out, fun j hj => ⟨(HO5.out j hj).1, by have := (HO5.out j hj).2.1; omega⟩, HV9.out, HCN.out⟩, by simp [intOf]; omega⟩
      · go_wp2
        go_ret
        exact ⟨rfl, HV.out.1⟩
end Go.Proofs.YtongebdafjedjaaDoor
