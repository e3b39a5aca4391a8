/-
  What is proved here: the document's Move (cohortref09); over this program.
-/
import Derived.Test.YtafhmbgnldmedaaDoorPQ
namespace Go.Proofs.YtafhmbgnldmedaaDoor
open Go.RowKit Go.Extern.Stop Go.Stop Go.Extern

/-- what the document's Move comes to -/
def DMovePost (w : World) (p : Nat) (A : Nat → Prop) (l : List Pc) (fk tk : List UInt8) (s : Int) (e : Ending) (w' : World) : Prop :=
  ∃ n k l', e = .returned (.tuple #[.int .i64 n, .int .i64 k]) ∧ MoveIs l fk tk s n k l' ∧ Rt w' p (fun b => A b ∨ w.heap.size ≤ b) l' ∧ w.grownBy w' (some p)
theorem DMovePost.bad {w w' : World} {p : Nat} {A : Nat → Prop} {l : List Pc} {fk tk : List UInt8} {s n k : Int} (hm : MoveIs l fk tk s n k l) (hr : Rt w p A l) (hb : Below w.heap.size w w') : DMovePost w p A l fk tk s (.returned (.tuple #[.int .i64 n, .int .i64 k])) w' :=
  ⟨n, k, l, rfl, hm, (hr.next hb).mono (fun _ h _ => Or.inl h) (fun h => by
    have hl := Rt.lt hr
    obtain ⟨_, _, _, _, h4⟩ := hr
    rcases h with h | h
    · exact h4 h
    · omega), grown_below hb _⟩
/-- none of the first k pieces of the range has the last epoch -/
def NoBig (l : List Pc) (fk tk : List UInt8) (k : Nat) : Prop := ∀ j x, j < k → l[j]? = some x → inR fk tk x.1 = true → x.2.2 < 1099511627776
theorem nobig_zero (l : List Pc) (fk tk : List UInt8) : NoBig l fk tk 0 := fun j x hj => by omega
theorem nobig_next {l : List Pc} {fk tk : List UInt8} {k : Nat} {x : Pc} (h : NoBig l fk tk k) (hx : l[k]? = some x) (hs : inR fk tk x.1 = true → x.2.2 < 1099511627776) : NoBig l fk tk (k + 1) := by
  intro j y hj hy
  by_cases e : j = k
  · subst e; rw [hx] at hy; cases hy; exact hs
  · exact h j y (by omega) hy
theorem nobig_all {l : List Pc} {fk tk : List UInt8} (h : NoBig l fk tk l.length) : ∀ p ∈ l, inR fk tk p.1 = true → p.2.2 < 1099511627776 := fun p hp => by
  obtain ⟨j, hj⟩ := List.getElem?_of_mem hp
  exact h j p (List.getElem?_eq_some_iff.1 hj).1 hj
/-- the first k pieces were given, where they are of the range -/
def UpdTo (l : List Pc) (fk tk : List UInt8) (s : Int) (k : Nat) (lk : List Pc) : Prop := lk.length = l.length ∧ ∀ j x, l[j]? = some x → lk[j]? = some (if j < k then updP fk tk s x else x)
theorem upd_zero (l : List Pc) (fk tk : List UInt8) (s : Int) : UpdTo l fk tk s 0 l := ⟨rfl, fun j x hx => by rw [if_neg (by omega)]; exact hx⟩
theorem upd_at {l lk : List Pc} {fk tk : List UInt8} {s : Int} {k : Nat} {x : Pc} (h : UpdTo l fk tk s k lk) (hx : l[k]? = some x) : lk[k]? = some x := by
  have := h.2 k x hx
  rwa [if_neg (by omega)] at this
theorem upd_skip {l lk : List Pc} {fk tk : List UInt8} {s : Int} {k : Nat} {x : Pc} (h : UpdTo l fk tk s k lk) (hx : l[k]? = some x) (hn : inR fk tk x.1 = false) : UpdTo l fk tk s (k + 1) lk := by
  refine ⟨h.1, fun j y hy => ?_⟩
  by_cases e : j = k
  · subst e
    rw [hx] at hy; cases hy
    rw [upd_at h hx, if_pos (by omega)]
    unfold updP; rw [hn]; rfl
  · rw [h.2 j y hy]
    by_cases c : j < k
    · rw [if_pos c, if_pos (by omega)]
    · rw [if_neg c, if_neg (by omega)]
theorem upd_set {l lk : List Pc} {fk tk : List UInt8} {s : Int} {k : Nat} {x : Pc} (h : UpdTo l fk tk s k lk) (hx : l[k]? = some x) (hn : inR fk tk x.1 = true) : UpdTo l fk tk s (k + 1) (lk.set k (x.1, s, x.2.2 + 1)) := by
  refine ⟨by rw [List.length_set]; exact h.1, fun j y hy => ?_⟩
  rw [List.getElem?_set]
  by_cases e : k = j
  · subst e
    rw [hx] at hy; cases hy
    have h1 := (List.getElem?_eq_some_iff.1 (upd_at h hx)).1
    rw [if_pos rfl, if_pos h1, if_pos (by omega)]
    unfold updP; rw [hn]; rfl
  · rw [if_neg e, h.2 j y hy]
    by_cases c : j < k
    · rw [if_pos c, if_pos (by omega)]
    · rw [if_neg c, if_neg (by omega)]
theorem upd_all {l lk : List Pc} {fk tk : List UInt8} {s : Int} (h : UpdTo l fk tk s l.length lk) : lk = l.map (updP fk tk s) := by
  refine List.ext_getElem? fun j => ?_
  rw [List.getElem?_map]
  cases hx : l[j]? with
  | none =>
    rw [List.getElem?_eq_none_iff] at hx
    rw [List.getElem?_eq_none (by rw [h.1]; exact hx)]; rfl
  | some x =>
    rw [h.2 j x hx, if_pos (List.getElem?_eq_some_iff.1 hx).1]; rfl

set_option maxRecDepth 100000 in
set_option maxHeartbeats 16000000 in
theorem drMove_any (w : World) (p : Nat) (A : Nat → Prop) (l : List Pc) (fk tk : List UInt8) (s : Int) (h : Rt w p A l) (hf : FitP l) :
    Calls Tryd.prog 16 #[.pointer (some ⟨p, 0, none⟩), .string ⟨fk.toArray⟩, .string ⟨tk.toArray⟩, .int .i64 s] w (DMovePost w p A l fk tk s) := by
  have HRT := hideIt h
  have HF := hideIt hf
  have HISR := hideIt (dris_any fk tk w)
  obtain ⟨rb, hrb⟩ : ∃ rb, rb = rangeB fk tk := ⟨_, rfl⟩
  rw [← hrb] at HISR
  have HRB := hideIt hrb
  clear hrb hf
  cases rb with
  | false =>
    have HN : Hid (MoveIs l fk tk s 91 0 l) := hideIt (Or.inl ⟨fun hh => (by have := rangeB_iff.2 hh; rw [← HRB.out] at this; cases this), rfl, rfl, rfl⟩)
    go_enter Tryd.func16, Tryd.ntmps16
    go_wp2_with fail
    refine HISR.out.mono ?_
    rintro e w1 ⟨rfl, rfl⟩
    go_wp2
    refine bodyPost_ret (v := .tuple #[.int .i64 91, .int .i64 0]) (by simp [results, Tryd.results16, go_sem]) rfl ?_
    exact .bad HN.out HRT.out (Below.refl _ _)
  | true =>
  have HR := hideIt (rangeB_iff.1 HRB.out.symm)
  by_cases hs1 : s < 0
  · have HN : Hid (MoveIs l fk tk s 1 s l) := hideIt (Or.inr (Or.inl ⟨HR.out, fun hh => (by have := hh.1; omega), rfl, rfl, rfl⟩))
    go_enter Tryd.func16, Tryd.ntmps16
    go_wp2_with fail
    refine HISR.out.mono ?_
    rintro e w1 ⟨rfl, rfl⟩
    go_wp2
    refine bodyPost_ret (v := .tuple #[.int .i64 1, .int .i64 s]) (by simp [results, Tryd.results16, go_sem]) rfl ?_
    exact .bad HN.out HRT.out (Below.refl _ _)
  by_cases hs2 : 4 ≤ s
  · have HN : Hid (MoveIs l fk tk s 1 s l) := hideIt (Or.inr (Or.inl ⟨HR.out, fun hh => (by have := hh.2; omega), rfl, rfl, rfl⟩))
    go_enter Tryd.func16, Tryd.ntmps16
    go_wp2_with fail
    refine HISR.out.mono ?_
    rintro e w1 ⟨rfl, rfl⟩
    go_wp2
    refine bodyPost_ret (v := .tuple #[.int .i64 1, .int .i64 s]) (by simp [results, Tryd.results16, go_sem]) rfl ?_
    exact .bad HN.out HRT.out (Below.refl _ _)
  have HS : Hid (IsShard s) := hideIt ⟨by omega, by omega⟩
  obtain ⟨v, c0, f0, hv, hA⟩ := h
  have HV := hideIt hv
  obtain ⟨va, vc, rfl⟩ := hv.1.form
  have HC0 := hideIt (And.intro c0 (And.intro f0 hA))
  have HC := hideIt (drcut_any w A _ l fk hv.1 HF.out.lin (by have := HF.out.few; omega))
  clear hv f0 hA HRB
  go_enter Tryd.func16, Tryd.ntmps16
  go_wp2_with fail
  refine HISR.out.mono ?_
  rintro e w2 ⟨rfl, rfl⟩
  go_wp2_with fail
  refine HC.out.mono ?_
  rintro e w4 ⟨v4, L1, rfl, hc1, ho4, hb4⟩
  obtain ⟨w, hw⟩ : ∃ w, w = w2 := ⟨_, rfl⟩
  subst hw
  have HB4 := hideIt hb4
  have hs4 := hb4.size
  have HL1 := hideIt (cut_lin HF.out.lin hc1)
  have HC1 := hideIt hc1
  have HO4 := hideIt ho4
  have hlen1 : L1.length ≤ 33 := by have := (cut_len hc1).2; have := HF.out.few; omega
  obtain ⟨a4, cap, rfl⟩ := own_form ho4
  clear hc1 ho4 hb4 c0 HC
  by_cases htk : tk = []
  · subst htk
    have HO5 := HO4
    have HL2 := HL1
    have HC2 := hideIt (cut_nil HL1.out)
    obtain ⟨L2, hL2⟩ : ∃ L2, L2 = L1 := ⟨_, rfl⟩
    obtain ⟨w5, hw5⟩ : ∃ w5, w5 = w4 := ⟨_, rfl⟩
    have HB5 := HB4
    have hlen2 : L1.length ≤ 34 := by omega
    have HC2' : Hid (CutIs L1 [] L2) := hideIt (by rw [hL2]; exact HC2.out)
    rw [← hL2] at HO5 HL2 hlen2 ⊢
    rw [← hw5] at HO5 HB5 ⊢
    clear HC2 HO4 hL2 hw5 HB4
    have HC2 := HC2'
    clear HC2'
    rcases own_row HO5.out with ⟨_, h0⟩ | ⟨g, cap, cur, hv5, hBg, _⟩
    case inl => exact absurd (List.eq_nil_of_length_eq_zero h0) HL2.out.one
    cases hv5
    have hcap := own_capC HO5.out _ _ rfl
    have HBG := hideIt hBg
    have HIN5 := hideIt (own_in HO5.out)
    clear hBg
    go_wp2
    go_loopw [11] (fun i wr => ∃ k : Nat, k ≤ L2.length ∧ i = .int .i64 k ∧ Hid (NoBig L2 fk [] k) ∧ Hid (Below w.heap.size w wr ∧ Below w5.heap.size w5 wr)) (fun i _ => L2.length - (intOf i).toNat)
    case atStart => exact ⟨0, Nat.zero_le _, rfl, nobig_zero _ _ _, hideIt ⟨HB5.out, Below.refl _ _⟩⟩
    case round =>
      obtain ⟨k, hk, rfl, HK, HBB⟩ := hrel
      have HB := hideIt HBB.out.1
      by_cases hlt : k < L2.length
      · obtain ⟨x, hx⟩ : ∃ x, L2[k]? = some x := ⟨L2[k], by simp [hlt]⟩
        obtain ⟨_, _, e9, _, c0, c1, c2⟩ := PcsIn.at (l := L2) (RowIn.kept HIN5.out (Kept.of_all HBB.out.2)) hx
        cases e9
        rw [Nat.zero_add] at c0 c1 c2
        have HX := hideIt hx
        clear hx
        cases g1 : Op.bytesLess x.1 fk with
        | true =>
          have HN : Hid (NoBig L2 fk [] (k + 1)) := hideIt (nobig_next HK.out HX.out (fun h => (by have h9 := (inR_iff.1 h).1; exact absurd g1 h9)))
          go_wp2
          exact ⟨⟨k + 1, by omega, by go_num, HN, HBB⟩, by simp [intOf]; omega⟩
        | false =>
          have HIN : Hid (inR fk [] x.1 = true) := hideIt (inR_iff.2 ⟨fun h => (by unfold kLt at h; rw [g1] at h; cases h), Or.inl rfl⟩)
          by_cases he : 1099511627776 ≤ x.2.2
          · have HN : Hid (MoveIs l fk [] s 1 (-1) l) := hideIt (Or.inr (Or.inr ⟨HR.out, HS.out, L1, L2, HC1.out, HC2.out, Or.inl ⟨⟨x, List.mem_of_getElem? HX.out, HIN.out, he⟩, rfl, rfl, rfl⟩⟩))
            go_wp2
            refine bodyPost_ret (v := .tuple #[.int .i64 1, .int .i64 (-1)]) (by simp [results, Tryd.results16, go_sem]) rfl ?_
            exact .bad HN.out HRT.out HB.out
          · have HN : Hid (NoBig L2 fk [] (k + 1)) := hideIt (nobig_next HK.out HX.out (fun _ => by omega))
            have he2 : decide (1099511627776 ≤ x.2.2) = false := decide_eq_false he
            go_wp2
            exact ⟨⟨k + 1, by omega, by go_num, HN, HBB⟩, by simp [intOf]; omega⟩
      · obtain rfl : k = L2.length := by omega
        have HNB : Hid (∀ p ∈ L2, inR fk [] p.1 = true → p.2.2 < 1099511627776) := hideIt (nobig_all HK.out)
        by_cases hm : (32 : Int) < (L2.length : Int)
        · have HN : Hid (MoveIs l fk [] s 71 L2.length l) := hideIt (Or.inr (Or.inr ⟨HR.out, HS.out, L1, L2, HC1.out, HC2.out, Or.inr (Or.inl ⟨HNB.out, by omega, rfl, rfl, rfl⟩)⟩))
          go_wp2
          refine bodyPost_ret (v := .tuple #[.int .i64 71, .int .i64 L2.length]) (by simp [results, Tryd.results16, go_sem]) rfl ?_
          exact .bad HN.out HRT.out HB.out
        · have HM := hideIt hm
          have HOr := hideIt (own_grownB HO5.out HBB.out.2)
          go_wp2
          go_loopw [12] (fun i wr => ∃ (k : Nat) (Lk : List Pc), k ≤ L2.length ∧ i = .int .i64 k ∧ Hid (UpdTo L2 fk [] s k Lk ∧ wr.ownsRow w.heap.size 39 3 (.slice (some ⟨g, 0, none⟩) L2.length cap) L2.length (pcsCells Lk)) ∧ Hid (Below w.heap.size w wr)) (fun i _ => L2.length - (intOf i).toNat)
          case atStart => exact ⟨0, L2, Nat.zero_le _, rfl, hideIt ⟨upd_zero _ _ _ _, HOr.out⟩, HB⟩
          case round =>
            obtain ⟨k, Lk, hk, rfl, HG, HB⟩ := hrel
            by_cases hlt : k < L2.length
            · obtain ⟨x, hx⟩ : ∃ x, L2[k]? = some x := ⟨L2[k], by simp [hlt]⟩
              have hxk := upd_at HG.out.1 hx
              have hlk : Lk.length = L2.length := HG.out.1.1
              have hin : PcsIn wr (fun k => (Value.slice (some ⟨g, 0, none⟩) L2.length cap).ownBlock = some k) (.slice (some ⟨g, 0, none⟩) Lk.length cap) Lk := by
                have h := own_in HG.out.2
                unfold PcsIn
                rw [hlk]; exact h
              obtain ⟨_, _, e9, _, c0, c1, c2⟩ := PcsIn.at hin hxk
              cases e9
              have f1 := World.ownsRow.frozenAt HG.out.2 (k * 3 + 1)
              have f2 := World.ownsRow.frozenAt HG.out.2 (k * 3 + 2)
              have HPUT := hideIt (own_put (v := s) (m := x.2.2 + 1) HG.out.2 hxk)
              have HX := hideIt hx
              have hok := cut_ok HR.out.to HC2.out (cut_ok HR.out.1 HC1.out (fun p hp => HF.out.ok hp)) x (List.mem_of_getElem? hx)
              have hwe : IntKind.i64.wrap (x.2.2 + 1) = x.2.2 + 1 := by have h1 := hok.2.2.2.1; have h2 := hok.2.2.2.2; simp [IntKind.wrap, IntKind.bits, IntKind.signed]; omega
              rw [Nat.zero_add] at c0 c1 c2
              clear hx hxk hlk hin hok
              cases g1 : Op.bytesLess x.1 fk with
              | true =>
                have HN : Hid (UpdTo L2 fk [] s (k + 1) Lk) := hideIt (upd_skip HG.out.1 HX.out (by
                  cases hh : inR fk [] x.1 with
                  | false => rfl
                  | true => exact absurd hh (fun h => (by have h9 := (inR_iff.1 h).1; exact absurd g1 h9))))
                go_wp2
                exact ⟨⟨k + 1, Lk, by omega, by go_num, hideIt ⟨HN.out, HG.out.2⟩, HB⟩, by simp [intOf]; omega⟩
              | false =>
                have HN : Hid (UpdTo L2 fk [] s (k + 1) (Lk.set k (x.1, s, x.2.2 + 1))) := hideIt (upd_set HG.out.1 HX.out (inR_iff.2 ⟨fun h => (by unfold kLt at h; rw [g1] at h; cases h), Or.inl rfl⟩))
                go_wp2
                exact ⟨⟨k + 1, _, by omega, by go_num, hideIt ⟨HN.out, HPUT.out.1⟩, hideIt (HB.out.grown HPUT.out.2 HB.out.size (fun j hj => by cases hj; exact HBG.out))⟩, by simp [intOf]; omega⟩
            · obtain rfl : k = L2.length := by omega
              have hall := upd_all HG.out.1
              subst hall
              have HN : Hid (MoveIs l fk [] s 0 0 (L2.map (updP fk [] s))) := hideIt (Or.inr (Or.inr ⟨HR.out, HS.out, L1, L2, HC1.out, HC2.out, Or.inr (Or.inr ⟨HNB.out, by have := HM.out; omega, rfl, rfl, rfl⟩)⟩))
              have hpl : p < w.heap.size := Rt.lt HRT.out
              have hpb := HB.out.block p hpl
              have t0 := (World.cell?_of_block (a := ⟨p, 0, none⟩) hpb).trans HC0.out.1
              have t1 := (World.frozen?_of_block (a := ⟨p, 0, none⟩) hpb).trans HC0.out.2.1
              clear hpb
              go_wp2
              refine bodyPost_ret (v := .tuple #[.int .i64 0, .int .i64 0]) (by simp [results, Tryd.results16, go_sem]) rfl ?_
              have hgr : wr.grownBy (wr.setCell ⟨p, 0, none⟩ (.slice (some ⟨g, 0, none⟩) L2.length cap)) (some p) := grown_set (grown_refl _ _) _ _
              have hml : (L2.map (updP fk [] s)).length = L2.length := List.length_map _
              have hgp : g ≠ p := fun e => by have := HBG.out; omega
              refine ⟨0, 0, _, rfl, HN.out, ⟨_, World.cell?_setCell_same _ _ _ t0, by rw [World.frozen?_setCell]; exact t1, ⟨?_, ?_⟩, ?_⟩, World.grownBy.trans (grown_below HB.out _) hgr⟩
              · unfold PcsIn
                rw [hml]
                exact RowIn.mono (RowIn.kept (own_in HG.out.2) (Kept.of_grown hgr (fun e => hgp (by cases e; rfl)))) (fun k hk _ => Or.inr (by cases hk; exact HBG.out))
              · intro a' c' e
                rw [hml] at e ⊢
                cases e; exact hcap
              · rintro (h | h)
                · exact HC0.out.2.2 h
                · omega
  · have htb : (tk == []) = false := by simpa using htk
    have HTN := hideIt htk
    clear htk
    go_wp2_with fail
    refine (drcut_any w4 _ _ L1 tk (own_in HO4.out) HL1.out (by omega)).mono ?_
    rintro e w5 ⟨v5, L2, rfl, hc2, ho5, hb5⟩
    have HB5 := hideIt (HB4.out.trans (hb5.mono hs4))
    have HL2 := hideIt (cut_lin HL1.out hc2)
    have HC2 := hideIt hc2
    have HO5 := hideIt (own_mono ho5 hs4)
    have hlen2 : L2.length ≤ 34 := by have := (cut_len hc2).2; omega
    clear hc2 ho5 hb5
    rcases own_row HO5.out with ⟨_, h0⟩ | ⟨g, cap, cur, hv5, hBg, _⟩
    case inl => exact absurd (List.eq_nil_of_length_eq_zero h0) HL2.out.one
    cases hv5
    have hcap := own_capC HO5.out _ _ rfl
    have HBG := hideIt hBg
    have HIN5 := hideIt (own_in HO5.out)
    clear hBg
    go_wp2
    go_loopw [11] (fun i wr => ∃ k : Nat, k ≤ L2.length ∧ i = .int .i64 k ∧ Hid (NoBig L2 fk tk k) ∧ Hid (Below w.heap.size w wr ∧ Below w5.heap.size w5 wr)) (fun i _ => L2.length - (intOf i).toNat)
    case atStart => exact ⟨0, Nat.zero_le _, rfl, nobig_zero _ _ _, hideIt ⟨HB5.out, Below.refl _ _⟩⟩
    case round =>
      obtain ⟨k, hk, rfl, HK, HBB⟩ := hrel
      have HB := hideIt HBB.out.1
      by_cases hlt : k < L2.length
      · obtain ⟨x, hx⟩ : ∃ x, L2[k]? = some x := ⟨L2[k], by simp [hlt]⟩
        obtain ⟨_, _, e9, _, c0, c1, c2⟩ := PcsIn.at (l := L2) (RowIn.kept HIN5.out (Kept.of_all HBB.out.2)) hx
        cases e9
        rw [Nat.zero_add] at c0 c1 c2
        have HX := hideIt hx
        clear hx
        cases g1 : Op.bytesLess x.1 fk with
        | true =>
          have HN : Hid (NoBig L2 fk tk (k + 1)) := hideIt (nobig_next HK.out HX.out (fun h => (by have h9 := (inR_iff.1 h).1; exact absurd g1 h9)))
          go_wp2
          exact ⟨⟨k + 1, by omega, by go_num, HN, HBB⟩, by simp [intOf]; omega⟩
        | false =>
          cases g3 : Op.bytesLess x.1 tk with
          | false =>
            have HN : Hid (NoBig L2 fk tk (k + 1)) := hideIt (nobig_next HK.out HX.out (fun h => (by rcases (inR_iff.1 h).2 with h9 | h9; exact absurd h9 HTN.out; unfold kLt at h9; rw [g3] at h9; cases h9)))
            go_wp2
            exact ⟨⟨k + 1, by omega, by go_num, HN, HBB⟩, by simp [intOf]; omega⟩
          | true =>
            have HIN : Hid (inR fk tk x.1 = true) := hideIt (inR_iff.2 ⟨fun h => (by unfold kLt at h; rw [g1] at h; cases h), Or.inr g3⟩)
            by_cases he : 1099511627776 ≤ x.2.2
            · have HN : Hid (MoveIs l fk tk s 1 (-1) l) := hideIt (Or.inr (Or.inr ⟨HR.out, HS.out, L1, L2, HC1.out, HC2.out, Or.inl ⟨⟨x, List.mem_of_getElem? HX.out, HIN.out, he⟩, rfl, rfl, rfl⟩⟩))
              go_wp2
              refine bodyPost_ret (v := .tuple #[.int .i64 1, .int .i64 (-1)]) (by simp [results, Tryd.results16, go_sem]) rfl ?_
              exact .bad HN.out HRT.out HB.out
            · have HN : Hid (NoBig L2 fk tk (k + 1)) := hideIt (nobig_next HK.out HX.out (fun _ => by omega))
              have he2 : decide (1099511627776 ≤ x.2.2) = false := decide_eq_false he
              go_wp2
              exact ⟨⟨k + 1, by omega, by go_num, HN, HBB⟩, by simp [intOf]; omega⟩
      · obtain rfl : k = L2.length := by omega
        have HNB : Hid (∀ p ∈ L2, inR fk tk p.1 = true → p.2.2 < 1099511627776) := hideIt (nobig_all HK.out)
        by_cases hm : (32 : Int) < (L2.length : Int)
        · have HN : Hid (MoveIs l fk tk s 71 L2.length l) := hideIt (Or.inr (Or.inr ⟨HR.out, HS.out, L1, L2, HC1.out, HC2.out, Or.inr (Or.inl ⟨HNB.out, by omega, rfl, rfl, rfl⟩)⟩))
          go_wp2
          refine bodyPost_ret (v := .tuple #[.int .i64 71, .int .i64 L2.length]) (by simp [results, Tryd.results16, go_sem]) rfl ?_
          exact .bad HN.out HRT.out HB.out
        · have HM := hideIt hm
          have HOr := hideIt (own_grownB HO5.out HBB.out.2)
          go_wp2
          go_loopw [12] (fun i wr => ∃ (k : Nat) (Lk : List Pc), k ≤ L2.length ∧ i = .int .i64 k ∧ Hid (UpdTo L2 fk tk s k Lk ∧ wr.ownsRow w.heap.size 39 3 (.slice (some ⟨g, 0, none⟩) L2.length cap) L2.length (pcsCells Lk)) ∧ Hid (Below w.heap.size w wr)) (fun i _ => L2.length - (intOf i).toNat)
          case atStart => exact ⟨0, L2, Nat.zero_le _, rfl, hideIt ⟨upd_zero _ _ _ _, HOr.out⟩, HB⟩
          case round =>
            obtain ⟨k, Lk, hk, rfl, HG, HB⟩ := hrel
            by_cases hlt : k < L2.length
            · obtain ⟨x, hx⟩ : ∃ x, L2[k]? = some x := ⟨L2[k], by simp [hlt]⟩
              have hxk := upd_at HG.out.1 hx
              have hlk : Lk.length = L2.length := HG.out.1.1
              have hin : PcsIn wr (fun k => (Value.slice (some ⟨g, 0, none⟩) L2.length cap).ownBlock = some k) (.slice (some ⟨g, 0, none⟩) Lk.length cap) Lk := by
                have h := own_in HG.out.2
                unfold PcsIn
                rw [hlk]; exact h
              obtain ⟨_, _, e9, _, c0, c1, c2⟩ := PcsIn.at hin hxk
              cases e9
              have f1 := World.ownsRow.frozenAt HG.out.2 (k * 3 + 1)
              have f2 := World.ownsRow.frozenAt HG.out.2 (k * 3 + 2)
              have HPUT := hideIt (own_put (v := s) (m := x.2.2 + 1) HG.out.2 hxk)
              have HX := hideIt hx
              have hok := cut_ok HR.out.to HC2.out (cut_ok HR.out.1 HC1.out (fun p hp => HF.out.ok hp)) x (List.mem_of_getElem? hx)
              have hwe : IntKind.i64.wrap (x.2.2 + 1) = x.2.2 + 1 := by have h1 := hok.2.2.2.1; have h2 := hok.2.2.2.2; simp [IntKind.wrap, IntKind.bits, IntKind.signed]; omega
              rw [Nat.zero_add] at c0 c1 c2
              clear hx hxk hlk hin hok
              cases g1 : Op.bytesLess x.1 fk with
              | true =>
                have HN : Hid (UpdTo L2 fk tk s (k + 1) Lk) := hideIt (upd_skip HG.out.1 HX.out (by
                  cases hh : inR fk tk x.1 with
                  | false => rfl
                  | true => exact absurd hh (fun h => (by have h9 := (inR_iff.1 h).1; exact absurd g1 h9))))
                go_wp2
                exact ⟨⟨k + 1, Lk, by omega, by go_num, hideIt ⟨HN.out, HG.out.2⟩, HB⟩, by simp [intOf]; omega⟩
              | false =>
                cases g3 : Op.bytesLess x.1 tk with
                | false =>
                  have HN : Hid (UpdTo L2 fk tk s (k + 1) Lk) := hideIt (upd_skip HG.out.1 HX.out (by
                    cases hh : inR fk tk x.1 with
                    | false => rfl
                    | true => exact absurd hh (fun h => (by rcases (inR_iff.1 h).2 with h9 | h9; exact absurd h9 HTN.out; unfold kLt at h9; rw [g3] at h9; cases h9))))
                  go_wp2
                  exact ⟨⟨k + 1, Lk, by omega, by go_num, hideIt ⟨HN.out, HG.out.2⟩, HB⟩, by simp [intOf]; omega⟩
                | true =>
                  have HN : Hid (UpdTo L2 fk tk s (k + 1) (Lk.set k (x.1, s, x.2.2 + 1))) := hideIt (upd_set HG.out.1 HX.out (inR_iff.2 ⟨fun h => (by unfold kLt at h; rw [g1] at h; cases h), Or.inr g3⟩))
                  go_wp2
                  exact ⟨⟨k + 1, _, by omega, by go_num, hideIt ⟨HN.out, HPUT.out.1⟩, hideIt (HB.out.grown HPUT.out.2 HB.out.size (fun j hj => by cases hj; exact HBG.out))⟩, by simp [intOf]; omega⟩
            · obtain rfl : k = L2.length := by omega
              have hall := upd_all HG.out.1
              subst hall
              have HN : Hid (MoveIs l fk tk s 0 0 (L2.map (updP fk tk s))) := hideIt (Or.inr (Or.inr ⟨HR.out, HS.out, L1, L2, HC1.out, HC2.out, Or.inr (Or.inr ⟨HNB.out, by have := HM.out; omega, rfl, rfl, rfl⟩)⟩))
              have hpl : p < w.heap.size := Rt.lt HRT.out
              have hpb := HB.out.block p hpl
              have t0 := (World.cell?_of_block (a := ⟨p, 0, none⟩) hpb).trans HC0.out.1
              have t1 := (World.frozen?_of_block (a := ⟨p, 0, none⟩) hpb).trans HC0.out.2.1
              clear hpb
              go_wp2
              refine bodyPost_ret (v := .tuple #[.int .i64 0, .int .i64 0]) (by simp [results, Tryd.results16, go_sem]) rfl ?_
              have hgr : wr.grownBy (wr.setCell ⟨p, 0, none⟩ (.slice (some ⟨g, 0, none⟩) L2.length cap)) (some p) := grown_set (grown_refl _ _) _ _
              have hml : (L2.map (updP fk tk s)).length = L2.length := List.length_map _
              have hgp : g ≠ p := fun e => by have := HBG.out; omega
              refine ⟨0, 0, _, rfl, HN.out, ⟨_, World.cell?_setCell_same _ _ _ t0, by rw [World.frozen?_setCell]; exact t1, ⟨?_, ?_⟩, ?_⟩, World.grownBy.trans (grown_below HB.out _) hgr⟩
              · unfold PcsIn
                rw [hml]
                exact RowIn.mono (RowIn.kept (own_in HG.out.2) (Kept.of_grown hgr (fun e => hgp (by cases e; rfl)))) (fun k hk _ => Or.inr (by cases hk; exact HBG.out))
              · intro a' c' e
                rw [hml] at e ⊢
                cases e; exact hcap
              · rintro (h | h)
                · exact HC0.out.2.2 h
                · omega
end Go.Proofs.YtafhmbgnldmedaaDoor
