/-
  What is proved here: route's Move; over this program.
-/
import Derived.Test.YtafhmbgnldmedaaDoorPI
namespace Go.Proofs.YtafhmbgnldmedaaDoor
open Go.RowKit Go.Extern.Stop Go.Stop Go.Extern

/-- a piece's shard and epoch, written where it lies -/
theorem own_put {w : World} {B g n cap : Nat} {l : List Pc} {a : Nat} {o : Pc} {v m : Int} (h : w.ownsRow B 39 3 (.slice (some ⟨g, 0, none⟩) n cap) n (pcsCells l)) (ho : l[a]? = some o) :
    ((w.setCell ⟨g, a * 3 + 1, none⟩ (.int .i64 v)).setCell ⟨g, a * 3 + 2, none⟩ (.int .i64 m)).ownsRow B 39 3 (.slice (some ⟨g, 0, none⟩) n cap) n (pcsCells (l.set a (o.1, v, m))) ∧ w.grownBy ((w.setCell ⟨g, a * 3 + 1, none⟩ (.int .i64 v)).setCell ⟨g, a * 3 + 2, none⟩ (.int .i64 m)) (some g) := by
  have k1 := World.ownsRow.stored h (a * 3 + 1) (.int .i64 v)
  have k2 := World.ownsRow.stored k1.1 (a * 3 + 2) (.int .i64 m)
  refine ⟨?_, World.grownBy.trans k1.2 k2.2⟩
  rw [pcsCells_at3 ho]
  exact k2.1
/-- what Move comes to -/
def MovePost (w : World) (p : Nat) (A : Nat → Prop) (l : List Pc) (fk tk : List UInt8) (s : Int) (e : Ending) (w' : World) : Prop :=
  ∃ n k l' er, e = .returned er ∧ MoveIs l fk tk s n k l' ∧ ((n = 0 ∧ er = .nilIface) ∨ (n ≠ 0 ∧ One w' (w.heap.size ≤ ·) er n routeS k)) ∧ Rt w' p (fun b => A b ∨ w.heap.size ≤ b) l' ∧ w.grownBy w' (some p)
theorem MovePost.bad {w w' : World} {p : Nat} {A : Nat → Prop} {l : List Pc} {fk tk : List UInt8} {s n k : Int} {er : Value} (hm : MoveIs l fk tk s n k l) (hn : n ≠ 0) (ho : One w' (w.heap.size ≤ ·) er n routeS k) (hr : Rt w p A l) (hb : Below w.heap.size w w') : MovePost w p A l fk tk s (.returned er) w' :=
  ⟨n, k, l, er, rfl, hm, Or.inr ⟨hn, ho⟩, (hr.next hb).mono (fun _ h _ => Or.inl h) (fun h => by
    have hl := Rt.lt hr
    obtain ⟨_, _, _, _, h4⟩ := hr
    rcases h with h | h
    · exact h4 h
    · omega), grown_below hb _⟩
/-- the first m pieces of the range were given -/
def GivenTo (l : List Pc) (a m : Nat) (s : Int) (k : List Pc) : Prop := k.length = l.length ∧ ∀ j x, l[j]? = some x → k[j]? = some (if a ≤ j ∧ j < a + m then (x.1, s, x.2.2 + 1) else x)
theorem given_zero (l : List Pc) (a : Nat) (s : Int) : GivenTo l a 0 s l := ⟨rfl, fun j x hx => by rw [if_neg (by omega)]; exact hx⟩
theorem given_succ {l k : List Pc} {a m : Nat} {s : Int} {o : Pc} (h : GivenTo l a m s k) (ho : l[a + m]? = some o) : k[a + m]? = some o ∧ GivenTo l a (m + 1) s (k.set (a + m) (o.1, s, o.2.2 + 1)) := by
  have h1 := h.2 _ _ ho
  rw [if_neg (by omega)] at h1
  refine ⟨h1, by rw [List.length_set]; exact h.1, fun j x hx => ?_⟩
  rw [List.getElem?_set]
  by_cases e : a + m = j
  · subst e
    rw [ho] at hx; cases hx
    rw [if_pos rfl, if_pos (List.getElem?_eq_some_iff.1 h1).1, if_pos (by omega)]
  · rw [if_neg e, h.2 j x hx]
    by_cases c : a ≤ j ∧ j < a + m
    · rw [if_pos c, if_pos (by omega)]
    · rw [if_neg c, if_neg (by omega)]
theorem in_range {l : List Pc} {fk tk : List UInt8} {a b j : Nat} {x : Pc} (hl : Lin l) (hbeg : ∃ q ∈ l, q.1 = fk) (ha : HoldIs l fk a) (hb : EndIs l tk b) (hx : l[j]? = some x) : inR fk tk x.1 = true ↔ a ≤ j ∧ j < b := by
  obtain ⟨q, hq, hqe⟩ := hbeg
  obtain ⟨i, hi⟩ := List.getElem?_of_mem hq
  have hia : i = a := by
    rcases Nat.lt_trichotomy i a with c | c | c
    · have h1 := hl.rise.at c hi (List.getElem?_eq_getElem ha.1)
      have h2 := ha.2.1 a _ (Nat.le_refl _) (List.getElem?_eq_getElem ha.1)
      rw [hqe] at h1; exact absurd h1 h2
    · exact c
    · have h1 := ha.2.2 i q c hi
      rw [hqe] at h1; exact absurd h1 (kLt_irrefl _)
  subst hia
  rw [inR_iff]
  constructor
  · rintro ⟨h1, h2⟩
    refine ⟨Classical.byContradiction fun c => ?_, Classical.byContradiction fun c => ?_⟩
    · have h3 := hl.rise.at (show j < i by omega) hx hi
      rw [hqe] at h3; exact h1 h3
    · obtain ⟨h3, h4⟩ := end_up hb (show b ≤ j by omega) hx
      rcases h2 with h2 | h2
      · exact h3 h2
      · exact h4 h2
  · rintro ⟨h1, h2⟩
    refine ⟨fun h3 => ?_, end_low hb h2 hx⟩
    by_cases e : i = j
    · subst e; rw [hi] at hx; cases hx
      rw [hqe] at h3; exact kLt_irrefl _ h3
    · have h4 := hl.rise.at (show i < j by omega) hi hx
      rw [hqe] at h4; exact kLt_asymm h4 h3
theorem given_all {l k : List Pc} {fk tk : List UInt8} {a b : Nat} {s : Int} (hl : Lin l) (hbeg : ∃ q ∈ l, q.1 = fk) (ha : HoldIs l fk a) (hb : EndIs l tk b) (hab : a < b) (h : GivenTo l a (b - a) s k) : k = l.map (updP fk tk s) := by
  refine List.ext_getElem? fun j => ?_
  rw [List.getElem?_map]
  cases hx : l[j]? with
  | none =>
    rw [List.getElem?_eq_none_iff] at hx
    rw [List.getElem?_eq_none (by rw [h.1]; exact hx)]; rfl
  | some x =>
    rw [h.2 j x hx]
    have h1 := in_range hl hbeg ha hb hx
    show some _ = some (updP fk tk s x)
    unfold updP
    by_cases c : inR fk tk x.1 = true
    · rw [if_pos c, if_pos (by have := h1.1 c; omega)]
    · rw [if_neg c, if_neg (fun c2 => c (h1.2 ⟨c2.1, by omega⟩))]
theorem big_range {l : List Pc} {fk tk : List UInt8} {a b : Nat} (hl : Lin l) (hbeg : ∃ q ∈ l, q.1 = fk) (ha : HoldIs l fk a) (hb : EndIs l tk b) : anyBig ((l.drop a).take (b - a)) = true ↔ ∃ p ∈ l, inR fk tk p.1 = true ∧ 1099511627776 ≤ p.2.2 := by
  rw [anyBig_iff]
  constructor
  · rintro ⟨p, hp, h1⟩
    obtain ⟨i, hi, hpi⟩ := mem_upto hp
    rw [List.getElem?_drop] at hpi
    exact ⟨p, List.mem_of_getElem? hpi, (in_range hl hbeg ha hb hpi).2 ⟨by omega, by omega⟩, h1⟩
  · rintro ⟨p, hp, hin, h1⟩
    obtain ⟨j, hj⟩ := List.getElem?_of_mem hp
    obtain ⟨h2, h3⟩ := (in_range hl hbeg ha hb hj).1 hin
    refine ⟨p, List.mem_of_getElem? (i := j - a) ?_, h1⟩
    rw [List.getElem?_take_of_lt (by omega), List.getElem?_drop, show a + (j - a) = j by omega]
    exact hj

set_option maxRecDepth 100000 in
set_option maxHeartbeats 8000000 in
theorem rqMove_any (w : World) (p : Nat) (A : Nat → Prop) (l : List Pc) (fk tk : List UInt8) (s : Int) (h : Rt w p A l) (hf : FitP l) :
    Calls Tryd.prog 15 #[.pointer (some ⟨p, 0, none⟩), .string ⟨fk.toArray⟩, .string ⟨tk.toArray⟩, .int .i64 s] w (MovePost w p A l fk tk s) := by
  have HRT := hideIt h
  have HF := hideIt hf
  have HISR := hideIt (rqisRange_any fk tk w)
  obtain ⟨rb, hrb⟩ : ∃ rb, rb = rangeB fk tk := ⟨_, rfl⟩
  rw [← hrb] at HISR
  have HRB := hideIt hrb
  have HISS := hideIt (rqisShard_any s w)
  obtain ⟨sb, hsb⟩ : ∃ sb, sb = shardB s := ⟨_, rfl⟩
  rw [← hsb] at HISS
  have HSB := hideIt hsb
  clear hrb hsb hf
  cases rb with
  | false =>
    have HN : Hid (MoveIs l fk tk s 91 0 l) := hideIt (Or.inl ⟨fun hh => (by have := rangeB_iff.2 hh; rw [← HRB.out] at this; cases this), rfl, rfl, rfl⟩)
    go_enter Tryd.func15, Tryd.ntmps15
    go_wp2_with fail
    refine HISR.out.mono ?_
    rintro e w1 ⟨rfl, rfl⟩
    go_wp2_with fail
    refine (rqwrong_any w1 91 0 (by decide)).mono ?_
    rintro e w9 ⟨er, rfl, ho, hb9⟩
    have HO := hideIt (And.intro ho hb9)
    obtain ⟨ty, y, rfl⟩ := ho.iface
    clear ho hb9
    go_wp2
    go_ret
    exact .bad HN.out (by decide) HO.out.1 HRT.out HO.out.2
  | true =>
  have HR := hideIt (rangeB_iff.1 HRB.out.symm)
  cases sb with
  | false =>
    have HN : Hid (MoveIs l fk tk s 1 s l) := hideIt (Or.inr (Or.inl ⟨HR.out, fun hh => (by have := shardB_iff.2 hh; rw [← HSB.out] at this; cases this), rfl, rfl, rfl⟩))
    go_enter Tryd.func15, Tryd.ntmps15
    go_wp2_with fail
    refine HISR.out.mono ?_
    rintro e w1 ⟨rfl, rfl⟩
    go_wp2_with fail
    refine HISS.out.mono ?_
    rintro e w2 ⟨rfl, rfl⟩
    go_wp2_with fail
    refine (rqwrong_any w2 1 s (by decide)).mono ?_
    rintro e w9 ⟨er, rfl, ho, hb9⟩
    have HO := hideIt (And.intro ho hb9)
    obtain ⟨ty, y, rfl⟩ := ho.iface
    clear ho hb9
    go_wp2
    go_ret
    exact .bad HN.out (by decide) HO.out.1 HRT.out HO.out.2
  | true =>
  have HS := hideIt (shardB_iff.1 HSB.out.symm)
  obtain ⟨v, c0, f0, hv, hA⟩ := h
  have HV := hideIt hv
  obtain ⟨va, vc, rfl⟩ := hv.1.form
  have hfew : l.length ≤ 100000 := by have := HF.out.few; omega
  have HC := hideIt (cloneP_any w A _ l HV.out.1 hfew)
  have HC0 := hideIt (And.intro c0 (And.intro f0 hA))
  clear hv f0 hA HRB HSB
  go_enter Tryd.func15, Tryd.ntmps15
  go_wp2_with fail
  refine HISR.out.mono ?_
  rintro e w1 ⟨rfl, rfl⟩
  go_wp2_with fail
  refine HISS.out.mono ?_
  rintro e w2 ⟨rfl, rfl⟩
  go_wp2_with fail
  refine HC.out.mono ?_
  rintro e w3 ⟨z, rfl, ho, hb3⟩
  have HZ := hideIt (And.intro ho hb3)
  have hs3 := hb3.size
  obtain ⟨az, cz, rfl⟩ := own_form ho
  clear ho hb3 c0
  go_wp2_with fail
  refine (rqcut_any w3 _ _ l fk HZ.out.1 hs3 HF.out.lin (by have := HF.out.few; omega)).mono ?_
  rintro e w4 ⟨v4, L1, rfl, hc1, ho4, hg4⟩
  have HB4 : Hid (Below w2.heap.size w2 w4) := hideIt (HZ.out.2.grown hg4 hs3 (fun k hk => (World.ownsRow.lt HZ.out.1 k hk).1))
  have hs4 := HB4.out.size
  have HL1 := hideIt (cut_lin HF.out.lin hc1)
  have HC1 := hideIt (And.intro hc1 ho4)
  have hlen1 : L1.length ≤ 33 := by have := (cut_len hc1).2; have := HF.out.few; omega
  obtain ⟨a4, c4, rfl⟩ := own_form ho4
  clear hc1 ho4 hg4
  go_wp2_with fail
  refine (rqcut_any w4 _ _ L1 tk HC1.out.2 hs4 HL1.out (by omega)).mono ?_
  rintro e w5 ⟨v5, L2, rfl, hc2, ho5, hg5⟩
  have HB5 : Hid (Below w2.heap.size w2 w5) := hideIt (HB4.out.grown hg5 hs4 (fun k hk => (World.ownsRow.lt HC1.out.2 k hk).1))
  have hs5 := HB5.out.size
  have HL2 := hideIt (cut_lin HL1.out hc2)
  have HC2 := hideIt (And.intro hc2 ho5)
  have HBEG : Hid (∃ q ∈ L2, q.1 = fk) := hideIt (by obtain ⟨q, hq, e⟩ := cut_begins HC1.out.1; exact ⟨q, (cut_mem hc2 q).2 (Or.inl hq), e⟩)
  have hlen2 : L2.length ≤ 34 := by have := (cut_len hc2).2; omega
  have hcc := own_capC ho5
  rcases own_row ho5 with ⟨_, h0⟩ | ⟨g, cap, cur, rfl, hBg, _⟩
  case inl => exact absurd (List.eq_nil_of_length_eq_zero h0) HL2.out.one
  have hcap := hcc _ _ rfl
  have HBG := hideIt hBg
  clear hc2 ho5 hg5 hcc hBg
  go_wp2_with fail
  refine (rqwithin_any w5 _ g 0 cap L2 fk tk (own_in HC2.out.2) hcap HL2.out (by omega) HR.out).mono ?_
  rintro e w6 ⟨a, b, ha, hb, hab, rfl, hb6⟩
  have HA := hideIt (And.intro ha (And.intro hb hab))
  have HB6 := hideIt (HB5.out.trans (hb6.mono hs5))
  have HO6 := hideIt (own_grownB HC2.out.2 hb6)
  have hbl := end_le hb
  clear ha hb hb6
  go_wp2_with fail
  have hsub := PcsIn.sub (a := a) (b := b) (own_in HO6.out) hbl
  rw [Nat.zero_add] at hsub
  refine (cFuncP_any _ _ _ w6 hsub (by unfold maxLen; rw [List.length_take, List.length_drop]; omega)).mono ?_
  rintro e w7 ⟨rfl, hb7⟩
  have HB7 := hideIt (HB6.out.trans (hb7.mono HB6.out.size))
  have HO7 := hideIt (own_grownB HO6.out hb7)
  have HBIG := hideIt (big_range HL2.out HBEG.out HA.out.1 HA.out.2.1)
  obtain ⟨big, hbig⟩ : ∃ big, big = anyBig ((L2.drop a).take (b - a)) := ⟨_, rfl⟩
  rw [← hbig] at HBIG ⊢
  clear hb7 hbig hsub
  cases big with
  | true =>
    have HN : Hid (MoveIs l fk tk s 1 (-1) l) := hideIt (Or.inr (Or.inr ⟨HR.out, HS.out, L1, L2, HC1.out.1, HC2.out.1, Or.inl ⟨HBIG.out.1 rfl, rfl, rfl, rfl⟩⟩))
    go_wp2_with fail
    refine (rqwrong_any w7 1 (-1) (by decide)).mono ?_
    rintro e w9 ⟨er, rfl, ho, hb9⟩
    have HO := hideIt (And.intro (ho.mono (A' := (w2.heap.size ≤ ·)) (fun k hk _ => Nat.le_trans HB7.out.size hk)) (HB7.out.trans (hb9.mono HB7.out.size)))
    obtain ⟨ty, y, rfl⟩ := ho.iface
    clear ho hb9
    go_wp2
    go_ret
    exact .bad HN.out (by decide) HO.out.1 HRT.out HO.out.2
  | false =>
  have HNB : Hid (∀ p ∈ L2, inR fk tk p.1 = true → p.2.2 < 1099511627776) := hideIt (fun q hq hin => Classical.byContradiction fun c => by
    have := HBIG.out.2 ⟨q, hq, hin, by omega⟩
    cases this)
  by_cases hm : (32 : Int) < (L2.length : Int)
  · have HN : Hid (MoveIs l fk tk s 71 L2.length l) := hideIt (Or.inr (Or.inr ⟨HR.out, HS.out, L1, L2, HC1.out.1, HC2.out.1, Or.inr (Or.inl ⟨HNB.out, by omega, rfl, rfl, rfl⟩)⟩))
    go_wp2_with fail
    refine (rqwrong_any w7 71 L2.length (by decide)).mono ?_
    rintro e w9 ⟨er, rfl, ho, hb9⟩
    have HO := hideIt (And.intro (ho.mono (A' := (w2.heap.size ≤ ·)) (fun k hk _ => Nat.le_trans HB7.out.size hk)) (HB7.out.trans (hb9.mono HB7.out.size)))
    obtain ⟨ty, y, rfl⟩ := ho.iface
    clear ho hb9
    go_wp2
    go_ret
    exact .bad HN.out (by decide) HO.out.1 HRT.out HO.out.2
  · obtain ⟨m, hmm⟩ : ∃ m, m = b - a := ⟨_, rfl⟩
    rw [← hmm]
    have HMM := hideIt hmm
    clear hmm
    have hmb : m ≤ 34 := by have := HMM.out; omega
    have hamb : a + m ≤ L2.length := by have := HMM.out; omega
    go_wp2
    go_loopw [46] (fun i wr => ∃ (k : Nat) (Lk : List Pc), k ≤ m ∧ i = .int .i64 k ∧ Hid (GivenTo L2 a k s Lk ∧ wr.ownsRow w2.heap.size 39 3 (.slice (some ⟨g, 0, none⟩) L2.length cap) L2.length (pcsCells Lk)) ∧ Hid (Below w2.heap.size w2 wr)) (fun i _ => m - (intOf i).toNat)
    case atStart => exact ⟨0, L2, Nat.zero_le _, rfl, hideIt ⟨given_zero _ _ _, HO7.out⟩, HB7⟩
    case round =>
      obtain ⟨k, Lk, hk, rfl, HG, HB⟩ := hrel
      by_cases hlt : k < m
      · obtain ⟨x, hx⟩ : ∃ x, L2[a + k]? = some x := ⟨L2[a + k]'(by omega), by simp [show a + k < L2.length by omega]⟩
        obtain ⟨hxk, hg2⟩ := given_succ HG.out.1 hx
        have HX := hideIt (And.intro hx (And.intro hxk hg2))
        have hlk : Lk.length = L2.length := HG.out.1.1
        have hin : PcsIn wr (fun k => (Value.slice (some ⟨g, 0, none⟩) L2.length cap).ownBlock = some k) (.slice (some ⟨g, 0, none⟩) Lk.length cap) Lk := by
          have h := own_in HG.out.2
          unfold PcsIn
          rw [hlk]; exact h
        obtain ⟨_, _, e9, _, c0, c1, c2⟩ := PcsIn.at hin hxk
        cases e9
        have ea : (a + k) * 3 = a * 3 + k * 3 := by omega
        have f1 := World.ownsRow.frozenAt HG.out.2 (a * 3 + k * 3 + 1)
        have f2 := World.ownsRow.frozenAt HG.out.2 (a * 3 + k * 3 + 2)
        have hput := own_put (v := s) (m := x.2.2 + 1) HG.out.2 hxk
        rw [Nat.zero_add, ea] at c0 c1 c2
        rw [ea] at hput
        have HPUT := hideIt hput
        have hb2 : x.2.2 ≤ 1099511627776 := by
          rcases (cut_mem HC2.out.1 x).1 (List.mem_of_getElem? hx) with h1 | ⟨q, hq, rfl⟩
          · rcases (cut_mem HC1.out.1 x).1 h1 with h2 | ⟨q, hq, rfl⟩
            · exact (HF.out.ok h2).2.2.2.2
            · exact (HF.out.ok (own_mem hq)).2.2.2.2
          · rcases (cut_mem HC1.out.1 q).1 (own_mem hq) with h2 | ⟨q2, hq2, rfl⟩
            · exact (HF.out.ok h2).2.2.2.2
            · exact (HF.out.ok (own_mem hq2)).2.2.2.2
        have hb1 : 1 ≤ x.2.2 := by
          rcases (cut_mem HC2.out.1 x).1 (List.mem_of_getElem? hx) with h1 | ⟨q, hq, rfl⟩
          · rcases (cut_mem HC1.out.1 x).1 h1 with h2 | ⟨q, hq, rfl⟩
            · exact (HF.out.ok h2).2.2.2.1
            · exact (HF.out.ok (own_mem hq)).2.2.2.1
          · rcases (cut_mem HC1.out.1 q).1 (own_mem hq) with h2 | ⟨q2, hq2, rfl⟩
            · exact (HF.out.ok h2).2.2.2.1
            · exact (HF.out.ok (own_mem hq2)).2.2.2.1
        have hwe : IntKind.i64.wrap (x.2.2 + 1) = x.2.2 + 1 := by simp [IntKind.wrap, IntKind.bits, IntKind.signed]; omega
        clear hx hxk hg2 hput hlk hin ea
        go_wp2
        exact ⟨⟨k + 1, _, by omega, by go_num, hideIt ⟨HX.out.2.2, HPUT.out.1⟩, hideIt (HB.out.grown HPUT.out.2 HB.out.size (fun j hj => by cases hj; exact HBG.out))⟩, by simp [intOf]; omega⟩
      · obtain rfl : k = m := by omega
        have hall := given_all HL2.out HBEG.out HA.out.1 HA.out.2.1 HA.out.2.2 (by rw [← HMM.out]; exact HG.out.1)
        subst hall
        have HN : Hid (MoveIs l fk tk s 0 0 (L2.map (updP fk tk s))) := hideIt (Or.inr (Or.inr ⟨HR.out, HS.out, L1, L2, HC1.out.1, HC2.out.1, Or.inr (Or.inr ⟨HNB.out, by omega, rfl, rfl, rfl⟩)⟩))
        have hpl : p < w2.heap.size := Rt.lt HRT.out
        have hpb := HB.out.block p hpl
        have t0 := (World.cell?_of_block (a := ⟨p, 0, none⟩) hpb).trans HC0.out.1
        have t1 := (World.frozen?_of_block (a := ⟨p, 0, none⟩) hpb).trans HC0.out.2.1
        clear hpb
        go_wp2
        go_ret
        have hgr : wr.grownBy (wr.setCell ⟨p, 0, none⟩ (.slice (some ⟨g, 0, none⟩) L2.length cap)) (some p) := grown_set (grown_refl _ _) _ _
        have hml : (L2.map (updP fk tk s)).length = L2.length := List.length_map _
        have hgp : g ≠ p := fun e => by have := HBG.out; omega
        refine ⟨0, 0, _, .nilIface, rfl, HN.out, Or.inl ⟨rfl, rfl⟩, ⟨_, World.cell?_setCell_same _ _ _ t0, by rw [World.frozen?_setCell]; exact t1, ⟨?_, ?_⟩, ?_⟩, World.grownBy.trans (grown_below HB.out _) hgr⟩
        · unfold PcsIn
          rw [hml]
          exact RowIn.mono (RowIn.kept (own_in HG.out.2) (Kept.of_grown hgr (fun e => hgp (by cases e; rfl)))) (fun k hk _ => Or.inr (by cases hk; exact HBG.out))
        · intro a' c' e
          rw [hml] at e ⊢
          cases e; exact hcap
        · rintro (h | h)
          · exact HC0.out.2.2 h
          · omega
end Go.Proofs.YtafhmbgnldmedaaDoor
