/-
  What is proved here: txn's Shards: the shards of a transaction's keys, risen, each once; over this program.
-/
import Derived.Test.YtohlepbfjgehgaaGreatDoorTQ
import Derived.Test.YtohlepbfjgehgaaGreatDoorJ5
import Derived.Sort.OwnSortedInts
namespace Go.Proofs.YtohlepbfjgehgaaGreatDoor
open Go.RowKit Go.Extern.Stop Go.Stop Go.Extern Go.Sort

def intsC (l : List Int) : List Value := l.map (Value.int .i64)
def risenI (T : List Int) : List Int := Lib.compact (T.mergeSort fun x y => decide (x ≤ y))
theorem risenI_mem (T : List Int) (k : Int) : k ∈ risenI T ↔ k ∈ T := by
  unfold risenI
  rw [compact_mem, List.mem_mergeSort]
theorem risenI_rise (T : List Int) : (risenI T).Pairwise (· < ·) := by
  unfold risenI Lib.compact
  have hp : (T.mergeSort fun x y => decide (x ≤ y)).Pairwise (fun a b => decide (a ≤ b) = true) := List.pairwise_mergeSort (le := fun x y : Int => decide (x ≤ y)) (fun a b c h1 h2 => by simp only [decide_eq_true_eq] at *; omega) (fun a b => by
    simp only [Bool.or_eq_true, decide_eq_true_eq]; omega) T
  refine upTo_rise (fun a b : Int => a < b) _ (fun i j hij hj => ?_) (fun a b c h1 h2 => by omega) (fun a b h1 h2 => by omega) _ (by simp)
  have hj' : j < (T.mergeSort fun x y => decide (x ≤ y)).length := by simpa using hj
  have := (List.pairwise_iff_getElem.1 hp) i j (by omega) hj' hij
  simp only [decide_eq_true_eq] at this
  have h2 : ¬ (T.mergeSort fun x y => decide (x ≤ y))[j] < (T.mergeSort fun x y => decide (x ≤ y))[i]'(by omega) := by omega
  simpa [show i < T.length by simp at hj'; omega, show j < T.length by simpa using hj'] using h2
theorem risenI_len (T : List Int) : (risenI T).length ≤ T.length := by
  have := Lib.compact_length_le (T.mergeSort fun x y => decide (x ≤ y))
  unfold risenI
  simpa using this
theorem own_compactI {w : World} {base g cap q : Nat} {e : TypeId} {cur : Array Value} {zs ys : List Int} {n : Nat} (hn : n ≤ zs.length) (hy : zs.length ≤ cap) (hbase : base ≤ g) (hb : w.heap[g]? = some (.cells cur e (0, 0)))
    (h2 : cap ≤ maxLen) (h3 : cur.size = cap * 1) (hys : zs.take n = ys) (hyl : ys.length = n) :
    (putRow (Value.int .i64) (Sort.ahead w q) g 0 zs.toArray).ownsRow base e 1 (.slice (some ⟨g, 0, none⟩) n cap) n (intsC ys) ∧ w.grownBy (putRow (Value.int .i64) (Sort.ahead w q) g 0 zs.toArray) (some g) := by
  have h := ownsRow_sortedI (n := q) (os := #[]) (ss := zs) (ts := zs) rfl hbase hb hy h2 h3
  have hg := grownBy_sortedI (w := w) (g := g) (n := q) (os := #[]) zs.toArray
  rw [grow_none] at h hg
  refine ⟨⟨by simp [intsC, hyl], Or.inr ?_⟩, hg⟩
  rcases h.2 with ⟨e1, _⟩ | ⟨g', cap', cur', e1, e2, e3, e4, e5, e6, e7⟩
  · cases e1
  · simp only [Value.slice.injEq, Option.some.injEq, Addr.mk.injEq] at e1
    obtain ⟨⟨rfl, _⟩, _, rfl⟩ := e1
    refine ⟨g, cap, cur', rfl, e2, e3, by omega, e5, e6, ?_⟩
    rw [Nat.mul_one] at e7 ⊢
    have := congrArg (List.take n) e7
    rw [List.take_take, Nat.min_eq_left hn] at this
    rw [this, ← List.map_take, hys]
    rfl

set_option maxRecDepth 100000 in
set_option maxHeartbeats 8000000 in
theorem txroI_any (w : World) (B : Nat) (v : Value) (T : List Int) (ho : w.ownsRow B 3 1 v T.length (intsC T)) (hB : B ≤ w.heap.size) (hT : T.length ≤ 1000000) :
    Calls Tryz.prog 62 #[v] w fun e w' => ∃ z, e = .returned z ∧ w'.ownsRow B 3 1 z (risenI T).length (intsC (risenI T)) ∧ w.grownBy w' v.ownBlock := by
  rcases ho.2 with ⟨rfl, hn0⟩ | ⟨g, cap, cur, rfl, hbase, hb, h1, h2, h3, h4⟩
  · have hT0 : T = [] := List.eq_nil_of_length_eq_zero hn0
    subst hT0
    clear ho hn0
    go_enter Tryz.func62, Tryz.ntmps62
    go_wp2_with fail
    refine (Tryz.slices_Sort_int_none none 0 w).mono ?_
    rintro e w1 ⟨rfl, rfl⟩
    go_wp2_with fail
    refine (Tryz.slices_Compact_int_empty none 0 w1).mono ?_
    rintro e w2 ⟨rfl, rfl⟩
    go_wp2
    go_ret
    rw [show risenI [] = [] from List.eq_nil_of_length_eq_zero (Nat.le_zero.1 (risenI_len []))]
    exact ⟨_, rfl, World.ownsRow_nil _ _ _ _, grown_refl _ _⟩
  · obtain ⟨S, hS⟩ : ∃ S, (T.mergeSort fun x y => decide (x ≤ y)) = S := ⟨_, rfl⟩
    have hSl : S.length = T.length := by rw [← hS]; simp
    have hH : Holds (Value.int .i64) w g 0 T.toArray := holds_of_blockI hb (by simpa [intsC] using h4)
    have hgl : g < w.heap.size := (Array.getElem?_eq_some_iff.1 hb).1
    have HCL := hideIt (Tryz.slices_Sort_int g 0 cap T w hH hgl (by omega))
    rw [hS] at HCL
    have HRW : Hid (∀ n os, (grow (putRow (Value.int .i64) (Sort.ahead w n) g 0 S.toArray) os).ownsRow B 3 1 (.slice (some ⟨g, 0, none⟩) T.length cap) T.length (S.map (Value.int .i64))) := hideIt fun n os => ownsRow_sortedI hSl hbase hb h1 h2 h3
    have HBG := hideIt hbase
    have HR : Hid (risenI T = Lib.compact S) := hideIt (by unfold risenI; rw [hS])
    have HSL := hideIt hSl
    have HCAP := hideIt (And.intro h1 (And.intro h2 hT))
    clear ho hb h1 h2 h3 h4 hH hgl hbase hS hSl hT
    go_enter Tryz.func62, Tryz.ntmps62
    go_wp2_with fail
    refine HCL.out.mono ?_
    rintro e w1 ⟨rfl, nn, os, hw1⟩
    have HRO := hideIt (HRW.out nn os)
    have HG1 : Hid (w.grownBy w1 (some g)) := hideIt (by rw [hw1]; exact grownBy_sortedI _)
    rw [← hw1] at HRO
    clear hw1 HCL HRW
    rcases HRO.out.2 with ⟨e0, _⟩ | ⟨g', cap', cur', e1, k1, k2, k3, k4, k5, k6⟩
    · cases e0
    simp only [Value.slice.injEq, Option.some.injEq, Addr.mk.injEq] at e1
    obtain ⟨⟨e1, _⟩, _, e2⟩ := e1
    subst e1 e2
    have hH : Holds (Value.int .i64) w1 g 0 S.toArray := holds_of_blockI k2 (by rw [HSL.out]; simpa using k6)
    have hCC := Tryz.slices_Compact_int g 0 cap S w1 hH (by have := HSL.out; have := HCAP.out; omega) (by have := HSL.out; have := HCAP.out; omega)
    rw [HSL.out, ← HR.out] at hCC
    have HCC := hideIt hCC
    have hrl : (risenI T).length ≤ T.length := risenI_len T
    have HK : Hid (∀ q, (putRow (Value.int .i64) (Sort.ahead w1 q) g 0 ((risenI T ++ List.replicate (T.length - (risenI T).length) 0) : List Int).toArray).ownsRow B 3 1 (.slice (some ⟨g, 0, none⟩) (risenI T).length cap) (risenI T).length (intsC (risenI T)) ∧ w1.grownBy (putRow (Value.int .i64) (Sort.ahead w1 q) g 0 ((risenI T ++ List.replicate (T.length - (risenI T).length) 0) : List Int).toArray) (some g)) := hideIt fun q =>
      own_compactI (by simp) (by simp; have := HCAP.out; omega) k1 k2 k4 k5 (by simp) rfl
    clear k1 k2 k3 k4 k5 k6 hH hCC hrl
    go_wp2_with fail
    refine HCC.out.mono ?_
    rintro e w2 ⟨rfl, q, hw2⟩
    have HK2 := hideIt (HK.out q)
    rw [← hw2] at HK2
    clear hw2 HK HCC
    go_wp2
    go_ret
    exact ⟨_, rfl, HK2.out.1, grown_trans HG1.out HK2.out.2⟩

set_option maxRecDepth 100000 in
set_option maxHeartbeats 16000000 in
theorem txShards_any (w : World) (A A2 : Nat → Prop) (p : Nat) (L : List Pc) (c n : Int) (rv wv : Value) (rs : List Rd) (ws : List Wr) (hrt : Rt w p A L) (hf : FitP L) (hr : RdsIn w A2 rv rs) (hw : WrsIn w A2 wv ws) (hrl : rs.length ≤ 10000) (hwl : ws.length ≤ 10000) :
    Calls Tryz.prog 21 #[.agg #[.int .i64 c, .int .i64 n, rv, wv], .pointer (some ⟨p, 0, none⟩)] w fun e w' => ∃ (z : Value) (was : List Pc), e = .returned z ∧ Told9 L (txK rs ws) (txK rs ws).length was ∧ w'.ownsRow w.heap.size 3 1 z (risenI (was.map (·.2.1))).length (intsC (risenI (was.map (·.2.1)))) ∧ Below w.heap.size w w' := by
  obtain ⟨i0, hi, hi2⟩ := Option.map_eq_some_iff.1 infoI
  obtain ⟨hz0, hz1, hz2⟩ : i0.zero = some (.int .i64 0) ∧ i0.size = 1 ∧ i0.bytes = 8 := by
    simp only [Prod.mk.injEq] at hi2; exact hi2
  have HI := hideIt (And.intro hi (And.intro hz0 (And.intro hz1 hz2)))
  have HRV := hideIt (RowIn.lt hr)
  have HWV := hideIt (RowIn.lt hw)
  have HLN : Hid (rs.length ≤ 10000 ∧ ws.length ≤ 10000) := hideIt ⟨hrl, hwl⟩
  obtain ⟨ar, cr, rfl⟩ := hr.form
  obtain ⟨aw, cw, rfl⟩ := hw.form
  have HFP := hideIt hf
  have hT := T4.new w 25 (.int .i64 c) (.int .i64 n) (.slice ar rs.length cr) (.slice aw ws.length cw)
  obtain ⟨W, hW⟩ : ∃ W, W = w.alloc (.cells #[.int .i64 c, .int .i64 n, .slice ar rs.length cr, .slice aw ws.length cw] 25) := ⟨_, rfl⟩
  have hwb : Below w.heap.size w W := by rw [hW]; exact (Below.refl _ _).alloc (Nat.le_refl _) _
  rw [← hW] at hT
  have HTT := hideIt hT
  have HRT := hideIt (hrt.next hwb)
  have HB0 := hideIt hwb
  have hne : ¬ (L.length : Int) = 0 := by have := hf.few; have := List.length_pos_iff.2 hf.one; omega
  have hle : L.length ≤ 100000 := by have := hf.few; omega
  clear hi hi2 hz0 hz1 hz2 hr hw hrl hwl hrt hf hT hwb
  go_enter Tryz.func21, Tryz.ntmps21
  go_wp2_with fail
  rw [← hW]
  clear hW
  refine (rqPieces_any W p A L HRT.out hle).mono ?_
  rintro e w1 ⟨z1, rfl, ho1, hb1⟩
  obtain ⟨a1, c1, rfl⟩ := own_form ho1
  have HRT1 := hideIt (HRT.out.next hb1)
  have HT1 := hideIt (HTT.out.next hb1)
  have HB1 := hideIt (HB0.out.trans (hb1.mono HB0.out.size))
  have x0 := HT1.out.1.1
  have x1 := HT1.out.1.2.1
  have x2 := HT1.out.1.2.2.1
  have x3 := HT1.out.1.2.2.2
  clear ho1 hb1 HRT HTT HB0
  go_wp2_with fail
  refine (txKeys_any w1 _ c n _ _ rs ws (RowIn.low HRV.out HB1.out) (RowIn.low HWV.out HB1.out) HLN.out.1 HLN.out.2).mono ?_
  rintro e w2 ⟨z2, rfl, ho2, hb2⟩
  obtain ⟨T, hT⟩ : ∃ T, T = txK rs ws := ⟨_, rfl⟩
  have HTL : Hid (T.length ≤ 20000) := hideIt (by rw [hT]; have h1 := txK_len rs ws; have := HLN.out; omega)
  have HTK := hideIt hT
  rw [← hT] at ho2
  have HK2 : Hid (SIn w2 (· < w2.heap.size) z2 T) := hideIt (RowIn.lt (SIn.of_own ho2 rfl))
  obtain ⟨a2, c2, rfl⟩ := own_form ho2
  have HRT2 := hideIt (HRT1.out.next hb2)
  have HB2 := hideIt (HB1.out.trans (hb2.mono HB1.out.size))
  clear ho2 hb2 HRT1 HT1 HB1 x0 x1 x2 x3 hT HRV HWV HLN hne hle
  go_wp2
  go_loopw [5, 19] (fun ov i wr => ∃ (k : Nat) (aa : Option Addr) (ac : Nat) (was : List Pc), k ≤ T.length ∧ i = .int .i64 k ∧ ov = .slice aa k ac ∧ Hid (Told9 L T k was) ∧ Hid (wr.ownsRow w2.heap.size 3 1 (.slice aa k ac) k (intsC (was.map (·.2.1)))) ∧ Hid (Below w2.heap.size w2 wr)) (fun _ i _ => T.length - (intOf i).toNat)
  case atStart => exact ⟨0, none, 0, [], Nat.zero_le _, rfl, rfl, told9_nil _ _, World.ownsRow_nil _ _ _ _, Below.refl _ _⟩
  case round =>
    obtain ⟨k, aa, ac, was, hk, rfl, rfl, HTO, HR, HB⟩ := hrel
    have htl := HTL.out
    by_cases hlt : k < T.length
    · obtain ⟨s, hs⟩ : ∃ s, T[k]? = some s := ⟨T[k], by simp [hlt]⟩
      obtain ⟨b, off, rfl, _, d0⟩ := SIn.at (RowIn.low HK2.out HB.out) hs
      have HSK := hideIt hs
      clear hs
      go_wp2_with fail
      refine (rqOwner_any wr p A L s (HRT2.out.next HB.out) HFP.out.lin (by have := HFP.out.few; omega)).mono ?_
      rintro e w3 ⟨x, rfl, hx, hb3⟩
      unfold pcV
      have HTO3 := hideIt (told9_snoc HTO.out HSK.out hx)
      have hfd : ∀ w : World, (Instr.field 62 (.agg #[.string ⟨x.1.toArray⟩, .int .i64 x.2.1, .int .i64 x.2.2]) 1).run Tryz.prog w = .ok (.int .i64 x.2.1) w := fun _ => by kernel_rfl
      have HO3 : Hid (w3.ownsRow w2.heap.size 3 1 (.slice aa k ac) k (intsC (was.map (·.2.1)))) := hideIt (ownsRow_of_block HR.out (fun g hg => hb3.block g (ownsRow_lt HR.out hg)))
      have HB3 := hideIt (HB.out.trans (hb3.mono HB.out.size))
      have hs3 : w2.heap.size ≤ w3.heap.size := HB3.out.size
      clear hb3 hx d0 HTO
      go_wp2_with (at_builtin; refine wpList_append_own_at _ rfl _ _ 59 rfl w2.heap.size 3 i0 (.int .i64 0) 1 8 Tryz.underlying59 HI.out.1 HI.out.2.1 HI.out.2.2.1 HI.out.2.2.2 rfl (by decide) _ _ _ rfl (HO3.out.alloc _) ⟨w3.heap.size, 0, none⟩ 1 1 [.int .i64 x.2.1] rfl rfl ?k1 ?k2 ?k3 ?k4 ?k5 ?_)
      case k1 => exact cell_one_new _ _ _
      case k2 => intro u hu; simp at hu; subst hu; rfl
      case k3 => unfold maxLen; omega
      case k4 => omega
      case k5 => simp; omega
      intro v' w5 hown' hgrow _ _
      have HG5 := hideIt (grown_trans (World.grownBy_alloc w3 _ _) hgrow)
      have HO5 : Hid (w5.ownsRow w2.heap.size 3 1 v' (k + 1) (intsC ((was ++ [x]).map (·.2.1)))) := hideIt (by simpa [intsC] using hown')
      obtain ⟨a', cap', hv'⟩ := own_form hown'
      subst hv'
      clear hown' hgrow
      go_wp2
      refine ⟨⟨k + 1, a', cap', was ++ [x], by omega, by go_num, rfl, HTO3, HO5.out, ?_⟩, by simp [intOf]; omega⟩
      exact HB3.out.grown HG5.out (by have := HB3.out.size; omega) (fun j hj => (HO3.out.lt j hj).1)
    · have ek : k = T.length := by omega
      have HTO2 : Hid (Told9 L T T.length was) := by rw [← ek]; exact HTO
      have hwl : was.length = k := HTO.out.1
      have HR2 : Hid (wr.ownsRow w2.heap.size 3 1 (.slice aa k ac) (was.map (·.2.1)).length (intsC (was.map (·.2.1)))) := hideIt (by rw [List.length_map, hwl]; exact HR.out)
      have HLW : Hid ((was.map (·.2.1)).length ≤ 1000000) := hideIt (by rw [List.length_map, hwl]; omega)
      clear HR HTO hwl
      go_wp2_with fail
      refine (txroI_any wr w2.heap.size _ (was.map (·.2.1)) (by rw [← ek]; exact HR2.out) HB.out.size HLW.out).mono ?_
      rintro e w6 ⟨z6, rfl, ho6, hg6⟩
      have HO6 := hideIt (own_mono ho6 HB2.out.size)
      have HB6 := hideIt (HB2.out.trans ((HB.out.grown hg6 (by have := HB.out.size; omega) (fun j hj => by rw [← ek] at hj; exact (HR2.out.lt j hj).1)).mono HB2.out.size))
      obtain ⟨a6, c6, rfl⟩ := own_form ho6
      clear ho6 hg6
      go_wp2
      go_ret
      have hto := HTO2.out
      rw [HTK.out] at hto
      exact ⟨_, was, rfl, hto, HO6.out, HB6.out⟩
end Go.Proofs.YtohlepbfjgehgaaGreatDoor
