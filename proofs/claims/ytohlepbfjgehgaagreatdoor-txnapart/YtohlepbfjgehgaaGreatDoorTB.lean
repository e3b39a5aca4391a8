/-
  What is proved here: the keys of reads and writes; a list of texts of one's own, sorted, each once; over this program.
-/
import Derived.Test.YtohlepbfjgehgaaGreatDoorTA
import Derived.Test.YtohlepbfjgehgaaGreatDoorShelfT
namespace Go.Proofs.YtohlepbfjgehgaaGreatDoor
open Go.RowKit Go.Extern.Stop Go.Stop Go.Extern Go.Sort

set_option maxRecDepth 100000 in
set_option maxHeartbeats 4000000 in
theorem txreadKey_any (x : Rd) (w : World) : Calls Tryz.prog 29 #[rdV x] w fun e w' => e = .returned (.string ⟨x.1.toArray⟩) ∧ Below w.heap.size w w' := by
  unfold rdV
  obtain ⟨W, hW, hwb, _, c0, c1⟩ := room2 w 54 (.string ⟨x.1.toArray⟩) (.int .i64 x.2)
  have HB := hideIt hwb
  clear hwb
  subst hW
  go_enter Tryz.func29, Tryz.ntmps29
  go_wp2
  go_ret
  exact ⟨rfl, HB.out⟩
set_option maxRecDepth 100000 in
set_option maxHeartbeats 8000000 in
theorem txkoR_any (w : World) (A : Nat → Prop) (v : Value) (l : List Rd) (hv : RdsIn w A v l) (hl : l.length ≤ 100000) :
    Calls Tryz.prog 51 #[v, .func (.func 29) #[] #[]] w fun e w' => ∃ z, e = .returned z ∧ w'.ownsRow w.heap.size 9 1 z l.length (keyCells (l.map (·.1))) ∧ Below w.heap.size w w' := by
  obtain ⟨i0, hi, hi2⟩ := Option.map_eq_some_iff.1 infoStr
  obtain ⟨hz0, hz1, hz2⟩ : i0.zero = some (.string ⟨#[]⟩) ∧ i0.size = 1 ∧ i0.bytes = 16 := by
    simp only [Prod.mk.injEq] at hi2; exact hi2
  have HI := hideIt (And.intro hi (And.intro hz0 (And.intro hz1 hz2)))
  have HV : Hid (RdsIn w (· < w.heap.size) v l) := RowIn.mono (A' := (· < w.heap.size)) hv (fun _ _ h => h)
  obtain ⟨a, cap, rfl⟩ := RdsIn.form hv
  clear hi hi2 hz0 hz1 hz2 hv
  go_enter Tryz.func51, Tryz.ntmps51
  go_wp2
  go_loopw [5, 10] (fun ov i wr => ∃ (k : Nat) (aa : Option Addr) (ac : Nat), k ≤ l.length ∧ i = .int .i64 k ∧ ov = .slice aa k ac ∧ Hid (wr.ownsRow w.heap.size 9 1 (.slice aa k ac) k (keyCells ((l.take k).map (·.1)))) ∧ Hid (Below w.heap.size w wr)) (fun _ i _ => l.length - (intOf i).toNat)
  case atStart => exact ⟨0, none, 0, Nat.zero_le _, rfl, rfl, World.ownsRow_nil _ _ _ _, Below.refl _ _⟩
  case round =>
    obtain ⟨k, aa, ac, hk, rfl, rfl, HR, HB⟩ := hrel
    by_cases hlt : k < l.length
    · obtain ⟨x, hx⟩ : ∃ x, l[k]? = some x := ⟨l[k], by simp [hlt]⟩
      have HVr : Hid (RdsIn wr (· < w.heap.size) (.slice a l.length cap) l) := RowIn.kept HV.out (Kept.of_below HB.out (fun _ h _ => h))
      obtain ⟨b, off, rfl, _, c0, c1⟩ := RdsIn.at HVr.out hx
      have HT : Hid (keyCells ((l.take (k + 1)).map (·.1)) = keyCells ((l.take k).map (·.1)) ++ [encStr x.1]) := hideIt (by
        rw [List.take_succ_eq_append_getElem hlt, (List.getElem?_eq_some_iff.1 hx).2]; simp [keyCells])
      obtain ⟨W, hW, hwb, hws, d0, d1⟩ := room2 wr 54 (.string ⟨x.1.toArray⟩) (.int .i64 x.2)
      have HWB := hideIt hwb
      have HOW := hideIt (HR.out.alloc (.cells #[.string ⟨x.1.toArray⟩, .int .i64 x.2] 54))
      rw [← hW] at HOW
      have HC := hideIt (txreadKey_any x W)
      unfold rdV at HC
      have hsz : w.heap.size ≤ W.heap.size := by have := HB.out.size; omega
      clear hx HVr hwb
      go_wp2_with fail
      rw [← hW]
      clear hW
      refine HC.out.mono ?_
      rintro e w3 ⟨rfl, hb3⟩
      have HO3 : Hid (w3.ownsRow w.heap.size 9 1 (.slice aa k ac) k (keyCells ((l.take k).map (·.1)))) := hideIt (ownsRow_of_block HOW.out (fun g hg => hb3.block g (ownsRow_lt HOW.out hg)))
      have HB3 := hideIt ((HB.out.trans (HWB.out.mono HB.out.size)).trans (hb3.mono hsz))
      have hs3 : w.heap.size ≤ w3.heap.size := by have := hb3.size; omega
      clear hb3 c0 c1 d0 d1 hws
      go_wp2_with (at_builtin; refine wpList_append_own_at _ rfl _ _ 43 rfl w.heap.size 9 i0 (.string ⟨#[]⟩) 1 16 Tryz.underlying43 HI.out.1 HI.out.2.1 HI.out.2.2.1 HI.out.2.2.2 rfl (by decide) _ _ _ rfl (HO3.out.alloc _) ⟨w3.heap.size, 0, none⟩ 1 1 [encStr x.1] rfl rfl ?k1 ?k2 ?k3 ?k4 ?k5 ?_)
      case k1 => exact cell_one_new _ _ _
      case k2 => intro u hu; simp at hu; subst hu; rfl
      case k3 => unfold maxLen; omega
      case k4 => omega
      case k5 => simp; omega
      intro v' w5 hown' hgrow _ _
      have HG5 := hideIt (grown_trans (World.grownBy_alloc w3 _ _) hgrow)
      have HO5 : Hid (w5.ownsRow w.heap.size 9 1 v' (k + 1) (keyCells ((l.take (k + 1)).map (·.1)))) := hideIt (by rw [HT.out]; simpa using hown')
      obtain ⟨a', cap', hv'⟩ := own_form hown'
      subst hv'
      clear hown' hgrow
      go_wp2
      refine ⟨⟨k + 1, a', cap', by omega, by go_num, rfl, HO5.out, ?_⟩, by simp [intOf]; omega⟩
      exact HB3.out.grown HG5.out (by have := HB3.out.size; omega) (fun j hj => (HO3.out.lt j hj).1)
    · have ek : k = l.length := by omega
      have HR2 : Hid (wr.ownsRow w.heap.size 9 1 (.slice aa k ac) l.length (keyCells (l.map (·.1)))) := by
        have := HR.out
        rw [ek, List.take_length] at this
        rw [ek]
        exact this
      clear HR
      go_wp2
      go_ret
      exact ⟨_, rfl, HR2.out, HB.out⟩
set_option maxRecDepth 100000 in
set_option maxHeartbeats 4000000 in
theorem txwriteKey_any (x : Wr) (w : World) : Calls Tryz.prog 32 #[wrV x] w fun e w' => e = .returned (.string ⟨x.1.toArray⟩) ∧ Below w.heap.size w w' := by
  unfold wrV
  obtain ⟨W, hW, hwb, _, c0, c1⟩ := room2 w 48 (.string ⟨x.1.toArray⟩) (.string ⟨(x.2).toArray⟩)
  have HB := hideIt hwb
  clear hwb
  subst hW
  go_enter Tryz.func32, Tryz.ntmps32
  go_wp2
  go_ret
  exact ⟨rfl, HB.out⟩
set_option maxRecDepth 100000 in
set_option maxHeartbeats 8000000 in
theorem txkoW_any (w : World) (A : Nat → Prop) (v : Value) (l : List Wr) (hv : WrsIn w A v l) (hl : l.length ≤ 100000) :
    Calls Tryz.prog 52 #[v, .func (.func 32) #[] #[]] w fun e w' => ∃ z, e = .returned z ∧ w'.ownsRow w.heap.size 9 1 z l.length (keyCells (l.map (·.1))) ∧ Below w.heap.size w w' := by
  obtain ⟨i0, hi, hi2⟩ := Option.map_eq_some_iff.1 infoStr
  obtain ⟨hz0, hz1, hz2⟩ : i0.zero = some (.string ⟨#[]⟩) ∧ i0.size = 1 ∧ i0.bytes = 16 := by
    simp only [Prod.mk.injEq] at hi2; exact hi2
  have HI := hideIt (And.intro hi (And.intro hz0 (And.intro hz1 hz2)))
  have HV : Hid (WrsIn w (· < w.heap.size) v l) := RowIn.mono (A' := (· < w.heap.size)) hv (fun _ _ h => h)
  obtain ⟨a, cap, rfl⟩ := WrsIn.form hv
  clear hi hi2 hz0 hz1 hz2 hv
  go_enter Tryz.func52, Tryz.ntmps52
  go_wp2
  go_loopw [5, 10] (fun ov i wr => ∃ (k : Nat) (aa : Option Addr) (ac : Nat), k ≤ l.length ∧ i = .int .i64 k ∧ ov = .slice aa k ac ∧ Hid (wr.ownsRow w.heap.size 9 1 (.slice aa k ac) k (keyCells ((l.take k).map (·.1)))) ∧ Hid (Below w.heap.size w wr)) (fun _ i _ => l.length - (intOf i).toNat)
  case atStart => exact ⟨0, none, 0, Nat.zero_le _, rfl, rfl, World.ownsRow_nil _ _ _ _, Below.refl _ _⟩
  case round =>
    obtain ⟨k, aa, ac, hk, rfl, rfl, HR, HB⟩ := hrel
    by_cases hlt : k < l.length
    · obtain ⟨x, hx⟩ : ∃ x, l[k]? = some x := ⟨l[k], by simp [hlt]⟩
      have HVr : Hid (WrsIn wr (· < w.heap.size) (.slice a l.length cap) l) := RowIn.kept HV.out (Kept.of_below HB.out (fun _ h _ => h))
      obtain ⟨b, off, rfl, _, c0, c1⟩ := WrsIn.at HVr.out hx
      have HT : Hid (keyCells ((l.take (k + 1)).map (·.1)) = keyCells ((l.take k).map (·.1)) ++ [encStr x.1]) := hideIt (by
        rw [List.take_succ_eq_append_getElem hlt, (List.getElem?_eq_some_iff.1 hx).2]; simp [keyCells])
      obtain ⟨W, hW, hwb, hws, d0, d1⟩ := room2 wr 48 (.string ⟨x.1.toArray⟩) (.string ⟨(x.2).toArray⟩)
      have HWB := hideIt hwb
      have HOW := hideIt (HR.out.alloc (.cells #[.string ⟨x.1.toArray⟩, .string ⟨(x.2).toArray⟩] 48))
      rw [← hW] at HOW
      have HC := hideIt (txwriteKey_any x W)
      unfold wrV at HC
      have hsz : w.heap.size ≤ W.heap.size := by have := HB.out.size; omega
      clear hx HVr hwb
      go_wp2_with fail
      rw [← hW]
      clear hW
      refine HC.out.mono ?_
      rintro e w3 ⟨rfl, hb3⟩
      have HO3 : Hid (w3.ownsRow w.heap.size 9 1 (.slice aa k ac) k (keyCells ((l.take k).map (·.1)))) := hideIt (ownsRow_of_block HOW.out (fun g hg => hb3.block g (ownsRow_lt HOW.out hg)))
      have HB3 := hideIt ((HB.out.trans (HWB.out.mono HB.out.size)).trans (hb3.mono hsz))
      have hs3 : w.heap.size ≤ w3.heap.size := by have := hb3.size; omega
      clear hb3 c0 c1 d0 d1 hws
      go_wp2_with (at_builtin; refine wpList_append_own_at _ rfl _ _ 43 rfl w.heap.size 9 i0 (.string ⟨#[]⟩) 1 16 Tryz.underlying43 HI.out.1 HI.out.2.1 HI.out.2.2.1 HI.out.2.2.2 rfl (by decide) _ _ _ rfl (HO3.out.alloc _) ⟨w3.heap.size, 0, none⟩ 1 1 [encStr x.1] rfl rfl ?k1 ?k2 ?k3 ?k4 ?k5 ?_)
      case k1 => exact cell_one_new _ _ _
      case k2 => intro u hu; simp at hu; subst hu; rfl
      case k3 => unfold maxLen; omega
      case k4 => omega
      case k5 => simp; omega
      intro v' w5 hown' hgrow _ _
      have HG5 := hideIt (grown_trans (World.grownBy_alloc w3 _ _) hgrow)
      have HO5 : Hid (w5.ownsRow w.heap.size 9 1 v' (k + 1) (keyCells ((l.take (k + 1)).map (·.1)))) := hideIt (by rw [HT.out]; simpa using hown')
      obtain ⟨a', cap', hv'⟩ := own_form hown'
      subst hv'
      clear hown' hgrow
      go_wp2
      refine ⟨⟨k + 1, a', cap', by omega, by go_num, rfl, HO5.out, ?_⟩, by simp [intOf]; omega⟩
      exact HB3.out.grown HG5.out (by have := HB3.out.size; omega) (fun j hj => (HO3.out.lt j hj).1)
    · have ek : k = l.length := by omega
      have HR2 : Hid (wr.ownsRow w.heap.size 9 1 (.slice aa k ac) l.length (keyCells (l.map (·.1)))) := by
        have := HR.out
        rw [ek, List.take_length] at this
        rw [ek]
        exact this
      clear HR
      go_wp2
      go_ret
      exact ⟨_, rfl, HR2.out, HB.out⟩

theorem grow_none (w : World) : grow w #[] = w := by
  unfold grow; simp
theorem own_compact {w : World} {base g cap q : Nat} {e : TypeId} {cur : Array Value} {zs ys : List (List UInt8)} {n : Nat} (hn : n ≤ zs.length) (hy : zs.length ≤ cap) (hbase : base ≤ g) (hb : w.heap[g]? = some (.cells cur e (0, 0)))
    (h2 : cap ≤ maxLen) (h3 : cur.size = cap * 1) (hys : zs.take n = ys) (hyl : ys.length = n) :
    (putRow encStr (Sort.ahead w q) g 0 zs.toArray).ownsRow base e 1 (.slice (some ⟨g, 0, none⟩) n cap) n (keyCells ys) ∧ w.grownBy (putRow encStr (Sort.ahead w q) g 0 zs.toArray) (some g) := by
  have h := ownsRow_sorted (n := q) (os := #[]) (ss := zs) (ts := zs) rfl hbase hb hy h2 h3
  have hg := grownBy_sorted (w := w) (g := g) (n := q) (os := #[]) zs.toArray
  rw [grow_none] at h hg
  refine ⟨⟨by simp [keyCells, hyl], Or.inr ?_⟩, hg⟩
  rcases h.2 with ⟨e1, _⟩ | ⟨g', cap', cur', e1, e2, e3, e4, e5, e6, e7⟩
  · cases e1
  · simp only [Value.slice.injEq, Option.some.injEq, Addr.mk.injEq] at e1
    obtain ⟨⟨rfl, _⟩, _, rfl⟩ := e1
    refine ⟨g, cap, cur', rfl, e2, e3, by omega, e5, e6, ?_⟩
    rw [Nat.mul_one] at e7 ⊢
    have := congrArg (List.take n) e7
    rw [List.take_take, Nat.min_eq_left hn] at this
    rw [this, ← List.map_take, hys]
    rfl

set_option maxRecDepth 100000 in
set_option maxHeartbeats 8000000 in
theorem txroS_any (w : World) (B : Nat) (v : Value) (T : List (List UInt8)) (ho : w.ownsRow B 9 1 v T.length (keyCells T)) (hB : B ≤ w.heap.size) (hT : T.length ≤ 1000000) :
    Calls Tryz.prog 50 #[v] w fun e w' => ∃ z, e = .returned z ∧ w'.ownsRow B 9 1 z (risen T).length (keyCells (risen T)) ∧ w.grownBy w' v.ownBlock := by
  rcases ho.2 with ⟨rfl, hn0⟩ | ⟨g, cap, cur, rfl, hbase, hb, h1, h2, h3, h4⟩
  · have hT0 : T = [] := List.eq_nil_of_length_eq_zero hn0
    subst hT0
    clear ho hn0
    go_enter Tryz.func50, Tryz.ntmps50
    go_wp2_with fail
    refine (Tryz.slices_Sort_string_none none 0 w).mono ?_
    rintro e w1 ⟨rfl, rfl⟩
    go_wp2_with fail
    refine (Tryz.slices_Compact_string_empty none 0 w1).mono ?_
    rintro e w2 ⟨rfl, rfl⟩
    go_wp2
    go_ret
    rw [show risen [] = [] from List.eq_nil_of_length_eq_zero (Nat.le_zero.1 (risen_len []))]
    exact ⟨_, rfl, World.ownsRow_nil _ _ _ _, grown_refl _ _⟩
  · obtain ⟨S, hS⟩ : ∃ S, (T.mergeSort fun x y => decide (x ≤ y)) = S := ⟨_, rfl⟩
    have hSl : S.length = T.length := by rw [← hS]; simp
    have hH : Holds encStr w g 0 T.toArray := holds_of_block hb (by simpa [keyCells] using h4)
    have hgl : g < w.heap.size := (Array.getElem?_eq_some_iff.1 hb).1
    have HCL := hideIt (Tryz.slices_Sort_string g 0 cap T w hH hgl (by omega))
    rw [hS] at HCL
    have HRW : Hid (∀ n os, (grow (putRow encStr (Sort.ahead w n) g 0 S.toArray) os).ownsRow B 9 1 (.slice (some ⟨g, 0, none⟩) T.length cap) T.length (S.map encStr)) := hideIt fun n os => ownsRow_sorted hSl hbase hb h1 h2 h3
    have HBG := hideIt hbase
    have HR : Hid (risen T = Lib.compact S) := hideIt (by unfold risen; rw [hS])
    have HSL := hideIt hSl
    have HCAP := hideIt (And.intro h1 (And.intro h2 hT))
    clear ho hb h1 h2 h3 h4 hH hgl hbase hS hSl hT
    go_enter Tryz.func50, Tryz.ntmps50
    go_wp2_with fail
    refine HCL.out.mono ?_
    rintro e w1 ⟨rfl, nn, os, hw1⟩
    have HRO := hideIt (HRW.out nn os)
    have HG1 : Hid (w.grownBy w1 (some g)) := hideIt (by rw [hw1]; exact grownBy_sorted _)
    rw [← hw1] at HRO
    clear hw1 HCL HRW
    rcases HRO.out.2 with ⟨e0, _⟩ | ⟨g', cap', cur', e1, k1, k2, k3, k4, k5, k6⟩
    · cases e0
    simp only [Value.slice.injEq, Option.some.injEq, Addr.mk.injEq] at e1
    obtain ⟨⟨e1, _⟩, _, e2⟩ := e1
    subst e1 e2
    have hH : Holds encStr w1 g 0 S.toArray := holds_of_block k2 (by rw [HSL.out]; simpa using k6)
    have hCC := Tryz.slices_Compact_string g 0 cap S w1 hH (by have := HSL.out; have := HCAP.out; omega) (by have := HSL.out; have := HCAP.out; omega)
    rw [HSL.out, ← HR.out] at hCC
    have HCC := hideIt hCC
    have hrl : (risen T).length ≤ T.length := risen_len T
    have HK : Hid (∀ q, (putRow encStr (Sort.ahead w1 q) g 0 ((risen T ++ List.replicate (T.length - (risen T).length) []) : List (List UInt8)).toArray).ownsRow B 9 1 (.slice (some ⟨g, 0, none⟩) (risen T).length cap) (risen T).length (keyCells (risen T)) ∧ w1.grownBy (putRow encStr (Sort.ahead w1 q) g 0 ((risen T ++ List.replicate (T.length - (risen T).length) []) : List (List UInt8)).toArray) (some g)) := hideIt fun q =>
      own_compact (by simp) (by simp; have := HCAP.out; omega) k1 k2 k4 k5 (by simp) rfl
    clear k1 k2 k3 k4 k5 k6 hH hCC hrl
    go_wp2_with fail
    refine HCC.out.mono ?_
    rintro e w2 ⟨rfl, q, hw2⟩
    have HK2 := hideIt (HK.out q)
    rw [← hw2] at HK2
    clear hw2 HK HCC
    go_wp2
    go_ret
    exact ⟨_, rfl, HK2.out.1, grown_trans HG1.out HK2.out.2⟩
end Go.Proofs.YtohlepbfjgehgaaGreatDoor
