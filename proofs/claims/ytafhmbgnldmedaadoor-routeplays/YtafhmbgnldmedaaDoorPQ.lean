/-
  What is proved here: the document's cut (cohortref09); over this program.
-/
import Derived.Test.YtafhmbgnldmedaaDoorPO
namespace Go.Proofs.YtafhmbgnldmedaaDoor
open Go.RowKit Go.Extern.Stop Go.Stop Go.Extern

/-- the pieces of l, cut at a key in the piece at a, as far as the first k of l go -/
def CutK (l : List Pc) (key : List UInt8) (a : Nat) (x : Pc) (k : Nat) (out : List Pc) : Prop :=
  (x.1 = key ∧ out = l.take k) ∨ (x.1 ≠ key ∧ k ≤ a ∧ out = l.take k) ∨ (x.1 ≠ key ∧ a < k ∧ out = l.take (a + 1) ++ [(key, x.2)] ++ (l.take k).drop (a + 1))
theorem cutK_zero (l : List Pc) (key : List UInt8) (a : Nat) (x : Pc) : CutK l key a x 0 [] := by
  by_cases h : x.1 = key
  · exact Or.inl ⟨h, rfl⟩
  · exact Or.inr (Or.inl ⟨h, Nat.zero_le _, rfl⟩)
theorem take_snoc {l : List Pc} {k : Nat} {y : Pc} (hy : l[k]? = some y) : l.take (k + 1) = l.take k ++ [y] := by
  rw [List.take_add_one, hy]; rfl
/-- a piece is kept, and none is cut behind it -/
theorem cutK_keep {l : List Pc} {key : List UInt8} {a k : Nat} {x y : Pc} {out : List Pc} (h : CutK l key a x k out) (hy : l[k]? = some y) (hn : ¬ (k = a ∧ x.1 ≠ key)) : CutK l key a x (k + 1) (out ++ [y]) := by
  have ht := take_snoc hy
  have hkl := (List.getElem?_eq_some_iff.1 hy).1
  rcases h with ⟨h1, rfl⟩ | ⟨h1, h2, rfl⟩ | ⟨h1, h2, rfl⟩
  · exact Or.inl ⟨h1, ht.symm⟩
  · exact Or.inr (Or.inl ⟨h1, by have : k ≠ a := fun e => hn ⟨e, h1⟩; omega, ht.symm⟩)
  · refine Or.inr (Or.inr ⟨h1, by omega, ?_⟩)
    rw [ht, List.drop_append_of_le_length (by rw [List.length_take]; omega), List.append_assoc]
/-- a piece is cut -/
theorem cutK_cut {l : List Pc} {key : List UInt8} {a : Nat} {x : Pc} {out : List Pc} (h : CutK l key a x a out) (hx : l[a]? = some x) (hn : x.1 ≠ key) : CutK l key a x (a + 1) (out ++ [x] ++ [(key, x.2)]) := by
  have ht := take_snoc hx
  rcases h with ⟨h1, _⟩ | ⟨_, _, rfl⟩ | ⟨_, h2, _⟩
  · exact absurd h1 hn
  · refine Or.inr (Or.inr ⟨hn, by omega, ?_⟩)
    rw [ht, List.drop_eq_nil_of_le (by rw [List.length_append, List.length_take]; simp; omega), List.append_nil]
  · omega
theorem cutK_end {l : List Pc} {key : List UInt8} {a : Nat} {x : Pc} {out : List Pc} (ha : HoldIs l key a) (hx : l[a]? = some x) (h : CutK l key a x l.length out) : CutIs l key out := by
  have hal := ha.1
  rcases h with ⟨h1, rfl⟩ | ⟨h1, h2, rfl⟩ | ⟨h1, h2, rfl⟩
  · exact ⟨a, x, ha, hx, Or.inl ⟨h1, List.take_length⟩⟩
  · omega
  · exact ⟨a, x, ha, hx, Or.inr ⟨h1, by rw [List.take_length]⟩⟩
/-- where a cut comes: the piece begins below the key, and the next one above it -/
theorem cut_where {l : List Pc} {key : List UInt8} {a k : Nat} {x y : Pc} (ha : HoldIs l key a) (hx : l[a]? = some x) (hy : l[k]? = some y) : (kLt y.1 key ∧ ∀ z, l[k + 1]? = some z → kLt key z.1) ↔ (k = a ∧ x.1 ≠ key) := by
  constructor
  · rintro ⟨h1, h2⟩
    have hka : k = a := by
      rcases Nat.lt_trichotomy k a with c | c | c
      · exfalso
        have hk1 : k + 1 < l.length := by have := ha.1; omega
        exact ha.2.1 (k + 1) _ (by omega) (List.getElem?_eq_getElem hk1) (h2 _ (List.getElem?_eq_getElem hk1))
      · exact c
      · exact absurd h1 (kLt_asymm (ha.2.2 k y c hy))
    subst hka
    rw [hx] at hy; cases hy
    exact ⟨rfl, fun e => by rw [e] at h1; exact kLt_irrefl _ h1⟩
  · rintro ⟨rfl, h1⟩
    rw [hx] at hy; cases hy
    refine ⟨?_, fun z hz => ha.2.2 (k + 1) z (by omega) hz⟩
    rcases kLt_total h1 with h | h
    · exact h
    · exact absurd h (ha.2.1 k x (Nat.le_refl _) hx)
theorem cutK_len {l : List Pc} {key : List UInt8} {a k : Nat} {x : Pc} {out : List Pc} (h : CutK l key a x k out) : out.length ≤ l.length + 1 := by
  rcases h with ⟨h1, rfl⟩ | ⟨h1, h2, rfl⟩ | ⟨h1, h2, rfl⟩
  · rw [List.length_take]; omega
  · rw [List.length_take]; omega
  · simp only [List.length_append, List.length_take, List.length_drop, List.length_cons, List.length_nil]; omega

set_option maxRecDepth 100000 in
set_option maxHeartbeats 8000000 in
theorem drcut_any (w : World) (A : Nat → Prop) (v : Value) (l : List Pc) (key : List UInt8) (hv : PcsIn w A v l) (hlin : Lin l) (hl : l.length ≤ 1000) :
    Calls Tryd.prog 36 #[v, .string ⟨key.toArray⟩] w fun e w' => ∃ z l', e = .returned z ∧ CutIs l key l' ∧ w'.ownsRow w.heap.size 39 3 z l'.length (pcsCells l') ∧ Below w.heap.size w w' := by
  have HV := hideIt (hv.mono (A' := (· < w.heap.size)) (fun _ _ h => h))
  obtain ⟨va, cap, rfl⟩ := hv.form
  have HLIN := hideIt hlin
  obtain ⟨x, a, ha, hx⟩ := own_ex hlin key
  have HAX := hideIt (And.intro ha hx)
  obtain ⟨i0, hi, hi2⟩ := Option.map_eq_some_iff.1 infoPc
  obtain ⟨hz0, hz1, hz2⟩ : i0.zero = some (.agg #[.string ⟨#[]⟩, .int .i64 0, .int .i64 0]) ∧ i0.size = 3 ∧ i0.bytes = 32 := by
    simp only [Prod.mk.injEq] at hi2; exact hi2
  have HI := hideIt (And.intro hi (And.intro hz0 (And.intro hz1 hz2)))
  clear hv hlin ha hx hi hi2 hz0 hz1 hz2
  go_enter Tryd.func36, Tryd.ntmps36
  go_wp2
  go_loopw [5, 6] (fun s i wr => ∃ (k : Nat) (out : List Pc), k ≤ l.length ∧ i = .int .i64 k ∧ Hid (CutK l key a x k out) ∧ Hid (wr.ownsRow w.heap.size 39 3 s out.length (pcsCells out)) ∧ Hid (Below w.heap.size w wr)) (fun _ i _ => l.length - (intOf i).toNat)
  case atStart => exact ⟨0, [], Nat.zero_le _, rfl, cutK_zero _ _ _ _, World.ownsRow_nil _ _ _ _, Below.refl _ _⟩
  case round =>
    obtain ⟨k, out, hk, rfl, HK, HO, HB⟩ := hrel
    by_cases hlt : k < l.length
    · obtain ⟨y, hy⟩ : ∃ y, l[k]? = some y := ⟨l[k], by simp [hlt]⟩
      obtain ⟨b, off, rfl, _, c0, c1, c2⟩ := PcsIn.at (RowIn.kept HV.out (Kept.of_below HB.out (fun _ h _ => h))) hy
      have HY := hideIt hy
      have hol : out.length ≤ 1001 := by have := cutK_len HK.out; omega
      obtain ⟨U, hU, hUb, hUs, hUo⟩ := lit_one wr y
      have hcs := RowIn.cells (RowIn.of_own (A := fun k => wr.heap.size ≤ k) hUo (fun _ h => h))
      have hrowU := own_grownB HO.out hUb
      have hbase : w.heap.size ≤ U.heap.size := Nat.le_trans HB.out.size hUb.size
      have HBU := hideIt (HB.out.trans (hUb.mono HB.out.size))
      rw [hU] at hcs hrowU hbase
      have HAP := hideIt (And.intro hcs (And.intro hrowU hbase))
      obtain ⟨av, cv, rfl⟩ := own_form hrowU
      clear hy hUb hUs hUo hcs hrowU hbase
      go_wp2_with (at_builtin; refine wpList_append_own_at _ rfl _ _ 22 rfl w.heap.size 39 i0 (.agg #[.string ⟨#[]⟩, .int .i64 0, .int .i64 0]) 3 32 Tryd.underlying22 HI.out.1 HI.out.2.1 HI.out.2.2.1 HI.out.2.2.2 rfl (by decide) _ _ _ rfl HAP.out.2.1 ⟨wr.heap.size, 0, none⟩ 1 1 (pcsCells [y]) rfl rfl HAP.out.1 (pcsCells_one _) (by unfold maxLen; omega) (by omega) HAP.out.2.2 ?_)
      intro z w6 h1 h2 _ h3
      rw [← hU] at h2
      have HB6 := hideIt (HBU.out.grown h2 HBU.out.size (fun g hg => (World.ownsRow.lt HAP.out.2.1 g hg).1))
      have HO6 : Hid (w6.ownsRow w.heap.size 39 3 z (out ++ [y]).length (pcsCells (out ++ [y]))) := hideIt (by rw [List.length_append, pcsCells_append]; exact h1)
      obtain ⟨az, cz, rfl⟩ := own_form h1
      obtain ⟨_, _, e9, _, d0, d1, d2⟩ := PcsIn.at (RowIn.kept HV.out (Kept.of_below HB6.out (fun _ h _ => h))) HY.out
      cases e9
      have HCW := hideIt (cut_where (k := k) HAX.out.1 HAX.out.2 HY.out)
      have hwk : IntKind.i64.wrap ((k : Int) + 1) = (k : Int) + 1 := by simp [IntKind.wrap, IntKind.bits, IntKind.signed]; omega
      clear h1 h2 h3 hU
      cases g1 : Op.bytesLess y.1 key with
      | false =>
        have HN := hideIt (cutK_keep HK.out HY.out (fun h => by have := (HCW.out.2 h).1; unfold kLt at this; rw [g1] at this; cases this))
        go_wp2
        exact ⟨⟨k + 1, out ++ [y], by omega, by go_num, HN, HO6, HB6⟩, by simp [intOf]; omega⟩
      | true =>
        by_cases hlast : k + 1 = l.length
        · have hkl : ((k : Int) + 1 == (l.length : Int)) = true := by simp; omega
          obtain ⟨rfl, hne⟩ := HCW.out.1 ⟨g1, fun z hz => by have := (List.getElem?_eq_some_iff.1 hz).1; omega⟩
          have hyx : y = x := by have h1 := HY.out; rw [HAX.out.2] at h1; cases h1; rfl
          have HN : Hid (CutK l key k x (k + 1) (out ++ [y] ++ [(key, y.2)])) := hideIt (by rw [hyx]; exact cutK_cut HK.out HAX.out.2 hne)
          have hab : Below w6.heap.size w6 ((w6.alloc (.cells #[.string ⟨key.toArray⟩, .int .i64 y.2.1, .int .i64 y.2.2] 39)).alloc (.cells #[.string ⟨key.toArray⟩, .int .i64 y.2.1, .int .i64 y.2.2] 39)) := ((Below.refl _ _).alloc (Nat.le_refl _) _).alloc (by simp) _
          obtain ⟨U, hU, _, _, hUo⟩ := lit_one (w6.alloc (.cells #[.string ⟨key.toArray⟩, .int .i64 y.2.1, .int .i64 y.2.2] 39)) (key, y.2)
          have hcs := RowIn.cells (RowIn.of_own (A := fun _ => True) hUo (fun _ _ => trivial))
          rw [hU, World.size_alloc] at hcs
          have hrow6 := own_grownB HO6.out hab
          have HAP2 := hideIt (And.intro hcs (And.intro hrow6 (And.intro hab (Nat.le_trans HB6.out.size hab.size))))
          obtain ⟨R, hR, _, _, z0, z1, z2⟩ := room3 w6 39 (.string ⟨y.1.toArray⟩) (.int .i64 y.2.1) (.int .i64 y.2.2)
          have zf : R.frozen? ⟨w6.heap.size, 0, none⟩ = false := by rw [hR]; exact World.frozen?_alloc_at _ _ _ _ rfl
          have y0 : (R.setCell ⟨w6.heap.size, 0, none⟩ (.string ⟨key.toArray⟩)).cell? ⟨w6.heap.size, 0, none⟩ = some (.string ⟨key.toArray⟩) := World.cell?_setCell_same _ _ _ z0
          have y1 : (R.setCell ⟨w6.heap.size, 0, none⟩ (.string ⟨key.toArray⟩)).cell? ⟨w6.heap.size, 1, none⟩ = some (.int .i64 y.2.1) := by rw [World.cell?_setCell_other _ _ _ _ (by simp)]; exact z1
          have y2 : (R.setCell ⟨w6.heap.size, 0, none⟩ (.string ⟨key.toArray⟩)).cell? ⟨w6.heap.size, 2, none⟩ = some (.int .i64 y.2.2) := by rw [World.cell?_setCell_other _ _ _ _ (by simp)]; exact z2
          rw [hR] at z0 z1 z2 zf y0 y1 y2
          have hol2 : (out ++ [y]).length ≤ 1002 := by rw [List.length_append]; show out.length + 1 ≤ 1002; omega
          clear hU hUo hcs hrow6 hab hne hyx hR
          have e1 : (out ++ [y]).length = out.length + 1 := by simp
          rw [e1] at HAP2 HO6 hol2
          go_wp2_with (at_builtin; refine wpList_append_own_at _ rfl _ _ 22 rfl w.heap.size 39 i0 (.agg #[.string ⟨#[]⟩, .int .i64 0, .int .i64 0]) 3 32 Tryd.underlying22 HI.out.1 HI.out.2.1 HI.out.2.2.1 HI.out.2.2.2 rfl (by decide) _ _ _ rfl HAP2.out.2.1 ⟨w6.heap.size + 1, 0, none⟩ 1 1 (pcsCells [(key, y.2)]) rfl rfl HAP2.out.1 (pcsCells_one _) (by unfold maxLen; omega) (by omega) HAP2.out.2.2.2 ?_)
          intro z8 w8 h1 h2 _ h3
          have HB8 := hideIt ((HB6.out.trans (HAP2.out.2.2.1.mono HB6.out.size)).grown h2 HAP2.out.2.2.2 (fun g hg => (World.ownsRow.lt HAP2.out.2.1 g hg).1))
          have HO8 : Hid (w8.ownsRow w.heap.size 39 3 z8 (out ++ [y] ++ [(key, y.2)]).length (pcsCells (out ++ [y] ++ [(key, y.2)]))) := hideIt (by rw [List.length_append, e1, pcsCells_append]; exact h1)
          obtain ⟨az8, cz8, rfl⟩ := own_form h1
          clear h1 h2 h3
          go_wp2
          exact ⟨⟨k + 1, out ++ [y] ++ [(key, y.2)], by omega, by go_num, HN, HO8, HB8⟩, by simp [intOf]; omega⟩
        · have hkl : ((k : Int) + 1 == (l.length : Int)) = false := by simp only [beq_eq_false_iff_ne]; omega
          have hkl2 : (k : Int) + 1 < (l.length : Int) := by omega
          obtain ⟨zz, hzz⟩ : ∃ zz, l[k + 1]? = some zz := ⟨l[k + 1]'(by omega), by simp [show k + 1 < l.length by omega]⟩
          obtain ⟨_, _, e9, _, t0, _, _⟩ := PcsIn.at (RowIn.kept HV.out (Kept.of_below HB6.out (fun _ h _ => h))) hzz
          cases e9
          have HZZ := hideIt hzz
          have q2 := leq_iff zz.1 key
          clear hzz
          cases g2 : Op.bytesLess key zz.1 with
          | false =>
            rw [g2] at q2
            have HN := hideIt (cutK_keep HK.out HY.out (fun h => by have := (HCW.out.2 h).2 zz HZZ.out; unfold kLt at this; rw [g2] at this; cases this))
            go_wp2
            exact ⟨⟨k + 1, out ++ [y], by omega, by go_num, HN, HO6, HB6⟩, by simp [intOf]; omega⟩
          | true =>
            rw [g2] at q2
            obtain ⟨rfl, hne⟩ := HCW.out.1 ⟨g1, fun z hz => by rw [HZZ.out] at hz; cases hz; exact g2⟩
            have hyx : y = x := by have h1 := HY.out; rw [HAX.out.2] at h1; cases h1; rfl
            have HN : Hid (CutK l key k x (k + 1) (out ++ [y] ++ [(key, y.2)])) := hideIt (by rw [hyx]; exact cutK_cut HK.out HAX.out.2 hne)
            have hab : Below w6.heap.size w6 ((w6.alloc (.cells #[.string ⟨key.toArray⟩, .int .i64 y.2.1, .int .i64 y.2.2] 39)).alloc (.cells #[.string ⟨key.toArray⟩, .int .i64 y.2.1, .int .i64 y.2.2] 39)) := ((Below.refl _ _).alloc (Nat.le_refl _) _).alloc (by simp) _
            obtain ⟨U, hU, _, _, hUo⟩ := lit_one (w6.alloc (.cells #[.string ⟨key.toArray⟩, .int .i64 y.2.1, .int .i64 y.2.2] 39)) (key, y.2)
            have hcs := RowIn.cells (RowIn.of_own (A := fun _ => True) hUo (fun _ _ => trivial))
            rw [hU, World.size_alloc] at hcs
            have hrow6 := own_grownB HO6.out hab
            have HAP2 := hideIt (And.intro hcs (And.intro hrow6 (And.intro hab (Nat.le_trans HB6.out.size hab.size))))
            obtain ⟨R, hR, _, _, z0, z1, z2⟩ := room3 w6 39 (.string ⟨y.1.toArray⟩) (.int .i64 y.2.1) (.int .i64 y.2.2)
            have zf : R.frozen? ⟨w6.heap.size, 0, none⟩ = false := by rw [hR]; exact World.frozen?_alloc_at _ _ _ _ rfl
            have y0 : (R.setCell ⟨w6.heap.size, 0, none⟩ (.string ⟨key.toArray⟩)).cell? ⟨w6.heap.size, 0, none⟩ = some (.string ⟨key.toArray⟩) := World.cell?_setCell_same _ _ _ z0
            have y1 : (R.setCell ⟨w6.heap.size, 0, none⟩ (.string ⟨key.toArray⟩)).cell? ⟨w6.heap.size, 1, none⟩ = some (.int .i64 y.2.1) := by rw [World.cell?_setCell_other _ _ _ _ (by simp)]; exact z1
            have y2 : (R.setCell ⟨w6.heap.size, 0, none⟩ (.string ⟨key.toArray⟩)).cell? ⟨w6.heap.size, 2, none⟩ = some (.int .i64 y.2.2) := by rw [World.cell?_setCell_other _ _ _ _ (by simp)]; exact z2
            rw [hR] at z0 z1 z2 zf y0 y1 y2
            have hol2 : (out ++ [y]).length ≤ 1002 := by rw [List.length_append]; show out.length + 1 ≤ 1002; omega
            clear hU hUo hcs hrow6 hab hne hyx hR
            have e1 : (out ++ [y]).length = out.length + 1 := by simp
            rw [e1] at HAP2 HO6 hol2
            go_wp2_with (at_builtin; refine wpList_append_own_at _ rfl _ _ 22 rfl w.heap.size 39 i0 (.agg #[.string ⟨#[]⟩, .int .i64 0, .int .i64 0]) 3 32 Tryd.underlying22 HI.out.1 HI.out.2.1 HI.out.2.2.1 HI.out.2.2.2 rfl (by decide) _ _ _ rfl HAP2.out.2.1 ⟨w6.heap.size + 1, 0, none⟩ 1 1 (pcsCells [(key, y.2)]) rfl rfl HAP2.out.1 (pcsCells_one _) (by unfold maxLen; omega) (by omega) HAP2.out.2.2.2 ?_)
            intro z8 w8 h1 h2 _ h3
            have HB8 := hideIt ((HB6.out.trans (HAP2.out.2.2.1.mono HB6.out.size)).grown h2 HAP2.out.2.2.2 (fun g hg => (World.ownsRow.lt HAP2.out.2.1 g hg).1))
            have HO8 : Hid (w8.ownsRow w.heap.size 39 3 z8 (out ++ [y] ++ [(key, y.2)]).length (pcsCells (out ++ [y] ++ [(key, y.2)]))) := hideIt (by rw [List.length_append, e1, pcsCells_append]; exact h1)
            obtain ⟨az8, cz8, rfl⟩ := own_form h1
            clear h1 h2 h3
            go_wp2
            exact ⟨⟨k + 1, out ++ [y] ++ [(key, y.2)], by omega, by go_num, HN, HO8, HB8⟩, by simp [intOf]; omega⟩
    · obtain rfl : k = l.length := by omega
      have HN := hideIt (cutK_end HAX.out.1 HAX.out.2 HK.out)
      obtain ⟨av, cv, rfl⟩ := own_form HO.out
      go_wp2
      go_ret
      exact ⟨_, out, rfl, HN.out, HO.out, HB.out⟩
end Go.Proofs.YtafhmbgnldmedaaDoor
