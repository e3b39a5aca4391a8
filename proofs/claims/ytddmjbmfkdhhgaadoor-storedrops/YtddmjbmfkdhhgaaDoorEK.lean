/-
  What is proved here: store.merged; over this program.
-/
import Derived.Test.YtddmjbmfkdhhgaaDoorEJ
import Derived.BigQuiet
namespace Go.Proofs.YtddmjbmfkdhhgaaDoor
open Go.RowKit Go.Extern.Stop Go.Stop Go.Extern

/-- r is what h becomes where l is laid in -/
def Mrg (h l r : List Ent) : Prop := ∀ P : List Ent → List Ent → List Ent → Prop, (∀ l, P [] l l) → (∀ h, P h [] h) → (∀ (x y : Ent) h l r, kLt x.1 y.1 → P h (y :: l) r → P (x :: h) (y :: l) (x :: r)) → (∀ (x y : Ent) h l r, x.1 = y.1 → P h l r → P (x :: h) (y :: l) (y :: r)) → (∀ (x y : Ent) h l r, kLt y.1 x.1 → P (x :: h) l r → P (x :: h) (y :: l) (y :: r)) → P h l r
theorem Mrg.nilL (l : List Ent) : Mrg [] l l := fun _ a _ _ _ _ => a l
theorem Mrg.nilR (h : List Ent) : Mrg h [] h := fun _ _ b _ _ _ => b h
theorem Mrg.lt (x y : Ent) (h l r : List Ent) (hk : kLt x.1 y.1) (m : Mrg h (y :: l) r) : Mrg (x :: h) (y :: l) (x :: r) := fun P a b c d e => c x y h l r hk (m P a b c d e)
theorem Mrg.eq (x y : Ent) (h l r : List Ent) (hk : x.1 = y.1) (m : Mrg h l r) : Mrg (x :: h) (y :: l) (y :: r) := fun P a b c d e => d x y h l r hk (m P a b c d e)
theorem Mrg.gt (x y : Ent) (h l r : List Ent) (hk : kLt y.1 x.1) (m : Mrg (x :: h) l r) : Mrg (x :: h) (y :: l) (y :: r) := fun P a b c d e => e x y h l r hk (m P a b c d e)
theorem Mrg.ind {motive : (h l r : List Ent) → Mrg h l r → Prop} (nilL : ∀ l, motive [] l l (Mrg.nilL l)) (nilR : ∀ h, motive h [] h (Mrg.nilR h))
    (lt : ∀ (x y : Ent) (h l r : List Ent) (hk : kLt x.1 y.1) (m : Mrg h (y :: l) r), motive h (y :: l) r m → motive (x :: h) (y :: l) (x :: r) (Mrg.lt x y h l r hk m))
    (eq : ∀ (x y : Ent) (h l r : List Ent) (hk : x.1 = y.1) (m : Mrg h l r), motive h l r m → motive (x :: h) (y :: l) (y :: r) (Mrg.eq x y h l r hk m))
    (gt : ∀ (x y : Ent) (h l r : List Ent) (hk : kLt y.1 x.1) (m : Mrg (x :: h) l r), motive (x :: h) l r m → motive (x :: h) (y :: l) (y :: r) (Mrg.gt x y h l r hk m))
    {h l r : List Ent} (m : Mrg h l r) : motive h l r m := by
  obtain ⟨_, hm⟩ := m (fun h l r => ∃ m : Mrg h l r, motive h l r m) (fun l => ⟨_, nilL l⟩) (fun h => ⟨_, nilR h⟩) (fun x y h l r hk ⟨m, hm⟩ => ⟨_, lt x y h l r hk m hm⟩) (fun x y h l r hk ⟨m, hm⟩ => ⟨_, eq x y h l r hk m hm⟩) (fun x y h l r hk ⟨m, hm⟩ => ⟨_, gt x y h l r hk m hm⟩)
  exact hm
def sliceLen : Value → Nat
  | .slice _ n _ => n
  | _ => 0
/-- the rest of a row: s[1:] -/
theorem ents_tail {w : World} {A : Nat → Prop} {b off cap : Nat} {x : Ent} {l : List Ent} (h : EntsIn w A (.slice (some ⟨b, off, none⟩) (l.length + 1) cap) (x :: l)) (c : Nat) (a : Option Addr) (ha : a = some ⟨b, off + 3, none⟩ ∨ (l = [] ∧ a = none ∧ c = 0) ∨ (l = [] ∧ ∃ z, a = some z)) : EntsIn w A (.slice a l.length c) l := by
  obtain ⟨a', cap', e1, hnil, h2⟩ := h
  refine ⟨a, c, rfl, fun e => ?_, fun k y hy => ?_⟩
  · rcases ha with h | ⟨rfl, _, rfl⟩ | ⟨rfl, z, h⟩
    · rw [h] at e; cases e
    · exact ⟨rfl, rfl, rfl⟩
    · rw [h] at e; cases e
  · rcases ha with rfl | ⟨rfl, _, _⟩ | ⟨rfl, _⟩
    · obtain ⟨b', off', e2, r2, r3⟩ := h2 (3 + k) y (by rw [show (x :: l) = [x] ++ l from rfl, entsCells_append, List.getElem?_append_right (by rw [entsCells_len]; simp)]; simpa [entsCells_len] using hy)
      simp only [Value.slice.injEq] at e1
      obtain ⟨rfl, _, _⟩ := e1
      cases e2
      exact ⟨b, off + 3, rfl, r2, by rw [Nat.add_assoc]; exact r3⟩
    · simp [entsCells] at hy
    · simp [entsCells] at hy

set_option maxRecDepth 100000 in
set_option maxHeartbeats 16000000 in
theorem smerged_any (w : World) (A A2 : Nat → Prop) (vh vl : Value) (h l : List Ent) (hh : EntsIn w A vh h) (hl : EntsIn w A2 vl l) (n1 : h.length ≤ 1000) (n2 : l.length ≤ 1000) (hc1 : ∀ a c, vh = .slice a h.length c → h.length ≤ c) (hc2 : ∀ a c, vl = .slice a l.length c → l.length ≤ c) :
    Calls Tryd.prog 29 #[vh, vl] w fun e w' => ∃ (v : Value) (r : List Ent), e = .returned v ∧ w'.ownsRow w.heap.size 28 3 v r.length (entsCells r) ∧ Mrg h l r ∧ Below w.heap.size w w' := by
  obtain ⟨i0, hi, hi2⟩ := Option.map_eq_some_iff.1 infoEnt
  obtain ⟨hz0, hz1, hz2⟩ : i0.zero = some (.agg #[.string ⟨#[]⟩, .string ⟨#[]⟩, .int .i64 0]) ∧ i0.size = 3 ∧ i0.bytes = 40 := by
    simp only [Prod.mk.injEq] at hi2; exact hi2
  have HI := hideIt (And.intro hi (And.intro hz0 (And.intro hz1 hz2)))
  have HH := hideIt (hh.mono (A' := (· < w.heap.size)) (fun _ _ h => h))
  have HL := hideIt (hl.mono (A' := (· < w.heap.size)) (fun _ _ h => h))
  obtain ⟨ah, ch, rfl⟩ := hh.form
  obtain ⟨al, cl, rfl⟩ := hl.form
  replace hc1 := hc1 _ _ rfl
  replace hc2 := hc2 _ _ rfl
  clear hi2 hi hz0 hz1 hz2 hh hl
  go_enter Tryd.func29, Tryd.ntmps29
  go_wp2
  go_loopw [0, 1, 5] (fun hv lv ov wr => ∃ (h' l' o : List Ent) (a1 a2 : Option Addr) (c1 c2 : Nat), hv = .slice a1 h'.length c1 ∧ lv = .slice a2 l'.length c2 ∧ h'.length ≤ c1 ∧ l'.length ≤ c2 ∧ Hid (EntsIn wr (· < w.heap.size) hv h') ∧ Hid (EntsIn wr (· < w.heap.size) lv l') ∧ Hid (wr.ownsRow w.heap.size 28 3 ov o.length (entsCells o)) ∧ Hid (∀ r, Mrg h' l' r → Mrg h l (o ++ r)) ∧ o.length + h'.length + l'.length ≤ 2000 ∧ Hid (Below w.heap.size w wr)) (fun hv lv _ _ => sliceLen hv + sliceLen lv)
  case atStart => exact ⟨h, l, [], _, _, _, _, rfl, rfl, hc1, hc2, HH.out, HL.out, World.ownsRow_nil _ _ _ _, fun r hr => hr, by simp; omega, Below.refl _ _⟩
  case round =>
    obtain ⟨h', l', o, a1, a2, c1, c2, rfl, rfl, hq1, hq2, HH', HL', HO', HM', hsum, HB'⟩ := hrel
    obtain ⟨a3, c3, rfl⟩ := own_form HO'.out
    have hend : (h' = [] ∨ l' = []) → Mrg h' l' (h' ++ l') := fun e => by
      rcases e with rfl | rfl
      · exact .nilL _
      · rw [List.append_nil]; exact .nilR _
    cases h' with
    | nil =>
      have HE := hideIt (HM'.out _ (hend (Or.inl rfl)))
      clear hend HM'
      go_wp2_with (first | (at_builtin; refine wpList_append_ents rfl (.tmp 45) (.tmp 46) 22 rfl w.heap.size 28 i0 (.agg #[.string ⟨#[]⟩, .string ⟨#[]⟩, .int .i64 0]) Tryd.underlying22 HI.out.1 HI.out.2.1 HI.out.2.2.1 HI.out.2.2.2 rfl _ o.length (entsCells o) rfl HO'.out (· < w.heap.size) _ [] rfl HH'.out (by simp at hsum ⊢; omega) HB'.out.size ?_; intro v1 w2 k1 k2 k3; have HO2 := hideIt k1; have HK2 := hideIt (Kept.of_below ((Below.refl w.heap.size wr).grown k2 HB'.out.size (fun k e => (World.ownsRow.lt HO'.out k e).1)) (A := (· < w.heap.size)) (fun _ h _ => h)); have HB2 := hideIt (HB'.out.grown k2 HB'.out.size (fun k e => (World.ownsRow.lt HO'.out k e).1)); have HL2 := hideIt (HL'.out.kept HK2.out); clear k1 k2 k3) | (at_builtin; refine wpList_append_ents rfl (.tmp 47) (.tmp 48) 22 rfl w.heap.size 28 i0 (.agg #[.string ⟨#[]⟩, .string ⟨#[]⟩, .int .i64 0]) Tryd.underlying22 HI.out.1 HI.out.2.1 HI.out.2.2.1 HI.out.2.2.2 rfl _ _ _ rfl HO2.out (· < w.heap.size) _ l' rfl HL2.out (by simp at hsum ⊢; omega) HB2.out.size ?_; intro v3 w3 k1 k2 k3; have HO3 := hideIt k1; have HB3 := hideIt (HB2.out.grown k2 HB2.out.size (fun k e => (World.ownsRow.lt HO2.out k e).1)); clear k1 k2 k3))
      go_ret
      refine ⟨_, _, rfl, ?_, HE.out, HB3.out⟩
      rw [List.length_append, List.length_append, entsCells_append, entsCells_append, ← Nat.add_assoc, ← List.append_assoc]
      exact HO3.out
    | cons x hs =>
      cases l' with
      | nil =>
        have HE := hideIt (HM'.out _ (hend (Or.inr rfl)))
        clear hend HM'
        go_wp2_with (first | (at_builtin; refine wpList_append_ents rfl (.tmp 45) (.tmp 46) 22 rfl w.heap.size 28 i0 (.agg #[.string ⟨#[]⟩, .string ⟨#[]⟩, .int .i64 0]) Tryd.underlying22 HI.out.1 HI.out.2.1 HI.out.2.2.1 HI.out.2.2.2 rfl _ o.length (entsCells o) rfl HO'.out (· < w.heap.size) _ (x :: hs) rfl HH'.out (by simp at hsum ⊢; omega) HB'.out.size ?_; intro v1 w2 k1 k2 k3; have HO2 := hideIt k1; have HK2 := hideIt (Kept.of_below ((Below.refl w.heap.size wr).grown k2 HB'.out.size (fun k e => (World.ownsRow.lt HO'.out k e).1)) (A := (· < w.heap.size)) (fun _ h _ => h)); have HB2 := hideIt (HB'.out.grown k2 HB'.out.size (fun k e => (World.ownsRow.lt HO'.out k e).1)); have HL2 := hideIt (HL'.out.kept HK2.out); clear k1 k2 k3) | (at_builtin; refine wpList_append_ents rfl (.tmp 47) (.tmp 48) 22 rfl w.heap.size 28 i0 (.agg #[.string ⟨#[]⟩, .string ⟨#[]⟩, .int .i64 0]) Tryd.underlying22 HI.out.1 HI.out.2.1 HI.out.2.2.1 HI.out.2.2.2 rfl _ _ _ rfl HO2.out (· < w.heap.size) _ [] rfl HL2.out (by simp at hsum ⊢; omega) HB2.out.size ?_; intro v3 w3 k1 k2 k3; have HO3 := hideIt k1; have HB3 := hideIt (HB2.out.grown k2 HB2.out.size (fun k e => (World.ownsRow.lt HO2.out k e).1)); clear k1 k2 k3))
        go_ret
        refine ⟨_, _, rfl, ?_, HE.out, HB3.out⟩
        rw [List.length_append, List.length_append, entsCells_append, entsCells_append, ← Nat.add_assoc, ← List.append_assoc]
        exact HO3.out
      | cons y ls =>
        clear hend
        obtain ⟨b1, f1, rfl, _, d0, d1, d2⟩ := EntsIn.at HH'.out (show (x :: hs)[0]? = some x from rfl)
        obtain ⟨b2, f2, rfl, _, e0, e1, e2⟩ := EntsIn.at HL'.out (show (y :: ls)[0]? = some y from rfl)
        simp only [Nat.zero_mul, Nat.add_zero, List.length_cons] at d0 d1 d2 e0 e1 e2 HH' HL' ⊢
        go_wp2_with fail
        go_quiet ((go_at_call 37; exact Calls.quiet_of_same (Tryd.strings_Compare _ _ _)))
        have HBZ := hideIt (HB'.out.trans ((below_drewN wr nq).mono HB'.out.size))
        have HHZ := hideIt (HH'.out.kept (Kept.of_all (below_drewN wr nq)))
        have HLZ := hideIt (HL'.out.kept (Kept.of_all (below_drewN wr nq)))
        have HOZ := hideIt (own_drew HO'.out nq)
        replace d0 : (wr.drewN nq).cell? _ = _ := d0
        replace d1 : (wr.drewN nq).cell? _ = _ := d1
        replace d2 : (wr.drewN nq).cell? _ = _ := d2
        replace e0 : (wr.drewN nq).cell? _ = _ := e0
        replace e1 : (wr.drewN nq).cell? _ = _ := e1
        replace e2 : (wr.drewN nq).cell? _ = _ := e2
        clear HH' HL' HO' HB'
        generalize wr.drewN nq = w0 at HBZ HHZ HLZ HOZ d0 d1 d2 e0 e1 e2 ⊢
        by_cases hk : kLt x.1 y.1
        · rw [show Lib.compareBytes (⟨x.1.toArray⟩ : ByteArray).data.toList (⟨y.1.toArray⟩ : ByteArray).data.toList = -1 from cmp_lt hk]
          have HK := hideIt hk
          clear hk
          obtain ⟨U, hU, hUb, hUs, hUo⟩ := lit_one w0.drew x
          have hcs := RowIn.cells (RowIn.of_own (A := fun k => w0.drew.heap.size ≤ k) hUo (fun _ h => h))
          have hrowU := ownsRow_of_block (own_drew HOZ.out 1) (fun g hg => hUb.block g (ownsRow_lt (own_drew HOZ.out 1) hg))
          rw [hU] at hcs hrowU
          clear hU hUb hUs hUo
          have q1 : (1 : Int) ≤ (hs.length : Int) + 1 := by omega
          by_cases hcc : c1 = 1
          · subst hcc
            obtain rfl : hs = [] := by cases hs with | nil => rfl | cons a b => simp at hq1
            go_wp2_with fail
            go_region_law (refine step_append_own rfl (.tmp 27) (.tmp 31) 22 rfl w.heap.size 28 i0 (.agg #[.string ⟨#[]⟩, .string ⟨#[]⟩, .int .i64 0]) 3 40 Tryd.underlying22 HI.out.1 HI.out.2.1 HI.out.2.2.1 HI.out.2.2.2 rfl (by decide) (.slice a3 o.length c3) o.length (entsCells o) (by simp [Act.eval]) hrowU ⟨w0.heap.size, 0, none⟩ 1 1 (entsCells [x]) (by simp [Act.eval]) rfl hcs (entsCells_one _) (by unfold maxLen; simp at hsum; omega) (by simp at hsum; omega) (by have := HBZ.out.size; simp; omega) ?_; intro v5 w5 k1 k2 k3; have HO5 := hideIt k1; have hb5 : Below w.heap.size w0 w5 := ((((Below.refl w0.heap.size w0).alloc (Nat.le_refl _) _).trans ((below_drew _).mono (by simp))).mono HBZ.out.size).grown k2 (by have := HBZ.out.size; simp; omega) (fun k e => (World.ownsRow.lt HOZ.out k e).1); have HB5 := hideIt (HBZ.out.trans hb5); have HK5 := hideIt (Kept.of_below hb5 (A := (· < w.heap.size)) (fun _ h _ => h)); clear k1 k2 k3 hb5)
            all_goals
              go_simp
              go_wp2
              refine ⟨⟨[], y :: ls, o ++ [x], _, _, _, _, rfl, rfl, ?_, ?_, ?_, ?_, ?_, ?_, ?_, HB5.out⟩, ?_⟩
              · simp at hq1 hq2 ⊢; try omega
              · simp at hq1 hq2 ⊢; try omega
              · exact hideIt (ents_tail (x := x) (l := []) (HHZ.out.kept HK5.out) _ _ (Or.inr (Or.inr ⟨rfl, _, rfl⟩)))
              · exact hideIt (HLZ.out.kept HK5.out)
              · rw [List.length_append, entsCells_append]; exact HO5
              · exact hideIt (fun r hr => by rw [List.append_assoc]; exact HM'.out _ (.lt x y [] ls r HK.out hr))
              · simp at hsum ⊢; omega
              · simp [sliceLen]; try omega
          · skip
            go_wp2_with fail
            go_region_law (refine step_append_own rfl (.tmp 27) (.tmp 31) 22 rfl w.heap.size 28 i0 (.agg #[.string ⟨#[]⟩, .string ⟨#[]⟩, .int .i64 0]) 3 40 Tryd.underlying22 HI.out.1 HI.out.2.1 HI.out.2.2.1 HI.out.2.2.2 rfl (by decide) (.slice a3 o.length c3) o.length (entsCells o) (by simp [Act.eval]) hrowU ⟨w0.heap.size, 0, none⟩ 1 1 (entsCells [x]) (by simp [Act.eval]) rfl hcs (entsCells_one _) (by unfold maxLen; simp at hsum; omega) (by simp at hsum; omega) (by have := HBZ.out.size; simp; omega) ?_; intro v5 w5 k1 k2 k3; have HO5 := hideIt k1; have hb5 : Below w.heap.size w0 w5 := ((((Below.refl w0.heap.size w0).alloc (Nat.le_refl _) _).trans ((below_drew _).mono (by simp))).mono HBZ.out.size).grown k2 (by have := HBZ.out.size; simp; omega) (fun k e => (World.ownsRow.lt HOZ.out k e).1); have HB5 := hideIt (HBZ.out.trans hb5); have HK5 := hideIt (Kept.of_below hb5 (A := (· < w.heap.size)) (fun _ h _ => h)); clear k1 k2 k3 hb5)
            all_goals
              go_simp
              go_wp2
              refine ⟨⟨hs, y :: ls, o ++ [x], _, _, _, _, rfl, rfl, ?_, ?_, ?_, ?_, ?_, ?_, ?_, HB5.out⟩, ?_⟩
              · simp at hq1 hq2 ⊢; try omega
              · simp at hq1 hq2 ⊢; try omega
              · exact hideIt (ents_tail (HHZ.out.kept HK5.out) _ _ (Or.inl rfl))
              · exact hideIt (HLZ.out.kept HK5.out)
              · rw [List.length_append, entsCells_append]; exact HO5
              · exact hideIt (fun r hr => by rw [List.append_assoc]; exact HM'.out _ (.lt x y hs ls r HK.out hr))
              · simp at hsum ⊢; omega
              · simp [sliceLen]; try omega
        · by_cases hk2 : (x.1 == y.1) = true
          · rw [show Lib.compareBytes (⟨x.1.toArray⟩ : ByteArray).data.toList (⟨y.1.toArray⟩ : ByteArray).data.toList = 0 from cmp_same hk2]
            have HK : Hid (x.1 = y.1) := hideIt (eq_of_beq hk2)
            clear hk hk2
            obtain ⟨U, hU, hUb, hUs, hUo⟩ := lit_one w0.drew y
            have hcs := RowIn.cells (RowIn.of_own (A := fun k => w0.drew.heap.size ≤ k) hUo (fun _ h => h))
            have hrowU := ownsRow_of_block (own_drew HOZ.out 1) (fun g hg => hUb.block g (ownsRow_lt (own_drew HOZ.out 1) hg))
            rw [hU] at hcs hrowU
            clear hU hUb hUs hUo
            have q1 : (1 : Int) ≤ (hs.length : Int) + 1 := by omega
            by_cases hcc : c1 = 1
            · subst hcc
              obtain rfl : hs = [] := by cases hs with | nil => rfl | cons a b => simp at hq1
              have q2 : (1 : Int) ≤ (ls.length : Int) + 1 := by omega
              by_cases hcd : c2 = 1
              · subst hcd
                obtain rfl : ls = [] := by cases ls with | nil => rfl | cons a b => simp at hq2
                go_wp2_with fail
                go_region_law (refine step_append_own rfl (.tmp 37) (.tmp 41) 22 rfl w.heap.size 28 i0 (.agg #[.string ⟨#[]⟩, .string ⟨#[]⟩, .int .i64 0]) 3 40 Tryd.underlying22 HI.out.1 HI.out.2.1 HI.out.2.2.1 HI.out.2.2.2 rfl (by decide) (.slice a3 o.length c3) o.length (entsCells o) (by simp [Act.eval]) hrowU ⟨w0.heap.size, 0, none⟩ 1 1 (entsCells [y]) (by simp [Act.eval]) rfl hcs (entsCells_one _) (by unfold maxLen; simp at hsum; omega) (by simp at hsum; omega) (by have := HBZ.out.size; simp; omega) ?_; intro v5 w5 k1 k2 k3; have HO5 := hideIt k1; have hb5 : Below w.heap.size w0 w5 := ((((Below.refl w0.heap.size w0).alloc (Nat.le_refl _) _).trans ((below_drew _).mono (by simp))).mono HBZ.out.size).grown k2 (by have := HBZ.out.size; simp; omega) (fun k e => (World.ownsRow.lt HOZ.out k e).1); have HB5 := hideIt (HBZ.out.trans hb5); have HK5 := hideIt (Kept.of_below hb5 (A := (· < w.heap.size)) (fun _ h _ => h)); clear k1 k2 k3 hb5)
                all_goals
                  go_simp
                  go_wp2
                  refine ⟨⟨[], [], o ++ [y], _, _, _, _, rfl, rfl, ?_, ?_, ?_, ?_, ?_, ?_, ?_, HB5.out⟩, ?_⟩
                  · simp at hq1 hq2 ⊢; try omega
                  · simp at hq1 hq2 ⊢; try omega
                  · exact hideIt (ents_tail (x := x) (l := []) (HHZ.out.kept HK5.out) _ _ (Or.inr (Or.inr ⟨rfl, _, rfl⟩)))
                  · exact hideIt (ents_tail (x := y) (l := []) (HLZ.out.kept HK5.out) _ _ (Or.inr (Or.inr ⟨rfl, _, rfl⟩)))
                  · rw [List.length_append, entsCells_append]; exact HO5
                  · exact hideIt (fun r hr => by rw [List.append_assoc]; exact HM'.out _ (.eq x y [] [] r HK.out hr))
                  · simp at hsum ⊢; omega
                  · simp [sliceLen]; try omega
              · skip
                go_wp2_with fail
                go_region_law (refine step_append_own rfl (.tmp 37) (.tmp 41) 22 rfl w.heap.size 28 i0 (.agg #[.string ⟨#[]⟩, .string ⟨#[]⟩, .int .i64 0]) 3 40 Tryd.underlying22 HI.out.1 HI.out.2.1 HI.out.2.2.1 HI.out.2.2.2 rfl (by decide) (.slice a3 o.length c3) o.length (entsCells o) (by simp [Act.eval]) hrowU ⟨w0.heap.size, 0, none⟩ 1 1 (entsCells [y]) (by simp [Act.eval]) rfl hcs (entsCells_one _) (by unfold maxLen; simp at hsum; omega) (by simp at hsum; omega) (by have := HBZ.out.size; simp; omega) ?_; intro v5 w5 k1 k2 k3; have HO5 := hideIt k1; have hb5 : Below w.heap.size w0 w5 := ((((Below.refl w0.heap.size w0).alloc (Nat.le_refl _) _).trans ((below_drew _).mono (by simp))).mono HBZ.out.size).grown k2 (by have := HBZ.out.size; simp; omega) (fun k e => (World.ownsRow.lt HOZ.out k e).1); have HB5 := hideIt (HBZ.out.trans hb5); have HK5 := hideIt (Kept.of_below hb5 (A := (· < w.heap.size)) (fun _ h _ => h)); clear k1 k2 k3 hb5)
                all_goals
                  go_simp
                  go_wp2
                  refine ⟨⟨[], ls, o ++ [y], _, _, _, _, rfl, rfl, ?_, ?_, ?_, ?_, ?_, ?_, ?_, HB5.out⟩, ?_⟩
                  · simp at hq1 hq2 ⊢; try omega
                  · simp at hq1 hq2 ⊢; try omega
                  · exact hideIt (ents_tail (x := x) (l := []) (HHZ.out.kept HK5.out) _ _ (Or.inr (Or.inr ⟨rfl, _, rfl⟩)))
                  · exact hideIt (ents_tail (HLZ.out.kept HK5.out) _ _ (Or.inl rfl))
                  · rw [List.length_append, entsCells_append]; exact HO5
                  · exact hideIt (fun r hr => by rw [List.append_assoc]; exact HM'.out _ (.eq x y [] ls r HK.out hr))
                  · simp at hsum ⊢; omega
                  · simp [sliceLen]; try omega
            · skip
              have q2 : (1 : Int) ≤ (ls.length : Int) + 1 := by omega
              by_cases hcd : c2 = 1
              · subst hcd
                obtain rfl : ls = [] := by cases ls with | nil => rfl | cons a b => simp at hq2
                go_wp2_with fail
                go_region_law (refine step_append_own rfl (.tmp 37) (.tmp 41) 22 rfl w.heap.size 28 i0 (.agg #[.string ⟨#[]⟩, .string ⟨#[]⟩, .int .i64 0]) 3 40 Tryd.underlying22 HI.out.1 HI.out.2.1 HI.out.2.2.1 HI.out.2.2.2 rfl (by decide) (.slice a3 o.length c3) o.length (entsCells o) (by simp [Act.eval]) hrowU ⟨w0.heap.size, 0, none⟩ 1 1 (entsCells [y]) (by simp [Act.eval]) rfl hcs (entsCells_one _) (by unfold maxLen; simp at hsum; omega) (by simp at hsum; omega) (by have := HBZ.out.size; simp; omega) ?_; intro v5 w5 k1 k2 k3; have HO5 := hideIt k1; have hb5 : Below w.heap.size w0 w5 := ((((Below.refl w0.heap.size w0).alloc (Nat.le_refl _) _).trans ((below_drew _).mono (by simp))).mono HBZ.out.size).grown k2 (by have := HBZ.out.size; simp; omega) (fun k e => (World.ownsRow.lt HOZ.out k e).1); have HB5 := hideIt (HBZ.out.trans hb5); have HK5 := hideIt (Kept.of_below hb5 (A := (· < w.heap.size)) (fun _ h _ => h)); clear k1 k2 k3 hb5)
                all_goals
                  go_simp
                  go_wp2
                  refine ⟨⟨hs, [], o ++ [y], _, _, _, _, rfl, rfl, ?_, ?_, ?_, ?_, ?_, ?_, ?_, HB5.out⟩, ?_⟩
                  · simp at hq1 hq2 ⊢; try omega
                  · simp at hq1 hq2 ⊢; try omega
                  · exact hideIt (ents_tail (HHZ.out.kept HK5.out) _ _ (Or.inl rfl))
                  · exact hideIt (ents_tail (x := y) (l := []) (HLZ.out.kept HK5.out) _ _ (Or.inr (Or.inr ⟨rfl, _, rfl⟩)))
                  · rw [List.length_append, entsCells_append]; exact HO5
                  · exact hideIt (fun r hr => by rw [List.append_assoc]; exact HM'.out _ (.eq x y hs [] r HK.out hr))
                  · simp at hsum ⊢; omega
                  · simp [sliceLen]; try omega
              · skip
                go_wp2_with fail
                go_region_law (refine step_append_own rfl (.tmp 37) (.tmp 41) 22 rfl w.heap.size 28 i0 (.agg #[.string ⟨#[]⟩, .string ⟨#[]⟩, .int .i64 0]) 3 40 Tryd.underlying22 HI.out.1 HI.out.2.1 HI.out.2.2.1 HI.out.2.2.2 rfl (by decide) (.slice a3 o.length c3) o.length (entsCells o) (by simp [Act.eval]) hrowU ⟨w0.heap.size, 0, none⟩ 1 1 (entsCells [y]) (by simp [Act.eval]) rfl hcs (entsCells_one _) (by unfold maxLen; simp at hsum; omega) (by simp at hsum; omega) (by have := HBZ.out.size; simp; omega) ?_; intro v5 w5 k1 k2 k3; have HO5 := hideIt k1; have hb5 : Below w.heap.size w0 w5 := ((((Below.refl w0.heap.size w0).alloc (Nat.le_refl _) _).trans ((below_drew _).mono (by simp))).mono HBZ.out.size).grown k2 (by have := HBZ.out.size; simp; omega) (fun k e => (World.ownsRow.lt HOZ.out k e).1); have HB5 := hideIt (HBZ.out.trans hb5); have HK5 := hideIt (Kept.of_below hb5 (A := (· < w.heap.size)) (fun _ h _ => h)); clear k1 k2 k3 hb5)
                all_goals
                  go_simp
                  go_wp2
                  refine ⟨⟨hs, ls, o ++ [y], _, _, _, _, rfl, rfl, ?_, ?_, ?_, ?_, ?_, ?_, ?_, HB5.out⟩, ?_⟩
                  · simp at hq1 hq2 ⊢; try omega
                  · simp at hq1 hq2 ⊢; try omega
                  · exact hideIt (ents_tail (HHZ.out.kept HK5.out) _ _ (Or.inl rfl))
                  · exact hideIt (ents_tail (HLZ.out.kept HK5.out) _ _ (Or.inl rfl))
                  · rw [List.length_append, entsCells_append]; exact HO5
                  · exact hideIt (fun r hr => by rw [List.append_assoc]; exact HM'.out _ (.eq x y hs ls r HK.out hr))
                  · simp at hsum ⊢; omega
                  · simp [sliceLen]; try omega
          · have hk3 : (x.1 == y.1) = false := by simpa using hk2
            rw [show Lib.compareBytes (⟨x.1.toArray⟩ : ByteArray).data.toList (⟨y.1.toArray⟩ : ByteArray).data.toList = 1 from cmp_gt hk hk3]
            have HK : Hid (kLt y.1 x.1) := hideIt (by
              rcases kLt_total (a := x.1) (b := y.1) (fun e => hk2 (by rw [e]; simp)) with h | h
              · exact absurd h hk
              · exact h)
            clear hk hk2 hk3
            obtain ⟨U, hU, hUb, hUs, hUo⟩ := lit_one w0.drew y
            have hcs := RowIn.cells (RowIn.of_own (A := fun k => w0.drew.heap.size ≤ k) hUo (fun _ h => h))
            have hrowU := ownsRow_of_block (own_drew HOZ.out 1) (fun g hg => hUb.block g (ownsRow_lt (own_drew HOZ.out 1) hg))
            rw [hU] at hcs hrowU
            clear hU hUb hUs hUo
            have q2 : (1 : Int) ≤ (ls.length : Int) + 1 := by omega
            by_cases hcd : c2 = 1
            · subst hcd
              obtain rfl : ls = [] := by cases ls with | nil => rfl | cons a b => simp at hq2
              go_wp2_with fail
              go_region_law (refine step_append_own rfl (.tmp 37) (.tmp 41) 22 rfl w.heap.size 28 i0 (.agg #[.string ⟨#[]⟩, .string ⟨#[]⟩, .int .i64 0]) 3 40 Tryd.underlying22 HI.out.1 HI.out.2.1 HI.out.2.2.1 HI.out.2.2.2 rfl (by decide) (.slice a3 o.length c3) o.length (entsCells o) (by simp [Act.eval]) hrowU ⟨w0.heap.size, 0, none⟩ 1 1 (entsCells [y]) (by simp [Act.eval]) rfl hcs (entsCells_one _) (by unfold maxLen; simp at hsum; omega) (by simp at hsum; omega) (by have := HBZ.out.size; simp; omega) ?_; intro v5 w5 k1 k2 k3; have HO5 := hideIt k1; have hb5 : Below w.heap.size w0 w5 := ((((Below.refl w0.heap.size w0).alloc (Nat.le_refl _) _).trans ((below_drew _).mono (by simp))).mono HBZ.out.size).grown k2 (by have := HBZ.out.size; simp; omega) (fun k e => (World.ownsRow.lt HOZ.out k e).1); have HB5 := hideIt (HBZ.out.trans hb5); have HK5 := hideIt (Kept.of_below hb5 (A := (· < w.heap.size)) (fun _ h _ => h)); clear k1 k2 k3 hb5)
              all_goals
                go_simp
                go_wp2
                refine ⟨⟨x :: hs, [], o ++ [y], _, _, _, _, rfl, rfl, ?_, ?_, ?_, ?_, ?_, ?_, ?_, HB5.out⟩, ?_⟩
                · simp at hq1 hq2 ⊢; try omega
                · simp at hq1 hq2 ⊢; try omega
                · exact hideIt (HHZ.out.kept HK5.out)
                · exact hideIt (ents_tail (x := y) (l := []) (HLZ.out.kept HK5.out) _ _ (Or.inr (Or.inr ⟨rfl, _, rfl⟩)))
                · rw [List.length_append, entsCells_append]; exact HO5
                · exact hideIt (fun r hr => by rw [List.append_assoc]; exact HM'.out _ (.gt x y hs [] r HK.out hr))
                · simp at hsum ⊢; omega
                · simp [sliceLen]; try omega
            · skip
              go_wp2_with fail
              go_region_law (refine step_append_own rfl (.tmp 37) (.tmp 41) 22 rfl w.heap.size 28 i0 (.agg #[.string ⟨#[]⟩, .string ⟨#[]⟩, .int .i64 0]) 3 40 Tryd.underlying22 HI.out.1 HI.out.2.1 HI.out.2.2.1 HI.out.2.2.2 rfl (by decide) (.slice a3 o.length c3) o.length (entsCells o) (by simp [Act.eval]) hrowU ⟨w0.heap.size, 0, none⟩ 1 1 (entsCells [y]) (by simp [Act.eval]) rfl hcs (entsCells_one _) (by unfold maxLen; simp at hsum; omega) (by simp at hsum; omega) (by have := HBZ.out.size; simp; omega) ?_; intro v5 w5 k1 k2 k3; have HO5 := hideIt k1; have hb5 : Below w.heap.size w0 w5 := ((((Below.refl w0.heap.size w0).alloc (Nat.le_refl _) _).trans ((below_drew _).mono (by simp))).mono HBZ.out.size).grown k2 (by have := HBZ.out.size; simp; omega) (fun k e => (World.ownsRow.lt HOZ.out k e).1); have HB5 := hideIt (HBZ.out.trans hb5); have HK5 := hideIt (Kept.of_below hb5 (A := (· < w.heap.size)) (fun _ h _ => h)); clear k1 k2 k3 hb5)
              all_goals
                go_simp
                go_wp2
                refine ⟨⟨x :: hs, ls, o ++ [y], _, _, _, _, rfl, rfl, ?_, ?_, ?_, ?_, ?_, ?_, ?_, HB5.out⟩, ?_⟩
                · simp at hq1 hq2 ⊢; try omega
                · simp at hq1 hq2 ⊢; try omega
                · exact hideIt (HHZ.out.kept HK5.out)
                · exact hideIt (ents_tail (HLZ.out.kept HK5.out) _ _ (Or.inl rfl))
                · rw [List.length_append, entsCells_append]; exact HO5
                · exact hideIt (fun r hr => by rw [List.append_assoc]; exact HM'.out _ (.gt x y hs ls r HK.out hr))
                · simp at hsum ⊢; omega
                · simp [sliceLen]; try omega
end Go.Proofs.YtddmjbmfkdhhgaaDoor
