/-
  What is proved here: a store's Drop; over this program.
-/
import Derived.Test.YtddmjbmfkdhhgaaDoorEG
import Derived.Test.YtddmjbmfkdhhgaaDoorEO
import Derived.TacticsInMore
import Derived.Deep.RegionWith
import Derived.Deep.RegionHeld3
namespace Go.Proofs.YtddmjbmfkdhhgaaDoor
open Go.RowKit Go.Extern.Stop Go.Stop Go.Extern

theorem run_of {α : Type} (p : α → Bool) (L : List α) : ∃ K, (∀ (j : Nat) e, j < K → L[j]? = some e → p e = true) ∧ (K = L.length ∨ ∃ e, L[K]? = some e ∧ p e = false) := by
  induction L with
  | nil => exact ⟨0, fun j e h => by omega, Or.inl rfl⟩
  | cons x r ih =>
    cases hx : p x with
    | false => exact ⟨0, fun j e h => by omega, Or.inr ⟨x, rfl, hx⟩⟩
    | true =>
      obtain ⟨K, h1, h2⟩ := ih
      refine ⟨K + 1, fun j e hj he => ?_, ?_⟩
      · cases j with
        | zero => simp at he; subst he; exact hx
        | succ j => exact h1 j e (by omega) (by simpa using he)
      · rcases h2 with h2 | ⟨e, h2, h3⟩
        · exact Or.inl (by simp [h2])
        · exact Or.inr ⟨e, by simpa using h2, h3⟩
theorem drop_keep {l : List Ent} {fk tk : List UInt8} {a : Nat} (hr : Rising l) (hp : PlaceIs l fk a) :
    a + (l.filter (inR fk tk)).length ≤ l.length ∧ l.take a ++ l.drop (a + (l.filter (inR fk tk)).length) = l.filter (fun e => !inR fk tk e) := by
  obtain ⟨K, h1, h2⟩ := run_of (upB tk) (l.drop a)
  have hrun : (l.drop a).take K = l.filter (inR fk tk) := range_run hr hp (fun j e hj he => h1 j e hj (by rw [List.getElem?_drop]; exact he)) (by
    rcases h2 with h2 | ⟨e, h2, h3⟩
    · exact Or.inl (by rw [h2, List.length_drop])
    · exact Or.inr ⟨e, by rw [List.getElem?_drop] at h2; exact h2, h3⟩)
  have hlen : (l.filter (inR fk tk)).length ≤ l.length - a := by rw [← hrun, List.length_take, List.length_drop]; omega
  have ha := hp.1
  refine ⟨by omega, ?_⟩
  obtain ⟨M, hM⟩ : ∃ M, M = l.filter (inR fk tk) := ⟨_, rfl⟩
  have hmid : (l.drop a).take M.length = M := by
    have h3 : (l.drop a).take K = M := by rw [hM]; exact hrun
    rw [← h3, List.length_take]
    by_cases hK : K ≤ (l.drop a).length
    · rw [Nat.min_eq_left hK]
    · rw [Nat.min_eq_right (by omega), List.take_length, List.take_of_length_le (by omega)]
  rw [← hM]
  have e1 : l = l.take a ++ (M ++ l.drop (a + M.length)) := by
    conv => lhs; rw [← List.take_append_drop a l, ← List.take_append_drop M.length (l.drop a), hmid, List.drop_drop]
  have hMM : M.filter (inR fk tk) = M := by rw [hM, List.filter_filter]; congr 1; funext e; simp
  have e2 : M = (l.take a).filter (inR fk tk) ++ (M ++ (l.drop (a + M.length)).filter (inR fk tk)) := by
    conv => lhs; rw [hM, e1, List.filter_append, List.filter_append, hMM]
  have e3 := congrArg List.length e2
  simp only [List.length_append] at e3
  have f1 : (l.take a).filter (inR fk tk) = [] := List.eq_nil_of_length_eq_zero (by omega)
  have f2 : (l.drop (a + M.length)).filter (inR fk tk) = [] := List.eq_nil_of_length_eq_zero (by omega)
  conv => rhs; rw [e1, List.filter_append, List.filter_append]
  have g1 : (l.take a).filter (fun e => !inR fk tk e) = l.take a := List.filter_eq_self.2 fun e he => by
    have := List.filter_eq_nil_iff.1 f1 e he
    simpa using this
  have g2 : (l.drop (a + M.length)).filter (fun e => !inR fk tk e) = l.drop (a + M.length) := List.filter_eq_self.2 fun e he => by
    have := List.filter_eq_nil_iff.1 f2 e he
    simpa using this
  have g3 : M.filter (fun e => !inR fk tk e) = [] := List.filter_eq_nil_iff.2 fun e he => by
    rw [hM] at he
    have := (List.mem_filter.1 he).2
    simp [this]
  rw [g1, g2, g3, List.nil_append]
theorem box_own {β : Type} (b : Nat) (t : TypeId) (f : β → Value) : Own (fun (x : β) W => Boxed W b t (f x)) := fun s X Y row hs hg hrow =>
  (hg.block b (Array.getElem?_eq_some_iff.1 (show X.heap[b]? = _ from hs)).1 (fun e => by
    obtain ⟨o, ho, hc⟩ := hrow b e.symm
    rw [show X.heap[b]? = _ from hs] at ho; cases ho; cases hc)).trans hs

set_option maxRecDepth 100000 in
set_option maxHeartbeats 4000000 in
theorem stdrop_any (w : World) (p : Nat) (O : Nat → Prop) (l : List Ent) (fk tk : List UInt8) (h : Sto w p O l) (hr : Rising l) (hl : l.length ≤ 1000) :
    Calls Tryd.prog 14 #[.pointer (some ⟨p, 0, none⟩), .string ⟨fk.toArray⟩, .string ⟨tk.toArray⟩] w fun e w' => e = .returned (.tuple #[]) ∧ Sto w' p O (l.filter (fun e => !inR fk tk e)) ∧ Turn O w w' := by
  have HS := hideIt h
  have HR := hideIt hr
  have hlen : (l.filter (inR fk tk)).length ≤ l.length := List.length_filter_le _ _
  clear h hr
  refine (callsIn_wide (n := 5)).1 ?_
  refine callsIn_of_wp_marks Tryd.func14 rfl trivial ?_ rfl
  simp only [Tryd.ntmps14, List.size_toArray, List.length_cons, List.length_nil, Nat.reduceAdd, Nat.reduceSub, Array.replicate_succ, Array.replicate_zero, List.push_toArray, List.append_toArray, List.nil_append, List.cons_append]
  gi_wp2_with fail
  refine ⟨trivial, (callsIn_wide.2 (stwithin_any _ p fk tk)).mono ?_⟩
  rintro e w1 ⟨rfl, rfl⟩
  gi_wp2_with fail
  obtain ⟨v0, s0, _, hOp, hOl, _⟩ := HS.out
  have bO := (((Boxed.new w 3 (.int .i64 0)).alloc (.cells #[.pointer (some ⟨p, 0, none⟩)] 24)).alloc (.cells #[.string ⟨fk.toArray⟩] 9)).alloc (.cells #[.string ⟨tk.toArray⟩] 9)
  have b1 := ((Boxed.new (w.alloc (.cells #[.int .i64 0] 3)) 24 (.pointer (some ⟨p, 0, none⟩))).alloc (.cells #[.string ⟨fk.toArray⟩] 9)).alloc (.cells #[.string ⟨tk.toArray⟩] 9)
  have b2 := (Boxed.new ((w.alloc (.cells #[.int .i64 0] 3)).alloc (.cells #[.pointer (some ⟨p, 0, none⟩)] 24)) 9 (.string ⟨fk.toArray⟩)).alloc (.cells #[.string ⟨tk.toArray⟩] 9)
  have b3 := Boxed.new (((w.alloc (.cells #[.int .i64 0] 3)).alloc (.cells #[.pointer (some ⟨p, 0, none⟩)] 24)).alloc (.cells #[.string ⟨fk.toArray⟩] 9)) 9 (.string ⟨tk.toArray⟩)
  simp only [World.size_alloc] at b1 b2 b3
  have hB0 : Below w.heap.size w ((((w.alloc (.cells #[.int .i64 0] 3)).alloc (.cells #[.pointer (some ⟨p, 0, none⟩)] 24)).alloc (.cells #[.string ⟨fk.toArray⟩] 9)).alloc (.cells #[.string ⟨tk.toArray⟩] 9)) := ((((Below.refl _ w).alloc (Nat.le_refl _) _).alloc (by simp) _).alloc (by simp; omega) _).alloc (by simp; omega) _
  have hsz : ((((w.alloc (.cells #[.int .i64 0] 3)).alloc (.cells #[.pointer (some ⟨p, 0, none⟩)] 24)).alloc (.cells #[.string ⟨fk.toArray⟩] 9)).alloc (.cells #[.string ⟨tk.toArray⟩] 9)).heap.size = w.heap.size + 4 := by simp
  obtain ⟨W0, hW0⟩ : ∃ W0, (((w.alloc (.cells #[.int .i64 0] 3)).alloc (.cells #[.pointer (some ⟨p, 0, none⟩)] 24)).alloc (.cells #[.string ⟨fk.toArray⟩] 9)).alloc (.cells #[.string ⟨tk.toArray⟩] 9) = W0 := ⟨_, rfl⟩
  rw [hW0] at bO b1 b2 b3 hB0 hsz ⊢
  clear hW0
  obtain ⟨A, hA⟩ : ∃ A : Nat → Prop, A = fun k => O k ∨ (w.heap.size < k ∧ k ≤ w.heap.size + 3) := ⟨_, rfl⟩
  have hAl : ∀ k, A k → k < w.heap.size + 4 := fun k hk => by rw [hA] at hk; rcases hk with h | h; · have := hOl k h; omega
                                                              · omega
  have hAB : ¬ A w.heap.size := fun hk => by rw [hA] at hk; rcases hk with h | h; · have := hOl _ h; omega
                                             · omega
  have hA3 : A (w.heap.size + 1 + 2) := by rw [hA]; exact Or.inr ⟨by omega, by omega⟩
  have hAO : ∀ k, O k → A k := fun k hk => by rw [hA]; exact Or.inl hk
  clear hA
  refine wpIn_rangeFunc_ownH rfl (by decide) (gf := 38) (lb := #[.pointer (some ⟨w.heap.size + 1, 0, none⟩), .pointer (some ⟨w.heap.size + 1 + 1, 0, none⟩), .pointer (some ⟨w.heap.size + 1 + 2, 0, none⟩)]) rfl trivial (enters_of Tryd.func38 (by kernel_rfl) rfl)
    (within_stops 4 (by decide) (w.heap.size + 1) p A O l fk tk HR.out hl W0 hA3 b1.cell b2.cell b3.cell (HS.out.next hB0) hAO) KpA.trans (kpA_b (fun k hk => by have := hAl k hk; omega)) (Below.refl _ _) (fun _ => rfl)
    (fun pre W => Boxed W w.heap.size 3 (.int .i64 pre.length) ∧ (Below w.heap.size w W ∧ w.heap.size + 4 ≤ W.heap.size))
    (fun _ _ _ => False)
    (OwnFrom.and (Own.from (box_own _ _ (fun pre : List Ent => Value.int .i64 pre.length)) _) (OwnFrom.and (ownFrom_below (Nat.le_refl _) (by omega)) (fun _ _ _ _ hs hg _ => Nat.le_trans hs hg.size)))
    (fun _ _ _ _ _ hs _ _ => hs)
    ⟨bO, hB0, by omega⟩
    (fun x a' _ => a' = { tmps := #[.pointer (some ⟨p, 0, none⟩), .string ⟨fk.toArray⟩, .string ⟨tk.toArray⟩, undef, undef, undef, .pointer (some ⟨w.heap.size, 0, none⟩), undef, undef, .pointer (some ⟨p, 0, none⟩), .string ⟨fk.toArray⟩, .string ⟨tk.toArray⟩, .func (.func 38) #[] #[.pointer (some ⟨w.heap.size + 1, 0, none⟩), .pointer (some ⟨w.heap.size + 1 + 1, 0, none⟩), .pointer (some ⟨w.heap.size + 1 + 2, 0, none⟩)], entV x, undef, undef, undef, undef, undef, undef, undef, undef, undef, undef, undef, undef, undef, undef, undef, undef, undef, undef, undef, undef], defers := [] })
    (fun x a' _ X Y row hs hg hr => hs)
    ?assign ?body ?done ?stop
  case assign =>
    rintro l1 pre x W K ⟨hv, hB, hsW⟩ hK
    gi_wp2
    exact hK _ _ ((KeepsOthers.refl _).from _) (KpA.refl _ _) ⟨hv, hB, hsW⟩ rfl
  case body =>
    rintro l1 pre x a' W hl1 ⟨r, hr⟩ ⟨hv, hB, hsW⟩ rfl hlt
    have hsem := Oper.semAt_some
    have hc := hv.cell
    have hf := hv.frozen
    have hpl : pre.length ≤ 1000 := by omega
    gi_wp2
    have hb2 := hB.setCell (p := ⟨w.heap.size, 0, none⟩) (Nat.le_refl _) (.int .i64 ((pre.length : Int) + 1))
    exact ⟨(KeepsOthers.setCell _ _ _).from _, KpA.of_grown (grownBy_setCell' W w.heap.size _) (fun g e => by cases e; exact hAB), by rw [List.length_append]; exact hv.set _, hb2, Nat.le_trans hsW (by rw [size_set]; exact Nat.le_refl _)⟩
  case done =>
    rintro D ys W hD rfl ⟨hv, hB, hsW⟩ hK
    have hc := hv.cell
    have HSW := hideIt (HS.out.keep hB hOl)
    have hDl : w.heap.size ≤ D := by have := hD; omega
    gi_wp2_with fail
    refine ⟨trivial, (callsIn_wide.2 (stfind_any W p O l fk HSW.out HR.out (by omega))).mono ?_⟩
    rintro e w2 ⟨a, rfl, hp, hb2⟩
    have HS2 := hideIt (HSW.out.next hb2)
    have HP := hideIt hp
    have hc2 := (hb2.cell (lt_of_cell hc)).trans hc
    have HB2 := hideIt (hB.trans (hb2.mono hB.size))
    have hdk := drop_keep (tk := tk) HR.out hp
    obtain ⟨M, hM⟩ : ∃ M, M = (l.filter (inR fk tk)).length := ⟨_, rfl⟩
    rw [← hM] at hc2 hdk
    obtain ⟨b, hbM⟩ : ∃ b, b = a + M := ⟨_, rfl⟩
    rw [← hbM] at hdk
    have hbl : b ≤ l.length := hdk.1
    have hab : a ≤ b := by omega
    have hwr : IntKind.i64.wrap ((a : Int) + (M : Int)) = (b : Int) := by rw [show (a : Int) + (M : Int) = (b : Int) by omega]; simp [IntKind.wrap, IntKind.bits, IntKind.signed]; omega
    have HDK := hideIt hdk.2
    obtain ⟨v, t0, f0, u2, u3, u4, u5⟩ := HS2.out
    obtain ⟨av, cv, rfl⟩ := own_form u4
    have HST := hideIt (And.intro u2 (And.intro u3 (And.intro u4 u5)))
    have HDE := hideIt (delE_any w2.drew 0 (.slice av l.length cv) l a b (ownsRow_of_block u4 (fun _ _ => rfl)) hab hbl hl)
    have hp2 : p < w2.heap.size := lt_of_cell t0
    have HMM := hideIt (And.intro hM hbM)
    have hK2 := (hb2.block D (Array.getElem?_eq_some_iff.1 hK).1).trans hK
    have HK := hideIt (And.intro hK2 (And.intro hDl hOl))
    clear hK2 hdk u2 u3 u4 u5 hp hb2 hM hbM hK hDl hOl hOp s0 b1 b2 b3 bO hAl hAB hA3 hAO hsz hB0 hD hsW hB hc hv hlen
    gi_wp2_with fail
    refine wpIn_wide.2 ?_
    have hrl : w.heap.size < w2.heap.size := lt_of_cell hc2
    refine wp_region_noPanic ?_
    go_region_with (go_at_call 28; refine HDE.out.mono ?_; rintro e w4 ⟨v', rfl, h1, h2, h3⟩; have hpb : w4.heap[p]? = w2.heap[p]? := h2.block p hp2 (fun e => (HST.out.2.2.2 p e.symm).2 rfl); have t4 := (World.cell?_of_block (a := ⟨p, 0, none⟩) hpb).trans t0; have f4 := (World.frozen?_of_block (a := ⟨p, 0, none⟩) hpb).trans f0; obtain ⟨a4, c4, rfl⟩ := own_form h1; have HW4 := hideIt (And.intro h1 (And.intro h2 h3)); clear h1 h2 h3 hpb)
    all_goals
      refine NoPanic.normal ?_
      gi_wp2
      obtain ⟨h1, h2, h3⟩ := HW4.out
      have hln : (l.take a ++ l.drop b).length = min a l.length + (l.length - b) := by rw [List.length_append, List.length_take, List.length_drop]
      rw [hln] at h1 h3
      have e2 : w2.grownBy w4 (Value.slice av l.length cv).ownBlock := ⟨h2.os, h2.tape, h2.output, h2.size, h2.block⟩
      obtain ⟨W5, hW5⟩ : ∃ W5, w4.setCell ⟨p, 0, none⟩ (.slice a4 (min a l.length + (l.length - b)) c4) = W5 := ⟨_, rfl⟩
      have hgr5 : w4.grownBy W5 (some p) := by rw [← hW5]; exact grown_set (grown_refl _ _) _ _
      have k0 : W5.cell? ⟨p, 0, none⟩ = some (.slice a4 (min a l.length + (l.length - b)) c4) := by rw [← hW5]; exact World.cell?_setCell_same _ _ _ t4
      have k1 : W5.frozen? ⟨p, 0, none⟩ = false := by rw [← hW5, World.frozen?_setCell]; exact f4
      have hrow5 : W5.ownsRow 0 28 3 (.slice a4 (min a l.length + (l.length - b)) c4) (min a l.length + (l.length - b)) (entsCells (l.take a ++ l.drop b)) := World.ownsRow.kept h1 hgr5 (Or.inr (fun e => (HST.out.2.2.2 p (h3.symm.trans e)).2 rfl))
      rw [hW5]
      clear hW5
      have hz2 := HB2.out.size
      have hz4 := e2.size
      have hz5 := hgr5.size
      have hDw : D ≠ p := fun e => by have := HK.out.2.2 p HST.out.1; have := HK.out.2.1; omega
      have hD4 : w4.heap[D]? = some (.deferred (some [])) := (e2.block D (Array.getElem?_eq_some_iff.1 HK.out.1).1 (fun e => by have := HK.out.2.2 _ (HST.out.2.2.2 _ e.symm).1; have := HK.out.2.1; omega)).trans HK.out.1
      have hD5 : W5.heap[D]? = some (.deferred (some [])) := (hgr5.block D (Array.getElem?_eq_some_iff.1 hD4).1 (fun e => hDw (Option.some.inj e))).trans hD4
      refine ⟨by simp, .inl ⟨_, _, rfl, run_takeDeferred hD5, ?_⟩⟩
      have hgrD := grownBy_putObj' W5 D (.deferred none)
      have hp5 : p < W5.heap.size := by omega
      have hpD := hgrD.block p hp5 (fun e => hDw (Option.some.inj e).symm)
      refine ⟨_, results_none rfl _ _ _, rfl, ⟨_, (World.cell?_of_block (a := ⟨p, 0, none⟩) hpD).trans k0, (World.frozen?_of_block (a := ⟨p, 0, none⟩) hpD).trans k1, HST.out.1, fun k hk => ?_, ?_, fun g e => HST.out.2.2.2 g (h3.symm.trans e)⟩, ?_⟩
      · have := HK.out.2.2 k hk
        have := hgrD.size
        omega
      · rw [← HDK.out, hln]
        exact ownsRow_putObj hrow5 _ hD5 rfl
      · have hT : Turn O w W5 := Turn.trans (O1 := O) (Turn.of_below HB2.out) (Turn.trans (O1 := O) (Turn.of_grown e2 (fun g e _ => (HST.out.2.2.2 g e).1)) (Turn.of_grown hgr5 (fun g e _ => by cases e; exact HST.out.1)) (fun k hk => Or.inl hk)) (fun k hk => Or.inl hk)
        exact hT.trans (O1 := fun k => k = D) (Turn.of_grown hgrD (fun g e _ => by cases e; rfl)) (fun k hk => Or.inr (by rw [hk]; exact HK.out.2.1))
  case stop =>
    rintro D c pre W _ _ h _
    exact h.elim
end Go.Proofs.YtddmjbmfkdhhgaaDoor
