/-
  What is proved here: a store's Put; over this program.
-/
import Derived.Test.YtohlepbfjgehgaaGreatDoorEH
import Derived.Laws.OwnMore
namespace Go.Proofs.YtohlepbfjgehgaaGreatDoor
open Go.RowKit Go.Extern.Stop Go.Stop Go.Extern

theorem entsCells_at3 {l : List Ent} {a : Nat} {o : Ent} (ho : l[a]? = some o) (v : List UInt8) (n : Int) : entsCells (l.set a (o.1, v, n)) = ((entsCells l).set (a * 3 + 1) (.string ⟨v.toArray⟩)).set (a * 3 + 2) (.int .i64 n) := by
  induction l generalizing a with
  | nil => simp at ho
  | cons x r ih =>
    cases a with
    | zero =>
      simp at ho; subst ho
      rfl
    | succ a =>
      have h1 : entsCells (x :: r) = .string ⟨x.1.toArray⟩ :: .string ⟨x.2.1.toArray⟩ :: .int .i64 x.2.2 :: entsCells r := rfl
      have h2 : entsCells (x :: r.set a (o.1, v, n)) = .string ⟨x.1.toArray⟩ :: .string ⟨x.2.1.toArray⟩ :: .int .i64 x.2.2 :: entsCells (r.set a (o.1, v, n)) := rfl
      rw [List.set_cons_succ, h2, h1, ih (by simpa using ho), show (a + 1) * 3 + 1 = (a * 3 + 1) + 1 + 1 + 1 by omega, show (a + 1) * 3 + 2 = (a * 3 + 2) + 1 + 1 + 1 by omega]
      simp only [List.set_cons_succ]
theorem fit_set {l : List Ent} {a : Nat} {o : Ent} {v : List UInt8} {n : Int} (h : Fit l) (ho : l[a]? = some o) (hv : v.length ≤ 64) (hn : 1 ≤ n) : Fit (l.set a (o.1, v, n)) := by
  have hal : a < l.length := (List.getElem?_eq_some_iff.1 ho).1
  have hkey : ∀ (j : Nat) e, (l.set a (o.1, v, n))[j]? = some e → ∃ e0, l[j]? = some e0 ∧ e0.1 = e.1 := by
    intro j e he
    rw [List.getElem?_set] at he
    by_cases hj : a = j
    · subst hj
      rw [if_pos rfl, if_pos hal] at he; cases he
      exact ⟨o, ho, rfl⟩
    · rw [if_neg hj] at he
      exact ⟨e, he, rfl⟩
  refine ⟨by rw [List.length_set]; exact h.1, fun j hj e he => ?_⟩
  rw [List.length_set] at hj
  obtain ⟨e0, h0, hk⟩ := hkey j e he
  have h1 := h.2 j hj e0 h0
  refine ⟨by rw [← hk]; exact h1.1, ?_, ?_, fun j' hj' e' he' => ?_⟩
  · rw [List.getElem?_set] at he
    by_cases hja : a = j
    · rw [if_pos hja, if_pos hal] at he; cases he; exact hv
    · rw [if_neg hja, h0] at he; cases he; exact h1.2.1
  · rw [List.getElem?_set] at he
    by_cases hja : a = j
    · rw [if_pos hja, if_pos hal] at he; cases he; exact hn
    · rw [if_neg hja, h0] at he; cases he; exact h1.2.2.1
  · obtain ⟨e0', h0', hk'⟩ := hkey j' e' he'
    rw [← hk, ← hk']
    exact h1.2.2.2 j' hj' e0' h0'
theorem fit_of {l : List Ent} (hl : l.length ≤ 128) (hr : Rising l) (h : ∀ e ∈ l, e.1.length ≤ 16 ∧ e.2.1.length ≤ 64 ∧ 1 ≤ e.2.2) : Fit l :=
  ⟨hl, fun j _ e he => ⟨(h e (List.mem_of_getElem? he)).1, (h e (List.mem_of_getElem? he)).2.1, (h e (List.mem_of_getElem? he)).2.2, fun j' hj' e' he' => hr j' j e' e (by omega) he' he⟩⟩
theorem Fit.mem {l : List Ent} (h : Fit l) {e : Ent} (he : e ∈ l) : e.1.length ≤ 16 ∧ e.2.1.length ≤ 64 ∧ 1 ≤ e.2.2 := by
  obtain ⟨j, hj⟩ := List.getElem?_of_mem he
  have := h.2 j (List.getElem?_eq_some_iff.1 hj).1 e hj
  exact ⟨this.1, this.2.1, this.2.2.1⟩
theorem ins_get {l : List Ent} {a : Nat} {x : Ent} (ha : a ≤ l.length) (j : Nat) : (l.take a ++ [x] ++ l.drop a)[j]? = if j < a then l[j]? else if j = a then some x else l[j - 1]? := by
  have h1 : (l.take a).length = a := by rw [List.length_take]; omega
  by_cases hj : j < a
  · rw [if_pos hj, List.append_assoc, List.getElem?_append_left (by omega), List.getElem?_take_of_lt hj]
  · rw [if_neg hj]
    by_cases hj2 : j = a
    · subst hj2
      rw [if_pos rfl, List.append_assoc, List.getElem?_append_right (by omega), h1, Nat.sub_self]
      rfl
    · rw [if_neg hj2, List.getElem?_append_right (by rw [List.length_append, h1]; show a + 1 ≤ j; omega), List.length_append, h1, List.getElem?_drop]
      congr 1
      show a + (j - (a + 1)) = j - 1
      omega
theorem fit_ins {l : List Ent} {a : Nat} {x : Ent} (h : Fit l) (hp : PlaceIs l x.1 a) (hn : hasAt l x.1 a = false) (hl : l.length < 128) (hx : x.1.length ≤ 16 ∧ x.2.1.length ≤ 64 ∧ 1 ≤ x.2.2) : Fit (l.take a ++ [x] ++ l.drop a) := by
  have hr := h.rising
  have hne := place_get hr hp hn
  refine fit_of (by simp only [List.length_append, List.length_take, List.length_drop, List.length_cons, List.length_nil]; have := hp.1; omega) ?_ ?_
  · intro i j e e' hij he he'
    rw [ins_get hp.1] at he he'
    have hlow : ∀ (t : Nat) y, t < a → l[t]? = some y → kLt y.1 x.1 := fun t y ht hy => hp.2.1 t y ht hy
    have hhigh : ∀ (t : Nat) y, a ≤ t → l[t]? = some y → kLt x.1 y.1 := fun t y ht hy => by
      rcases kLt_total (hne t y hy) with h1 | h1
      · exact absurd h1 (hp.2.2 t y ht hy)
      · exact h1
    by_cases h1 : i < a
    · rw [if_pos h1] at he
      by_cases h2 : j < a
      · rw [if_pos h2] at he'; exact hr i j e e' hij he he'
      · rw [if_neg h2] at he'
        by_cases h3 : j = a
        · rw [if_pos h3] at he'; cases he'; exact hlow i e h1 he
        · rw [if_neg h3] at he'; exact kLt_trans (hlow i e h1 he) (hhigh (j - 1) e' (by omega) he')
    · rw [if_neg h1] at he
      rw [if_neg (by omega)] at he'
      by_cases h2 : i = a
      · rw [if_pos h2] at he; cases he
        rw [if_neg (by omega)] at he'
        exact hhigh (j - 1) e' (by omega) he'
      · rw [if_neg h2] at he
        rw [if_neg (by omega)] at he'
        exact hr (i - 1) (j - 1) e e' (by omega) he he'
  · intro e he
    rw [List.mem_append, List.mem_append] at he
    rcases he with (he | he) | he
    · exact h.mem (List.mem_of_mem_take he)
    · simp at he; subst he; exact hx
    · exact h.mem (List.mem_of_mem_drop he)
/-- a value and a version laid into a store's row -/
theorem sto_put {w : World} {p g cap : Nat} {O : Nat → Prop} {l : List Ent} {a : Nat} {o : Ent} {val : List UInt8} {n : Int} (h0 : w.cell? ⟨p, 0, none⟩ = some (.slice (some ⟨g, 0, none⟩) l.length cap)) (h1 : w.frozen? ⟨p, 0, none⟩ = false) (h2 : O p) (h3 : ∀ k, O k → k < w.heap.size)
    (h4 : w.ownsRow 0 42 3 (.slice (some ⟨g, 0, none⟩) l.length cap) l.length (entsCells l)) (h5 : O g ∧ g ≠ p) (ho : l[a]? = some o) :
    Sto ((w.setCell ⟨g, a * 3 + 1, none⟩ (.string ⟨val.toArray⟩)).setCell ⟨g, a * 3 + 2, none⟩ (.int .i64 n)) p O (l.set a (o.1, val, n)) ∧ w.grownBy ((w.setCell ⟨g, a * 3 + 1, none⟩ (.string ⟨val.toArray⟩)).setCell ⟨g, a * 3 + 2, none⟩ (.int .i64 n)) (some g) := by
  have k1 := World.ownsRow.stored h4 (a * 3 + 1) (.string ⟨val.toArray⟩)
  have k2 := World.ownsRow.stored k1.1 (a * 3 + 2) (.int .i64 n)
  have hgr := World.grownBy.trans k1.2 k2.2
  have hpl := lt_of_cell h0
  have hb := hgr.block p hpl (fun e => by cases e; exact h5.2 rfl)
  refine ⟨⟨_, (World.cell?_of_block (a := ⟨p, 0, none⟩) hb).trans h0, (World.frozen?_of_block (a := ⟨p, 0, none⟩) hb).trans h1, h2, fun k hk => Nat.lt_of_lt_of_le (h3 k hk) hgr.size, ?_, fun g' e => by cases e; exact h5⟩, hgr⟩
  rw [List.length_set, entsCells_at3 ho]
  exact k2.1
theorem set_ins {l : List Ent} {a : Nat} {x y : Ent} (ha : a ≤ l.length) : (l.take a ++ [x] ++ l.drop a).set a y = l.take a ++ [y] ++ l.drop a := by
  have h1 : (l.take a).length = a := by rw [List.length_take]; omega
  rw [List.append_assoc, List.append_assoc, List.set_append_right _ _ (by omega), h1, Nat.sub_self]
  rfl
/-- what Put comes to -/
def PutIs (l : List Ent) (key val : List UInt8) (w' : World) (B : Nat) (er : Value) (l' : List Ent) : Prop :=
  (∃ n, One w' (B ≤ ·) er n ⟨#[115, 116, 111, 114, 101]⟩ l.length ∧ l' = l ∧ ((n = 1 ∧ (longB key val = true ∨ ∃ (i : Nat) (o : Ent), l[i]? = some o ∧ o.1 = key ∧ 4611686018427387904 ≤ o.2.2)) ∨ (n = 71 ∧ longB key val = false ∧ 128 ≤ l.length ∧ ∀ (i : Nat) e, l[i]? = some e → e.1 ≠ key))) ∨
  (er = .nilIface ∧ Fit l' ∧ longB key val = false ∧ ∃ a, PlaceIs l key a ∧ ((∃ o, l[a]? = some o ∧ o.1 = key ∧ o.2.2 < 4611686018427387904 ∧ l' = l.set a (o.1, val, o.2.2 + 1)) ∨ (hasAt l key a = false ∧ l' = l.take a ++ [(key, val, 1)] ++ l.drop a)))

set_option maxRecDepth 100000 in
set_option maxHeartbeats 8000000 in
theorem stput_any (w : World) (p : Nat) (O : Nat → Prop) (l : List Ent) (key val : List UInt8) (h : Sto w p O l) (hf : Fit l) :
    Calls Tryz.prog 56 #[.pointer (some ⟨p, 0, none⟩), .string ⟨key.toArray⟩, .string ⟨val.toArray⟩] w fun e w' => ∃ (er : Value) (l' : List Ent) (O' : Nat → Prop), e = .returned er ∧ Sto w' p O' l' ∧ Move w O w' O' ∧ PutIs l key val w' w.heap.size er l' := by
  have HF := hideIt hf
  have HFD := hideIt (stfind_any w p O l key h hf.rising (by have := hf.1; omega))
  have HS := hideIt h
  have hl := hf.1
  clear h hf
  go_enter Tryz.func56, Tryz.ntmps56
  go_wp2_with fail
  refine HFD.out.mono ?_
  rintro e w1 ⟨a, rfl, hp, hb1⟩
  have HS1 := hideIt (HS.out.next hb1)
  have HB1 := hideIt hb1
  have HP := hideIt hp
  obtain ⟨is, his⟩ : ∃ is, is = hasAt l key a := ⟨_, rfl⟩
  have HIS := hideIt his
  rw [← his]
  clear his hb1 hp HFD
  go_wp2_with fail
  refine (stlong_any w1 key val).mono ?_
  rintro e w2 ⟨rfl, hb2⟩
  have HS2 := hideIt (HS1.out.next hb2)
  have HB2 := hideIt (HB1.out.trans (hb2.mono HB1.out.size))
  obtain ⟨lb, hlb⟩ : ∃ lb, lb = longB key val := ⟨_, rfl⟩
  have HLB := hideIt hlb
  rw [← hlb]
  clear hlb hb2 HS1 HB1
  cases lb with
  | true =>
    go_wp2_with fail
    refine (stwrong_any w2 p O l 1 (by decide) HS2.out).mono ?_
    rintro e w9 ⟨er, rfl, ho, hb9⟩
    have HO := hideIt ho
    have HB9 := hideIt (HB2.out.trans (hb9.mono HB2.out.size))
    have HS9 := hideIt (HS2.out.next hb9)
    have hsz9 := HB2.out.size
    obtain ⟨ty, y, rfl⟩ := ho.iface
    clear ho hb9
    go_wp2
    go_ret
    exact ⟨_, l, O, rfl, HS9.out, Move.of_below HB9.out, Or.inl ⟨1, HO.out.mono (fun k hk _ => Nat.le_trans hsz9 hk), rfl, Or.inl ⟨rfl, Or.inl HLB.out.symm⟩⟩⟩
  | false =>
    cases is with
    | true =>
      obtain ⟨x, hx, hxk⟩ : ∃ x, l[a]? = some x ∧ x.1 = key := by
        have h := HIS.out
        unfold hasAt at h
        cases hx : l[a]? with
        | none => rw [hx] at h; cases h
        | some x => rw [hx] at h; exact ⟨x, rfl, eq_of_beq h.symm⟩
      have hal : a < l.length := (List.getElem?_eq_some_iff.1 hx).1
      obtain ⟨v, s0, s1, s2, s3, s4, s5⟩ := HS2.out
      rcases own_row s4 with ⟨_, h0⟩ | ⟨g, cap, cur, rfl, _, hg, hnc, hcm, hcl, hct⟩
      case inl => omega
      have hin := own_in s4
      obtain ⟨b, off, hbb, _, e0, e1, e2⟩ := EntsIn.at hin hx
      cases hbb
      have hfz : ∀ j, w2.frozen? ⟨g, j, none⟩ = false := fun j => by simp [World.frozen?, hg]
      have f1 := hfz (0 + a * 3 + 1)
      have f2 := hfz (0 + a * 3 + 2)
      simp only [Nat.zero_add] at e0 e1 e2 f1 f2
      have HX := hideIt (And.intro hx hxk)
      have HST := hideIt (And.intro s4 (And.intro s5 (And.intro s1 (And.intro s2 s3))))
      have hgp : g ≠ p := (s5 g rfl).2
      have hxv := (HF.out.mem (List.mem_of_getElem? hx)).2.2
      clear hin hfz hg hcl hct hx hxk s1 s2 s3 s4 s5
      by_cases hver : 4611686018427387904 ≤ x.2.2
      · have hv2 : decide (4611686018427387904 ≤ x.2.2) = true := decide_eq_true hver
        have HV := hideIt hver
        clear hver
        go_wp2_with fail
        refine (stwrong_any w2 p O l 1 (by decide) HS2.out).mono ?_
        rintro e w9 ⟨er, rfl, ho, hb9⟩
        have HO := hideIt ho
        have HB9 := hideIt (HB2.out.trans (hb9.mono HB2.out.size))
        have HS9 := hideIt (HS2.out.next hb9)
        have hsz9 := HB2.out.size
        obtain ⟨ty, y, rfl⟩ := ho.iface
        clear ho hb9
        go_wp2
        go_ret
        exact ⟨_, l, O, rfl, HS9.out, Move.of_below HB9.out, Or.inl ⟨1, HO.out.mono (fun k hk _ => Nat.le_trans hsz9 hk), rfl, Or.inl ⟨rfl, Or.inr ⟨a, x, HX.out.1, HX.out.2, HV.out⟩⟩⟩⟩
      · have hv2 : decide (4611686018427387904 ≤ x.2.2) = false := decide_eq_false hver
        have hv3 : IntKind.i64.wrap (x.2.2 + 1) = x.2.2 + 1 := by simp [IntKind.wrap, IntKind.bits, IntKind.signed]; omega
        have HV := hideIt hver
        clear hver
        go_wp2
        go_ret
        obtain ⟨k1, k2⟩ := sto_put (val := val) (n := x.2.2 + 1) s0 HST.out.2.2.1 HST.out.2.2.2.1 HST.out.2.2.2.2 HST.out.1 (HST.out.2.1 g rfl) HX.out.1
        exact ⟨_, _, O, rfl, k1, (Move.of_below HB2.out).trans ⟨Turn.of_grown k2 (fun g' e _ => by cases e; exact (HST.out.2.1 g rfl).1), fun _ h => Or.inl h⟩, Or.inr ⟨rfl, fit_set HF.out HX.out.1 (longB_false.1 HLB.out.symm).2 (by omega), HLB.out.symm, a, HP.out, Or.inl ⟨x, HX.out.1, HX.out.2, (by have := HV.out; omega), rfl⟩⟩⟩
    | false =>
      have HNE := hideIt (place_get HF.out.rising HP.out HIS.out.symm)
      by_cases hfull : l.length = 128
      · have hrm : decide ((1 : Int) ≤ 128 - (l.length : Int)) = false := decide_eq_false (by omega)
        go_wp2_with fail
        refine (stroom_any w2 p O l 1 HS2.out hl).mono ?_
        rintro e w3 ⟨rfl, rfl⟩
        rw [hrm]
        go_wp2_with fail
        refine (stwrong_any w3 p O l 71 (by decide) HS2.out).mono ?_
        rintro e w9 ⟨er, rfl, ho, hb9⟩
        have HO := hideIt ho
        have HB9 := hideIt (HB2.out.trans (hb9.mono HB2.out.size))
        have HS9 := hideIt (HS2.out.next hb9)
        have hsz9 := HB2.out.size
        obtain ⟨ty, y, rfl⟩ := ho.iface
        clear ho hb9
        go_wp2
        go_ret
        exact ⟨_, l, O, rfl, HS9.out, Move.of_below HB9.out, Or.inl ⟨71, HO.out.mono (fun k hk _ => Nat.le_trans hsz9 hk), rfl, Or.inr ⟨rfl, HLB.out.symm, by omega, HNE.out⟩⟩⟩
      · have hrm : decide ((1 : Int) ≤ 128 - (l.length : Int)) = true := decide_eq_true (by omega)
        obtain ⟨v, s0, s1, s2, s3, s4, s5⟩ := HS2.out
        obtain ⟨av, cv, rfl⟩ := own_form s4
        have HST := hideIt (And.intro s4 (And.intro s5 (And.intro s1 (And.intro s2 s3))))
        clear s1 s2 s3 s4 s5
        go_wp2_with fail
        refine (stroom_any w2 p O l 1 HS2.out hl).mono ?_
        rintro e w3 ⟨rfl, rfl⟩
        rw [hrm]
        have hpl : p < w3.heap.size := lt_of_cell (a := ⟨p, 0, none⟩) s0
        have hKB := (Below.refl w3.heap.size w3).alloc (Nat.le_refl _) (.cells #[.string ⟨key.toArray⟩, .string ⟨#[]⟩, .int .i64 0] 42)
        have hins := insE_any (w3.alloc (.cells #[.string ⟨key.toArray⟩, .string ⟨#[]⟩, .int .i64 0] 42)) 0 (.slice av l.length cv) l (key, [], 0) a w3.heap.size (ownsRow_of_block HST.out.1 (fun g hg => hKB.block g (ownsRow_lt HST.out.1 hg))) (Nat.zero_le _) HP.out.1 (by omega) (heap_alloc_new w3 _) (fun e => by have := ownsRow_lt HST.out.1 e; omega)
        have HINS := hideIt hins
        have HKB := hideIt hKB
        clear hins hKB
        go_wp2_with fail
        refine HINS.out.mono ?_
        rintro e w4 ⟨v', rfl, h1, h2, h3⟩
        rcases own_row h1 with ⟨_, h0⟩ | ⟨g, cap, cur, rfl, _, hg, hnc, hcm, hcl, hct⟩
        case inl => omega
        have hgp : g ≠ p := by
          rcases h3 with h3 | ⟨g', e, h3⟩
          · exact (HST.out.2.1 g h3.symm).2
          · have e2 : g = g' := by simpa [Value.ownBlock] using e
            have := HKB.out.size; omega
        have hsz3 : (w3.alloc (.cells #[.string ⟨key.toArray⟩, .string ⟨#[]⟩, .int .i64 0] 42)).heap.size = w3.heap.size + 1 := by simp
        have hbp : w4.heap[p]? = w3.heap[p]? := (h2.block p (by omega) (fun e => (HST.out.2.1 p e.symm).2 rfl)).trans (HKB.out.block p hpl)
        have t0 := (World.cell?_of_block (a := ⟨p, 0, none⟩) hbp).trans s0
        have t1 := (World.frozen?_of_block (a := ⟨p, 0, none⟩) hbp).trans HST.out.2.2.1
        have hl1 : (l.take a ++ [(key, [], 0)] ++ l.drop a).length = l.length + 1 := by simp only [List.length_append, List.length_take, List.length_drop, List.length_cons, List.length_nil]; have := HP.out.1; omega
        have hat : (l.take a ++ [((key, [], 0) : Ent)] ++ l.drop a)[a]? = some (key, [], 0) := by rw [ins_get HP.out.1, if_neg (by omega), if_pos rfl]
        obtain ⟨W5, hW5⟩ : ∃ W5, w4.setCell ⟨p, 0, none⟩ (.slice (some ⟨g, 0, none⟩) (l.length + 1) cap) = W5 := ⟨_, rfl⟩
        have hgr5 : w4.grownBy W5 (some p) := by rw [← hW5]; exact grown_set (grown_refl _ _) _ _
        have u0 : W5.cell? ⟨p, 0, none⟩ = some (.slice (some ⟨g, 0, none⟩) (l.length + 1) cap) := by rw [← hW5]; exact World.cell?_setCell_same _ _ _ t0
        have u1 : W5.frozen? ⟨p, 0, none⟩ = false := by rw [← hW5, World.frozen?_setCell]; exact t1
        have hrow5 : W5.ownsRow 0 42 3 (.slice (some ⟨g, 0, none⟩) (l.length + 1) cap) (l.length + 1) (entsCells (l.take a ++ [(key, [], 0)] ++ l.drop a)) := World.ownsRow.kept h1 hgr5 (Or.inr (fun e => by cases e; exact hgp rfl))
        have HIN5 : EntsIn W5 (fun k => k = g) (.slice (some ⟨g, 0, none⟩) (l.length + 1) cap) (l.take a ++ [(key, [], 0)] ++ l.drop a) := by
          have h := own_in hrow5
          unfold EntsIn
          rw [hl1]
          exact RowIn.mono h (fun k hk _ => by cases hk; rfl)
        obtain ⟨b, off, hbb, _, e0, e1, e2⟩ := EntsIn.at HIN5 hat
        cases hbb
        have f1 := World.ownsRow.frozenAt hrow5 (a * 3 + 1)
        have f2 := World.ownsRow.frozenAt hrow5 (a * 3 + 2)
        simp only [Nat.zero_add] at e0 e1 e2
        have HR5 := hideIt (And.intro hrow5 (And.intro hgr5 (And.intro h2 (And.intro h3 (And.intro hl1 (And.intro hat (And.intro u0 u1)))))))
        have hal1 : a < l.length + 1 := by have := HP.out.1; omega
        clear h1 h2 h3 hg hnc hcm hcl hct hrow5 hgr5 HIN5 hbp hsz3 hat hl1
        go_wp2
        go_ret
        obtain ⟨r1, r2, r3, r4, r5, r6, r7, r8⟩ := HR5.out
        have hz3 := HB2.out.size
        have hz4 : w3.heap.size + 1 ≤ w4.heap.size := by have h := r3.size; simpa using h
        have hz5 := r2.size
        obtain ⟨O', hO'⟩ : ∃ O' : Nat → Prop, O' = fun k => O k ∨ (w3.heap.size ≤ k ∧ k < w4.heap.size) := ⟨_, rfl⟩
        have hg5 : g < w4.heap.size := by
          have h := (World.ownsRow.lt r1 g rfl).2
          have h6 : W5.heap.size = w4.heap.size := by rw [← hW5, size_set]
          omega
        have hOg : O g ∨ w3.heap.size ≤ g := by
          rcases r4 with e | ⟨g', e, h⟩
          · exact Or.inl (HST.out.2.1 g e.symm).1
          · have e2 : g = g' := by simpa [Value.ownBlock] using e
            exact Or.inr (by have := HKB.out.size; omega)
        have hOp : O' p := by rw [hO']; exact Or.inl HST.out.2.2.2.1
        have hOl : ∀ k, O' k → k < W5.heap.size := fun k hk => by
          rw [hO'] at hk
          rcases hk with h | h
          · have := HST.out.2.2.2.2 k h; omega
          · omega
        have hOg2 : O' g := by
          rw [hO']
          rcases hOg with h | h
          · exact Or.inl h
          · exact Or.inr ⟨h, hg5⟩
        have hOw : ∀ k, O' k → O k ∨ w.heap.size ≤ k := fun k hk => by
          rw [hO'] at hk
          rcases hk with h | h
          · exact Or.inl h
          · exact Or.inr (by omega)
        rw [← r5] at r1 r7
        obtain ⟨k1, k2⟩ := sto_put (O := O') (val := val) (n := 1) r7 r8 hOp hOl r1 ⟨hOg2, hgp⟩ r6
        rw [set_ins HP.out.1] at k1
        have hT3 : Turn O w w3 := Turn.of_below HB2.out
        have hT4 : Turn O w w4 := (hT3.trans (Turn.of_below (O := O) HKB.out) (fun _ h => Or.inl h)).trans (Turn.of_grown (O := O) r3 (fun g' e _ => (HST.out.2.1 g' e).1)) (fun _ h => Or.inl h)
        have hT5 : Turn O w W5 := hT4.trans (Turn.of_grown (O := O) r2 (fun g' e _ => by cases e; exact HST.out.2.2.2.1)) (fun _ h => Or.inl h)
        have hgw : ∀ k, k = g → O k ∨ w.heap.size ≤ k := fun k hk => by
          subst hk
          rcases hOg with h | h
          · exact Or.inl h
          · exact Or.inr (by omega)
        have hT6 := hT5.trans (Turn.of_grown (O := fun k => k = g) k2 (fun g' e _ => by cases e; rfl)) hgw
        have hlb := longB_false.1 HLB.out.symm
        exact ⟨_, _, O', rfl, k1, ⟨hT6, hOw⟩, Or.inr ⟨rfl, fit_ins (x := (key, val, 1)) HF.out HP.out HIS.out.symm (by omega) ⟨hlb.1, hlb.2, Int.le_refl 1⟩, HLB.out.symm, a, HP.out, Or.inr ⟨HIS.out.symm, rfl⟩⟩⟩
end Go.Proofs.YtohlepbfjgehgaaGreatDoor
