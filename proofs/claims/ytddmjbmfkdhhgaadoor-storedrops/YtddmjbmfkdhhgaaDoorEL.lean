/-
  What is proved here: Lay; over this program.
-/
import Derived.Test.YtddmjbmfkdhhgaaDoorEK
import Derived.Test.YtddmjbmfkdhhgaaDoorEG
namespace Go.Proofs.YtddmjbmfkdhhgaaDoor
open Go.RowKit Go.Extern.Stop Go.Stop Go.Extern

theorem Mrg.mem {h l r : List Ent} (m : Mrg h l r) : ∀ e ∈ r, e ∈ h ∨ e ∈ l := by
  induction m using Mrg.ind with
  | nilL l => exact fun e he => Or.inr he
  | nilR h => exact fun e he => Or.inl he
  | lt x y h l r _ _ ih =>
    intro e he
    rcases List.mem_cons.1 he with rfl | he
    · exact Or.inl List.mem_cons_self
    · exact (ih e he).imp (List.mem_cons_of_mem _) id
  | eq x y h l r _ _ ih =>
    intro e he
    rcases List.mem_cons.1 he with rfl | he
    · exact Or.inr List.mem_cons_self
    · exact (ih e he).imp (List.mem_cons_of_mem _) (List.mem_cons_of_mem _)
  | gt x y h l r _ _ ih =>
    intro e he
    rcases List.mem_cons.1 he with rfl | he
    · exact Or.inr List.mem_cons_self
    · exact (ih e he).imp id (List.mem_cons_of_mem _)
theorem rising_cons {x : Ent} {r : List Ent} : Rising (x :: r) ↔ (∀ e ∈ r, kLt x.1 e.1) ∧ Rising r := by
  constructor
  · intro h
    refine ⟨fun e he => ?_, fun i j a b hij ha hb => h (i + 1) (j + 1) a b (by omega) ha hb⟩
    obtain ⟨j, hj⟩ := List.getElem?_of_mem he
    exact h 0 (j + 1) x e (by omega) rfl hj
  · rintro ⟨h1, h2⟩ i j a b hij ha hb
    cases j with
    | zero => omega
    | succ j =>
      cases i with
      | zero =>
        have : x = a := by simpa using ha
        subst this
        exact h1 b (List.mem_of_getElem? hb)
      | succ i => exact h2 i j a b (by omega) ha hb
theorem Mrg.rising {h l r : List Ent} (m : Mrg h l r) (hh : Rising h) (hl : Rising l) : Rising r := by
  induction m using Mrg.ind with
  | nilL l => exact hl
  | nilR h => exact hh
  | lt x y h l r hk m ih =>
    obtain ⟨h1, h2⟩ := rising_cons.1 hh
    refine rising_cons.2 ⟨fun e he => ?_, ih h2 hl⟩
    rcases m.mem e he with h3 | h3
    · exact h1 e h3
    · rcases List.mem_cons.1 h3 with rfl | h3
      · exact hk
      · exact kLt_trans hk ((rising_cons.1 hl).1 e h3)
  | eq x y h l r hk m ih =>
    obtain ⟨h1, h2⟩ := rising_cons.1 hh
    obtain ⟨l1, l2⟩ := rising_cons.1 hl
    refine rising_cons.2 ⟨fun e he => ?_, ih h2 l2⟩
    rcases m.mem e he with h3 | h3
    · rw [← hk]; exact h1 e h3
    · exact l1 e h3
  | gt x y h l r hk m ih =>
    obtain ⟨l1, l2⟩ := rising_cons.1 hl
    refine rising_cons.2 ⟨fun e he => ?_, ih hh l2⟩
    rcases m.mem e he with h3 | h3
    · rcases List.mem_cons.1 h3 with rfl | h3
      · exact hk
      · exact kLt_trans hk ((rising_cons.1 hh).1 e h3)
    · exact l1 e h3
theorem Mrg.fit {h l r : List Ent} (m : Mrg h l r) (hh : Fit h) (hl : Fit l) (hr : r.length ≤ 128) : Fit r :=
  fit_of hr (m.rising hh.rising hl.rising) (fun e he => by
    rcases m.mem e he with h | h
    · exact hh.mem h
    · exact hl.mem h)
/-- what Lay answers, and the entries then -/
def LayIs (l L : List Ent) (w' : World) (B : Nat) (er : Value) (l' : List Ent) : Prop :=
  (∃ n, One w' (B ≤ ·) er n ⟨#[115, 116, 111, 114, 101]⟩ l.length ∧ l' = l ∧ ((n = 1 ∧ ¬ Fit L) ∨ (n = 71 ∧ Fit L ∧ ∃ r, Mrg l L r ∧ 128 < r.length))) ∨ (er = .nilIface ∧ Fit L ∧ Mrg l L l' ∧ Fit l')

set_option maxRecDepth 100000 in
set_option maxHeartbeats 8000000 in
theorem stlay_any (w : World) (p : Nat) (O A : Nat → Prop) (l L : List Ent) (v : Value) (h : Sto w p O l) (hf : Fit l) (hv : EntsIn w A v L) (hL : L.length ≤ maxLen) (hcap : ∀ a c, v = .slice a L.length c → L.length ≤ c) :
    Calls Tryd.prog 15 #[.pointer (some ⟨p, 0, none⟩), v] w fun e w' => ∃ (er : Value) (l' : List Ent) (O' : Nat → Prop), e = .returned er ∧ Sto w' p O' l' ∧ Move w O w' O' ∧ LayIs l L w' w.heap.size er l' := by
  have HF := hideIt hf
  have HV := hideIt hv
  have HR := hideIt (stright_any w A v L hv hL)
  have HS := hideIt h
  have HC := hideIt hcap
  obtain ⟨av, cv, rfl⟩ := hv.form
  have hl := hf.1
  clear h hf hv hcap
  go_enter Tryd.func15, Tryd.ntmps15
  go_wp2_with fail
  refine HR.out.mono ?_
  rintro e w1 ⟨b, rfl, hb, hb1⟩
  have HS1 := hideIt (HS.out.next hb1)
  have HB1 := hideIt hb1
  have HBF := hideIt hb
  clear hb hb1 HR
  cases b with
  | false =>
    go_wp2_with fail
    refine (stwrong_any w1 p O l 1 (by decide) HS1.out).mono ?_
    rintro e w9 ⟨er, rfl, ho, hb9⟩
    have HO := hideIt ho
    have HB9 := hideIt (HB1.out.trans (hb9.mono HB1.out.size))
    have HS9 := hideIt (HS1.out.next hb9)
    have hsz9 := HB1.out.size
    clear ho hb9
    go_wp2
    go_ret
    exact ⟨_, l, O, rfl, HS9.out, Move.of_below HB9.out, Or.inl ⟨1, HO.out.mono (fun k hk _ => Nat.le_trans hsz9 hk), rfl, Or.inl ⟨rfl, fun hf => by have := HBF.out.2 hf; cases this⟩⟩⟩
  | true =>
    have HFL : Hid (Fit L) := hideIt (HBF.out.1 rfl)
    obtain ⟨vs, s0, s1, s2, s3, s4, s5⟩ := HS1.out
    have HIN : Hid (EntsIn w1 _ vs l) := hideIt (own_in s4)
    have HCL : Hid (∀ a c, vs = .slice a l.length c → l.length ≤ c) := hideIt (fun a c e => by
      rcases own_two s4 with ⟨e2, h0⟩ | ⟨g, cap, e2, hcp, _⟩
      · omega
      · rw [e2] at e; cases e; exact hcp)
    have HVL := hideIt (RowIn.kept (RowIn.mono (A' := (· < w.heap.size)) HV.out (fun _ _ h => h)) (Kept.of_below HB1.out (fun _ h _ => h)))
    have HST := hideIt (And.intro s1 (And.intro s2 (And.intro s3 s5)))
    clear s1 s2 s3 s4 s5
    go_wp2_with fail
    refine (smerged_any w1 _ _ vs _ l L HIN.out HVL.out (by omega) (by have := HFL.out.1; omega) HCL.out HC.out).mono ?_
    rintro e w2 ⟨vr, r, rfl, hrow, hm, hb2⟩
    have HS2 := hideIt (HS1.out.next hb2)
    have HB2 := hideIt (HB1.out.trans (hb2.mono HB1.out.size))
    have HM := hideIt hm
    have HRW := hideIt hrow
    have hpl : p < w1.heap.size := lt_of_cell (a := ⟨p, 0, none⟩) s0
    have t0 := (hb2.cell (lt_of_cell s0)).trans s0
    have t1 := (World.frozen?_of_block (a := ⟨p, 0, none⟩) (hb2.block p hpl)).trans HST.out.1
    have hsz2 := hb2.size
    have hsz1 := HB1.out.size
    obtain ⟨ar, cr, rfl⟩ := own_form hrow
    clear hrow hm hb2 s0
    by_cases hfull : 128 < r.length
    · have hd : decide ((128 : Int) < (r.length : Int)) = true := decide_eq_true (by omega)
      have HFU := hideIt hfull
      have hfi : (128 : Int) < (r.length : Int) := by omega
      clear hfull
      go_wp2_with fail
      refine (stwrong_any w2 p O l 71 (by decide) HS2.out).mono ?_
      rintro e w9 ⟨er, rfl, ho, hb9⟩
      have HO := hideIt ho
      have HB9 := hideIt (HB2.out.trans (hb9.mono HB2.out.size))
      have HS9 := hideIt (HS2.out.next hb9)
      have hsz9 := HB2.out.size
      clear ho hb9
      go_wp2
      go_ret
      exact ⟨_, l, O, rfl, HS9.out, Move.of_below HB9.out, Or.inl ⟨71, HO.out.mono (fun k hk _ => Nat.le_trans hsz9 hk), rfl, Or.inr ⟨rfl, HFL.out, r, HM.out, HFU.out⟩⟩⟩
    · have hfi : ¬ (128 : Int) < (r.length : Int) := by omega
      have HFR := hideIt (HM.out.fit HF.out HFL.out (by omega))
      clear hfull
      obtain ⟨W3, hW3⟩ : ∃ W3, w2.setCell ⟨p, 0, none⟩ (.slice ar r.length cr) = W3 := ⟨_, rfl⟩
      have hgr : w2.grownBy W3 (some p) := by rw [← hW3]; exact grown_set (grown_refl _ _) _ _
      have u0 : W3.cell? ⟨p, 0, none⟩ = some (.slice ar r.length cr) := by rw [← hW3]; exact World.cell?_setCell_same _ _ _ t0
      have u1 : W3.frozen? ⟨p, 0, none⟩ = false := by rw [← hW3, World.frozen?_setCell]; exact t1
      have hW6 : W3.heap.size = w2.heap.size := by rw [← hW3, size_set]
      have hnp : ∀ g, (Value.slice ar r.length cr).ownBlock = some g → w1.heap.size ≤ g ∧ g < w2.heap.size := fun g e => ⟨(World.ownsRow.lt HRW.out g e).1, ownsRow_lt HRW.out e⟩
      have hrow3 : W3.ownsRow 0 28 3 (.slice ar r.length cr) r.length (entsCells r) := World.ownsRow.kept (own_mono HRW.out (Nat.zero_le _)) hgr (Or.inr (fun e => by have := (hnp p e).1; omega))
      have HSO : Hid (Sto W3 p (fun k => O k ∨ (w1.heap.size ≤ k ∧ k < w2.heap.size)) r) := hideIt ⟨_, u0, u1, Or.inl HST.out.2.1, fun k hk => by
          rw [hW6]
          rcases hk with hk | hk
          · have := HST.out.2.2.1 k hk; omega
          · exact hk.2, hrow3, fun g e => ⟨Or.inr (hnp g e), by have := (hnp g e).1; omega⟩⟩
      have HMV : Hid (Move w O W3 (fun k => O k ∨ (w1.heap.size ≤ k ∧ k < w2.heap.size))) := hideIt ⟨(Turn.of_below HB2.out).trans (Turn.of_grown hgr (fun g' e _ => by cases e; exact HST.out.2.1)) (fun k hk => Or.inl hk), fun k hk => by
          rcases hk with hk | hk
          · exact Or.inl hk
          · exact Or.inr (by have := hk.1; omega)⟩
      clear hgr u0 u1 hnp hrow3
      go_wp2
      go_ret
      exact ⟨_, r, _, rfl, HSO.out, HMV.out, Or.inr ⟨rfl, HFL.out, HM.out, HFR.out⟩⟩
end Go.Proofs.YtddmjbmfkdhhgaaDoor
