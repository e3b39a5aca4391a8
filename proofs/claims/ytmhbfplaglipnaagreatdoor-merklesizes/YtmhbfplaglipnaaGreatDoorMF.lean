/-
  What is proved here: merkle's down, of rows of ints, whatever functions it is handed; over this program.
-/
import Derived.Test.YtmhbfplaglipnaaGreatDoorME
namespace Go.Proofs.YtmhbfplaglipnaaGreatDoor
open Go.RowKit Go.Extern.Stop Go.Stop Go.Extern

set_option maxRecDepth 100000 in
set_option maxHeartbeats 8000000 in
theorem downS_all {τ : Type} {Own : τ → Nat → Prop} {I : World → τ → Prop} {C : Nat → Nat → τ → Prop} {P : Nat → Nat → World → τ → Value → World → τ → Prop} {lf wf jf : Nat} {lc wc jc : Array Value} {F m M N : Nat} (D : DownSpec Own I C P lf wf jf lc wc jc F m M N) :
    ∀ (n lo : Nat) (w : World) (t : τ), M ≤ lo → lo + n ≤ N → (1 ≤ n ∨ lo = 0) → I w t → C lo n t →
    Calls Tryz.prog 55 #[.agg #[.int .i64 lo, .int .i64 n], .agg #[.int .i64 F, .int .i64 m], .func (.func lf) #[] lc, .func (.func wf) #[] wc, .func (.func jf) #[] jc] w fun e w' => ∃ x t', e = .returned (.tuple #[x, .nilIface]) ∧ P lo n w t x w' t' := by
  intro n
  induction n using Nat.strongRecOn with
  | ind n ih =>
    intro lo w t hM hlo hn hI hC
    have HM0 := hideIt hM
    have HIH := hideIt ih
    have HD := hideIt D
    have hF := D.hF
    have hN := D.hN
    have HLO := hideIt hlo
    have el := D.el
    have ew := D.ew
    have ej := D.ej
    have HI := hideIt hI
    have HC := hideIt hC
    have HN := hideIt hn
    clear ih D hI hC hn
    obtain ⟨W, hW, hwb, hws, c0, c1, c2, c3⟩ := rooms22 w 61 61 (.int .i64 lo) (.int .i64 n) (.int .i64 F) (.int .i64 m)
    have HWS := hideIt hws
    go_enter Tryz.func55, Tryz.ntmps55
    go_wp2_with fail
    rw [← hW]
    clear hW
    refine (meets_any lo n F m W (by omega) (by omega) (by omega) (by omega)).mono ?_
    rintro e w1 ⟨rfl, hb⟩
    have HB1 := hideIt (hwb.trans (hb.mono hwb.size))
    have hs1 : w.heap.size + 2 ≤ w1.heap.size := by have := hb.size; omega
    have d0 := (hb.cell (lt_of_cell c0)).trans c0
    have d1 := (hb.cell (lt_of_cell c1)).trans c1
    have d2 := (hb.cell (lt_of_cell c2)).trans c2
    have d3 := (hb.cell (lt_of_cell c3)).trans c3
    have HI1 := hideIt (HD.out.hI w t w1 HI.out HB1.out)
    clear hwb hws hb c0 c1 c2 c3
    by_cases hm : meet lo n F m = false
    · rw [hm]
      have HM := hideIt (meet_out HN.out hm)
      clear hm d2 d3
      go_wp2_with fail
      refine (HD.out.hw w1 t lo n HI1.out HC.out HM0.out HLO.out HM.out HN.out).mono ?_
      rintro e w2 ⟨x, t', rfl, hp⟩
      have HP := hideIt (HD.out.hP _ _ _ _ _ _ _ _ HB1.out hp)
      clear hp
      go_wp2
      go_ret2
      exact ⟨x, t', rfl, HP.out⟩
    · have hm2 : meet lo n F m = true := by simpa using hm
      rw [hm2]
      have HM := hideIt (meet_in hm2).1
      have hn1 := (meet_in hm2).2
      clear hm hm2
      by_cases h1 : n = 1
      · subst h1
        have HR : Hid (F ≤ lo ∧ lo < F + m) := hideIt (by have := HM.out; omega)
        clear d2 d3 hn1
        go_wp2_with fail
        refine (HD.out.hl w1 t lo HI1.out HC.out HM0.out HLO.out HR.out.1 HR.out.2).mono ?_
        rintro e w2 ⟨x, t', rfl, hp⟩
        have HP := hideIt (HD.out.hP _ _ _ _ _ _ _ _ HB1.out hp)
        clear hp
        go_wp2
        go_ret2
        exact ⟨x, t', rfl, HP.out⟩
      · have h2 : 2 ≤ n := by omega
        have h3 : ((n : Int) == 1) = false := by simp; omega
        clear h1
        have HH := hideIt (halves_any lo n w1 (by omega) (by omega))
        have HP1 := hideIt (pw_lt h2)
        have HP2 := hideIt (pw_pos n)
        have HC1 := hideIt (HD.out.hC lo n t h2 HM.out HC.out)
        have HC2 := hideIt (fun w a w1 t1 => HD.out.hC2 lo n w t a w1 t1 h2 HM.out HC.out)
        have HJ := hideIt (fun w0 hi a w1 t1 b w2 t2 => HD.out.hj w0 t a w1 t1 b w2 t2 lo n hi HM0.out HLO.out h2 HM.out HC.out)
        obtain ⟨n1, hn1'⟩ : ∃ n1, n1 = pw n := ⟨_, rfl⟩
        obtain ⟨n2, hn2'⟩ : ∃ n2, n2 = n - pw n := ⟨_, rfl⟩
        obtain ⟨lo2, hlo2⟩ : ∃ lo2, lo2 = lo + pw n := ⟨_, rfl⟩
        rw [← hn2', ← hlo2] at HH HJ
        rw [← hn2', ← hlo2] at HC2
        rw [← hn1'] at HP1 HP2 HC1 HC2 HJ HH
        have b1 : n1 < n := HP1.out
        have b2 : 1 ≤ n1 := HP2.out
        have b3 : n2 < n ∧ 1 ≤ n2 ∧ lo2 + n2 ≤ N ∧ lo + n1 ≤ N ∧ M ≤ lo2 := by omega
        have HB := hideIt (And.intro b1 (And.intro b2 b3))
        clear hn1' hn2' hlo2 HP1 HP2 b1 b2 b3
        go_wp2_with fail
        refine HH.out.mono ?_
        rintro e w2 ⟨rfl, hb2⟩
        obtain ⟨W3, hW3, hwb3, hws3, q0, q1, q2, q3⟩ := rooms22 w2 61 61 (.int .i64 lo) (.int .i64 n1) (.int .i64 lo2) (.int .i64 n2)
        have hb3 := hb2.trans (hwb3.mono hb2.size)
        have HB3 := hideIt (HB1.out.trans (hb3.mono HB1.out.size))
        have HI3 := hideIt (HD.out.hI w t W3 HI.out HB3.out)
        have e2 := (hb3.cell (lt_of_cell d2)).trans d2
        have e3 := (hb3.cell (lt_of_cell d3)).trans d3
        have HS3 : Hid (w.heap.size + 2 ≤ w2.heap.size ∧ W3.heap.size = w2.heap.size + 2) := hideIt ⟨by have := hb2.size; omega, hws3⟩
        clear hb2 hb3 hwb3 hws3 d0 d1 d2 d3 HH hs1 HI1 HB1
        subst hW3
        go_wp2_with fail
        generalize (w2.alloc (.cells #[.int .i64 lo, .int .i64 n1] 61)).alloc (.cells #[.int .i64 lo2, .int .i64 n2] 61) = W3 at HB3 HI3 HS3 e2 e3 q0 q1 q2 q3 ⊢
        refine (HIH.out n1 HB.out.1 lo W3 t HM0.out HB.out.2.2.2.2.2.1 (Or.inl HB.out.2.1) HI3.out HC1.out).mono ?_
        rintro e w4 ⟨x4, t4, rfl, hp4⟩
        obtain ⟨hi4, ht4, hg4⟩ := HD.out.hT _ _ _ _ _ _ _ hp4
        have hno : ∀ k, w.heap.size ≤ k → ¬ Own t k := fun k hk ho => by have := HD.out.hO w t k HI.out ho; omega
        have f2 := turn_cell ht4 e2 (hno _ (by show w.heap.size ≤ w.heap.size + 1; omega))
        have f3 := turn_cell ht4 e3 (hno _ (by show w.heap.size ≤ w.heap.size + 1; omega))
        have r2 := turn_cell ht4 q2 (hno _ (by show w.heap.size ≤ w2.heap.size + 1; have := HS3.out.1; omega))
        have r3 := turn_cell ht4 q3 (hno _ (by show w.heap.size ≤ w2.heap.size + 1; have := HS3.out.1; omega))
        have HP4 := hideIt (HD.out.hP _ _ _ _ _ _ _ _ HB3.out hp4)
        have HI4 := hideIt hi4
        have HC4 := hideIt (HC2.out _ _ _ _ hp4)
        clear hp4 ht4 hi4 hg4 hno e2 e3 q0 q1 q2 q3 HC1 HC2 HB3 HI3 HS3
        go_wp2_with fail
        refine (HIH.out n2 HB.out.2.2.1 lo2 w4 t4 HB.out.2.2.2.2.2.2 HB.out.2.2.2.2.1 (Or.inl HB.out.2.2.2.1) HI4.out HC4.out).mono ?_
        rintro e w5 ⟨x5, t5, rfl, hp5⟩
        have HP5 := hideIt hp5
        clear hp5 f2 f3 r2 r3
        go_wp2_with fail
        refine (HJ.out w HI.out x4 w4 t4 x5 w5 t5 HP4.out HP5.out).mono ?_
        rintro e w6 ⟨x6, t6, rfl, hp6⟩
        go_wp2
        go_ret2
        exact ⟨x6, t6, rfl, hp6⟩
end Go.Proofs.YtmhbfplaglipnaaGreatDoor
