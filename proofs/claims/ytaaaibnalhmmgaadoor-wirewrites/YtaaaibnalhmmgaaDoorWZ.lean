/-
  What is proved here: the document's Writer (package cohortref02): List, over this program.
-/
import Derived.Test.YtaaaibnalhmmgaaDoorWY
namespace Go.Proofs.YtaaaibnalhmmgaaDoor
open Go.RowKit Go.Extern.Stop Go.Stop Go.Extern

theorem listO_bad {l : List (List UInt8)} (h : ¬ l.length ≤ 1024 ∨ ∃ s ∈ l, ¬ s.length ≤ 65536) : listO l = none := by
  unfold listO
  rw [if_pos]
  rcases h with h | ⟨s, hs, h⟩
  · simp; omega
  · have : anyLong l = true := List.any_eq_true.2 ⟨s, hs, by simp; omega⟩
    rw [this]; simp

set_option maxRecDepth 100000 in
set_option maxHeartbeats 8000000 in
theorem dList_any (p : Nat) (v : Value) (st : List UInt8 × Bool) (lv : Value) (l : List (List UInt8)) (w : World) (h : DSt w p v st) (hs : TextsIn w (· < p) lv l) (hsl : l.length ≤ maxLen) (hsm : ∀ s ∈ l, s.length ≤ maxLen) (hl : st.1.length ≤ 100000000000) :
    Calls Tryd.prog 16 #[.pointer (some ⟨p, 0, none⟩), lv] w fun e w' => e = .returned (.tuple #[]) ∧ ∃ v', DSt w' p v' (put st (listO l)) ∧ DGrown w w' p v v' := by
  obtain ⟨i0, hi, hi2⟩ := Option.map_eq_some_iff.1 infoByte
  obtain ⟨hz0, hz1, hz2⟩ : i0.zero = some (.int .u8 0) ∧ i0.size = 1 ∧ i0.bytes = 1 := by
    simp only [Prod.mk.injEq] at hi2; exact hi2
  have HI := hideIt (And.intro hi (And.intro hz0 (And.intro hz1 hz2)))
  clear hi2 hi hz0 hz1 hz2
  unfold maxLen at hsl
  have HD := hideIt h
  have HS := hideIt hs
  have HM := hideIt hsm
  obtain ⟨sa, scap, rfl⟩ := hs.form
  clear h hs hsm
  go_enter Tryd.func16, Tryd.ntmps16
  go_wp2
  go_loop [4, 5] (fun f i => ∃ (k : Nat) (fk : Bool), k ≤ l.length ∧ i = .int .i64 k ∧ f = .bool fk ∧ Hid (fk = true → l.length ≤ 1024 ∧ ∀ s ∈ l.take k, s.length ≤ 65536) ∧ Hid (fk = false → listO l = none)) (fun _ i => l.length - (intOf i).toNat)
  case atStart =>
    refine ⟨0, decide ((l.length : Int) ≤ 1024), Nat.zero_le _, rfl, rfl, fun h => ?_, fun h => ?_⟩
    · have h1 : (l.length : Int) ≤ 1024 := of_decide_eq_true h
      exact ⟨by omega, fun s hs => by simp at hs⟩
    · have h1 : ¬ (l.length : Int) ≤ 1024 := of_decide_eq_false h
      exact listO_bad (Or.inl (by omega))
  case round =>
    obtain ⟨k, fk, hk, rfl, rfl, HT, HF⟩ := hrel
    by_cases hgo : k < l.length ∧ fk = true
    · obtain ⟨hlt, rfl⟩ := hgo
      obtain ⟨x, hx⟩ : ∃ x, l[k]? = some x := ⟨l[k], by simp [hlt]⟩
      obtain ⟨b3, off3, u3, rfl, _, e3, ey⟩ := HS.out.at hx
      obtain ⟨a5, cap5, rfl, _⟩ := ey.form
      have hyl := HM.out x (List.mem_of_getElem? hx)
      unfold maxLen at hyl
      have HX := hideIt hx
      clear hx ey
      go_wp2
      refine ⟨⟨k + 1, decide ((x.length : Int) ≤ 65536), by omega, by go_num, rfl, fun h => ?_, fun h => ?_⟩, by simp [intOf]; omega⟩
      · have h1 : (x.length : Int) ≤ 65536 := of_decide_eq_true h
        refine ⟨(HT.out rfl).1, fun s hs => ?_⟩
        have e : l.take (k + 1) = l.take k ++ [x] := by
          rw [List.take_succ_eq_append_getElem hlt, (List.getElem?_eq_some_iff.1 HX.out).2]
        rw [e] at hs
        rcases List.mem_append.1 hs with h2 | h2
        · exact (HT.out rfl).2 s h2
        · simp at h2; subst h2; omega
      · have h1 : ¬ (x.length : Int) ≤ 65536 := of_decide_eq_false h
        exact listO_bad (Or.inr ⟨x, List.mem_of_getElem? HX.out, by omega⟩)
    · have HLO : Hid (fk = true → l.length ≤ 1024 ∧ (∀ s ∈ l, s.length ≤ 65536)) := fun h => by
        have hk2 : ¬ k < l.length := fun h2 => hgo ⟨h2, h⟩
        have := HT.out h
        rw [List.take_of_length_le (by omega)] at this
        exact this
      cases fk
      · have HN : Hid (listO l = none) := HF.out rfl
        clear HLO HF HT hgo
        by_cases hlt : k < l.length
        all_goals
          go_wp2_with fail
          refine (dbad_any p v st w HD.out (by omega)).mono ?_
          rintro e w1 ⟨rfl, hd, hg⟩
          have HD1 := hideIt hd
          have HG1 := hideIt hg
          have c1 : w1.cell? ⟨p, 1, none⟩ = some (.int .i64 2) := by have := hd.c1; rw [put_none_bad] at this; exact this
          clear hd hg
          go_wp2
          go_end0
          rw [HN.out]
          exact ⟨rfl, _, HD1.out, HG1.out⟩
      · have hlt : ¬ k < l.length := fun h2 => hgo ⟨h2, rfl⟩
        obtain ⟨hl10, hl65⟩ := HLO.out rfl
        have HN := hideIt (listO_of hl10 hl65)
        have H65 := hideIt hl65
        clear HLO HF HT hgo hl65
        obtain ⟨bs, bad⟩ := st
        obtain ⟨hf, ho, h0, h1, z, h2, _⟩ := HD.out
        have hf0 := hf 0
        have hpl := lt_of_cell h0
        obtain ⟨a, cap, rfl⟩ := own_form ho
        simp only at hl
        cases bad
        · simp only [Bool.false_eq_true, if_false] at h1
          have HOW := hideIt ho
          have HNP : Hid (∀ g, Value.ownBlock (.slice a bs.length cap) = some g → g ≠ p ∧ p < g) := fun g hg => by have := (ho.lt g hg).1; omega
          clear hf ho h2
          go_wp2
          go_region_law (first
            | (go_simp; go_at_call 42; refine (four_at l.length (by omega) _).mono ?_; rintro e w1 ⟨g8, rfl, HO8, HB8⟩; dsimp only; have d0 : w1.cell? ⟨p, 0, none⟩ = some (.slice a bs.length cap) := (HB8.out.cell (p := ⟨p, 0, none⟩) hpl).trans h0; have f0 : w1.frozen? ⟨p, 0, none⟩ = false := (HB8.out.frozen (p := ⟨p, 0, none⟩) hpl).trans hf0; have HB9 : Hid (Below w.heap.size w w1) := (below_drew w).trans HB8.out)
            | (refine step_append_own rfl (.tmp 38) (.tmp 41) 32 rfl (p + 1) 5 i0 (.int .u8 0) 1 1 Tryd.underlying32 HI.out.1 HI.out.2.1 HI.out.2.2.1 HI.out.2.2.2 rfl (by decide) (.slice a bs.length cap) bs.length (Lib.byteCells bs) (by simp [Act.eval]) (own_kept HOW.out HB9.out) ⟨g8, 0, none⟩ 4 4 (Lib.byteCells (be 4 l.length)) (by simp [Act.eval]) (by rw [Lib.byteCells_length, be_length]) HO8.out (byteCells_one _) (by unfold maxLen; omega) (by omega) (by have := HB8.out.size; exact Nat.le_trans hpl this) ?_; intro v' w2 hown' hgrow hat; obtain ⟨a', cap', rfl⟩ := own_form hown'; have d1 : w2.cell? ⟨p, 0, none⟩ = some (.slice a bs.length cap) := hgrow.cell d0 (fun e => (HNP.out p e.symm).1 rfl); have f1 : w2.frozen? ⟨p, 0, none⟩ = false := (World.frozen?_of_block (hgrow.block p (lt_of_cell (a := ⟨p, 0, none⟩) d0) (fun e => (HNP.out p e.symm).1 rfl))).trans f0; have HO2 := hideIt hown'; have HG2 := hideIt (DGrown.of_append p HB9.out hgrow hat); have HP2 : Hid (w2.heap[p]? = w.heap[p]?) := (hgrow.block p (Nat.lt_of_lt_of_le hpl HB9.out.size) (fun e => (HNP.out p e.symm).1 rfl)).trans (HB9.out.block p hpl); clear hown' hgrow hat))
          all_goals
            have HS2 := hideIt (HD.out.store (bs' := bs ++ be 4 l.length) HG2.out HP2.out (by rw [List.length_append, be_length, Lib.byteCells_append]; exact HO2.out))
            generalize w2.setCell ⟨p, 0, none⟩ (.slice a' (bs.length + 4) cap') = w3 at HS2 ⊢
            generalize Value.slice a' (bs.length + 4) cap' = v3 at HS2 ⊢
            clear d0 d1 f0 f1
            go_wp2
            go_loopw [6] (fun i wr => ∃ (k : Nat) (v' : Value), k ≤ l.length ∧ i = .int .i64 k ∧ Hid (DSt wr p v' (bs ++ be 4 l.length ++ (l.take k).flatMap textB, false)) ∧ Hid (DGrown w wr p (.slice a bs.length cap) v')) (fun i _ => l.length - (intOf i).toNat)
            case atStart => exact ⟨0, _, Nat.zero_le _, rfl, by unfold Hid; simpa using HS2.out.1, HS2.out.2⟩
            case round =>
              obtain ⟨j, v', hj, rfl, HDr, HGr⟩ := hrel
              by_cases hlj : j < l.length
              · obtain ⟨x, hx⟩ : ∃ x, l[j]? = some x := ⟨l[j], by simp [hlj]⟩
                obtain ⟨b4, off4, u4, rfl, _, c4, ey⟩ := (HS.out.kept (HGr.out.kept HD.out)).at hx
                have HEY := hideIt ey
                obtain ⟨a5, cap5, rfl, _⟩ := ey.form
                have hx65 := H65.out x (List.mem_of_getElem? hx)
                have HT := hideIt (flat_take textB l j x hx)
                have HLN : Hid ((bs ++ be 4 l.length ++ (l.take j).flatMap textB).length ≤ 1000000000000) := by
                  have q1 := flat_len textB 65540 (l.take j) (fun y hy => by
                    have := H65.out y (List.mem_of_mem_take hy)
                    rw [textB_length]; omega)
                  have q2 : (l.take j).length ≤ 1024 := by simp; omega
                  have q3 : (l.take j).length * 65540 ≤ 1024 * 65540 := Nat.mul_le_mul_right _ q2
                  have h4 : (bs ++ be 4 l.length ++ (l.take j).flatMap textB).length ≤ 1000000000000 := by
                    rw [List.length_append, List.length_append, be_length]; omega
                  exact h4
                have HTO := hideIt (textO_le hx65)
                clear hx ey
                go_wp2_with fail
                refine (dText_any p v' _ _ x wr HDr.out HEY.out (by unfold maxLen; omega) HLN.out).mono ?_
                rintro e w5 ⟨rfl, v5, hd5, hg5⟩
                rw [HTO.out] at hd5
                have HD5 : Hid (DSt w5 p v5 (bs ++ be 4 l.length ++ (l.take (j + 1)).flatMap textB, false)) := by rw [HT.out, ← List.append_assoc]; exact hd5
                have HG5 := hideIt (HGr.out.trans hg5)
                clear hd5 hg5
                go_wp2
                exact ⟨⟨j + 1, v5, by omega, by go_num, HD5.out, HG5.out⟩, by simp [intOf]; omega⟩
              · have HDE : Hid (DSt wr p v' (bs ++ rowB textB l, false)) := by
                  have h := HDr.out
                  rw [List.take_of_length_le (by omega), List.append_assoc] at h
                  exact h
                go_wp2
                go_end0
                rw [HN.out]
                exact ⟨rfl, _, HDE.out, HGr.out⟩
        · simp only [if_true] at h1
          clear hf ho
          go_wp2
          go_end0
          rw [HN.out]
          exact ⟨rfl, _, HD.out, DGrown.refl _ _ _⟩
end Go.Proofs.YtaaaibnalhmmgaaDoor
