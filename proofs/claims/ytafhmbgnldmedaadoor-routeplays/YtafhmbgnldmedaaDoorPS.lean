/-
  What is proved here: the document's Of (cohortref09); over this program.
-/
import Derived.Test.YtafhmbgnldmedaaDoorPR
namespace Go.Proofs.YtafhmbgnldmedaaDoor
open Go.RowKit Go.Extern.Stop Go.Stop Go.Extern

/-- what the document's Of comes to -/
def DOfPost (w : World) (l : List Pc) (e : Ending) (w' : World) : Prop :=
  ∃ n k, OfIs l n k ∧ ((n ≠ 0 ∧ e = .returned (.tuple #[.pointer none, .int .i64 n, .int .i64 k]) ∧ Below w.heap.size w w') ∨
    (n = 0 ∧ ∃ p : Nat, e = .returned (.tuple #[.pointer (some ⟨p, 0, none⟩), .int .i64 0, .int .i64 0]) ∧ NewRt w w' p l))
set_option maxRecDepth 100000 in
set_option maxHeartbeats 8000000 in
theorem drOf_any (w : World) (A : Nat → Prop) (v : Value) (l : List Pc) (hv : PcsIn w A v l) (hl : l.length ≤ maxLen) :
    Calls Tryd.prog 11 #[v] w (DOfPost w l) := by
  have HV := hideIt (hv.mono (A' := (· < w.heap.size)) (fun _ _ h => h))
  obtain ⟨a, cap, rfl⟩ := hv.form
  clear hv
  unfold maxLen at hl
  by_cases h0 : l.length = 0
  · have hnil : l = [] := List.eq_nil_of_length_eq_zero h0
    subst hnil
    go_enter Tryd.func11, Tryd.ntmps11
    go_wp2
    refine bodyPost_ret (v := .tuple #[.pointer none, .int .i64 1, .int .i64 0]) (by simp [results, Tryd.results11, go_sem]) rfl ?_
    exact ⟨1, 0, Or.inl ⟨rfl, rfl, rfl⟩, Or.inl ⟨by decide, rfl, Below.refl _ _⟩⟩
  have hne : ((l.length : Int) == 0) = false := by simp only [beq_eq_false_iff_ne, ne_eq]; omega
  have hne2 : l ≠ [] := fun e => h0 (by rw [e]; rfl)
  have HNE := hideIt hne2
  clear hne2 h0
  by_cases h1 : (32 : Int) < (l.length : Int)
  · go_enter Tryd.func11, Tryd.ntmps11
    go_wp2
    refine bodyPost_ret (v := .tuple #[.pointer none, .int .i64 71, .int .i64 l.length]) (by simp [results, Tryd.results11, go_sem]) rfl ?_
    exact ⟨71, l.length, Or.inr (Or.inl ⟨HNE.out, by omega, rfl, rfl⟩), Or.inl ⟨by decide, rfl, Below.refl _ _⟩⟩
  · have H1 := hideIt h1
    go_enter Tryd.func11, Tryd.ntmps11
    go_wp2
    go_loopw [5] (fun i wr => ∃ k : Nat, k ≤ l.length ∧ i = .int .i64 k ∧ Hid (FitTo l k) ∧ Hid (Below w.heap.size w wr)) (fun i _ => l.length - (intOf i).toNat)
    case atStart => exact ⟨0, Nat.zero_le _, rfl, hideIt (fun j hj => by omega), Below.refl _ _⟩
    case round =>
      obtain ⟨k, hk, rfl, HR, HB⟩ := hrel
      have hsz := HB.out.size
      by_cases hlt : k < l.length
      · obtain ⟨x, hx⟩ : ∃ x, l[k]? = some x := ⟨l[k], by simp [hlt]⟩
        have HVr := hideIt (RowIn.kept HV.out (Kept.of_below HB.out (fun _ h _ => h)))
        obtain ⟨b, off, rfl, _, c0, c1, c2⟩ := PcsIn.at HVr.out hx
        obtain ⟨W, hW, hwb, hr⟩ := room_pc wr x
        have HBW := hideIt (HB.out.trans (hwb.mono hsz))
        have HVW := hideIt (RowIn.kept HVr.out (Kept.of_all hwb))
        have HX := hideIt hx
        have p0 := hr.1
        have p1 := hr.2.1
        have p2 := hr.2.2
        have r0 := p0
        have r1 := p1
        have r2 := p2
        rw [hW] at r0 r1 r2
        clear hwb hr hx
        by_cases hk0 : k = 0
        · subst hk0
          have HI := hideIt (may_zero HX.out)
          simp only [Nat.zero_mul, Nat.add_zero] at c0 c1 c2
          rw [show ((0 : Nat) : Int) = 0 from rfl]
          have hlz : (0 : Int) < (l.length : Int) := by omega
          cases hx1 : (x.1 == []) with
          | false =>
            have HN : Hid (¬ MayAt l 0) := hideIt (fun h => by rw [(HI.out.1 h).1] at hx1; simp at hx1)
            go_wp2_with fail
            rw [← hW]
            clear hW
            go_quiet (fail)
            go_wp2_with fail
            try go_quiet (fail)
            try go_wp2
            refine bodyPost_ret (v := .tuple #[.pointer none, .int .i64 1, .int .i64 0]) (by simp [results, Tryd.results11, go_sem]) rfl ?_
            exact ⟨1, 0, Or.inr (Or.inr (Or.inl ⟨HNE.out, by have := H1.out; omega, _, hlt, HR.out, HN.out, rfl, rfl⟩)), Or.inl ⟨by decide, rfl, HBW.out.trans ((below_drewN W _).mono HBW.out.size)⟩⟩
          | true =>
            have HPRE : Hid (x.1 = []) := hideIt (by simpa using hx1)
            go_wp2_with fail
            rw [← hW]
            clear hW
            go_quiet (fail)
            by_cases q1 : (16 : Int) < (x.1.length : Int)
            · have HN : Hid (¬ MayAt l 0) := hideIt (fun h => by have := (HI.out.1 h).2.1; omega)
              have q1d := decide_eq_true q1
              go_wp2_with fail
              try go_quiet (fail)
              try go_wp2
              refine bodyPost_ret (v := .tuple #[.pointer none, .int .i64 1, .int .i64 0]) (by simp [results, Tryd.results11, go_sem]) rfl ?_
              exact ⟨1, 0, Or.inr (Or.inr (Or.inl ⟨HNE.out, by have := H1.out; omega, _, hlt, HR.out, HN.out, rfl, rfl⟩)), Or.inl ⟨by decide, rfl, HBW.out.trans ((below_drewN W _).mono HBW.out.size)⟩⟩
            have q1d := decide_eq_false q1
            by_cases q2 : x.2.1 < 0
            · have HN : Hid (¬ MayAt l 0) := hideIt (fun h => by have := (HI.out.1 h).2.2.1; omega)
              have q2d := decide_eq_true q2
              go_wp2_with fail
              try go_quiet (fail)
              try go_wp2
              refine bodyPost_ret (v := .tuple #[.pointer none, .int .i64 1, .int .i64 0]) (by simp [results, Tryd.results11, go_sem]) rfl ?_
              exact ⟨1, 0, Or.inr (Or.inr (Or.inl ⟨HNE.out, by have := H1.out; omega, _, hlt, HR.out, HN.out, rfl, rfl⟩)), Or.inl ⟨by decide, rfl, HBW.out.trans ((below_drewN W _).mono HBW.out.size)⟩⟩
            have q2d := decide_eq_false q2
            by_cases q3 : 4 ≤ x.2.1
            · have HN : Hid (¬ MayAt l 0) := hideIt (fun h => by have := (HI.out.1 h).2.2.2.1; omega)
              have q3d := decide_eq_true q3
              go_wp2_with fail
              try go_quiet (fail)
              try go_wp2
              refine bodyPost_ret (v := .tuple #[.pointer none, .int .i64 1, .int .i64 0]) (by simp [results, Tryd.results11, go_sem]) rfl ?_
              exact ⟨1, 0, Or.inr (Or.inr (Or.inl ⟨HNE.out, by have := H1.out; omega, _, hlt, HR.out, HN.out, rfl, rfl⟩)), Or.inl ⟨by decide, rfl, HBW.out.trans ((below_drewN W _).mono HBW.out.size)⟩⟩
            have q3d := decide_eq_false q3
            by_cases q4 : x.2.2 < 1
            · have HN : Hid (¬ MayAt l 0) := hideIt (fun h => by have := (HI.out.1 h).2.2.2.2.1; omega)
              have q4d := decide_eq_true q4
              go_wp2_with fail
              try go_quiet (fail)
              try go_wp2
              refine bodyPost_ret (v := .tuple #[.pointer none, .int .i64 1, .int .i64 0]) (by simp [results, Tryd.results11, go_sem]) rfl ?_
              exact ⟨1, 0, Or.inr (Or.inr (Or.inl ⟨HNE.out, by have := H1.out; omega, _, hlt, HR.out, HN.out, rfl, rfl⟩)), Or.inl ⟨by decide, rfl, HBW.out.trans ((below_drewN W _).mono HBW.out.size)⟩⟩
            have q4d := decide_eq_false q4
            by_cases q5 : (1099511627776 : Int) < x.2.2
            · have HN : Hid (¬ MayAt l 0) := hideIt (fun h => by have := (HI.out.1 h).2.2.2.2.2; omega)
              have q5d := decide_eq_true q5
              go_wp2_with fail
              try go_quiet (fail)
              try go_wp2
              refine bodyPost_ret (v := .tuple #[.pointer none, .int .i64 1, .int .i64 0]) (by simp [results, Tryd.results11, go_sem]) rfl ?_
              exact ⟨1, 0, Or.inr (Or.inr (Or.inl ⟨HNE.out, by have := H1.out; omega, _, hlt, HR.out, HN.out, rfl, rfl⟩)), Or.inl ⟨by decide, rfl, HBW.out.trans ((below_drewN W _).mono HBW.out.size)⟩⟩
            have q5d := decide_eq_false q5
            have HM : Hid (MayAt l 0) := hideIt (HI.out.2 ⟨HPRE.out, by omega, by omega, by omega, by omega, by omega⟩)
            have HN : Hid (FitTo l (0 + 1)) := hideIt (fun jj hj => by
              by_cases e : jj = 0
              · rw [e]; exact HM.out
              · exact HR.out jj (by omega))
            go_wp2_with fail
            try go_quiet (fail)
            try go_wp2
            exact ⟨⟨0 + 1, by omega, by go_num, HN, hideIt (HBW.out.trans ((below_drewN W _).mono HBW.out.size))⟩, by simp [intOf]; omega⟩
        · obtain ⟨j, rfl⟩ : ∃ j, k = j + 1 := ⟨k - 1, by omega⟩
          obtain ⟨y, hy⟩ : ∃ y, l[j]? = some y := ⟨l[j]'(by omega), by simp [show j < l.length by omega]⟩
          have HI := hideIt (may_succ HX.out hy)
          obtain ⟨b', off', hbb, _, e0, _, _⟩ := PcsIn.at HVW.out hy
          cases hbb
          have k3 : (j : Int) < (l.length : Int) := by omega
          have k4 : decide (0 < (j : Int) + 1) = true := decide_eq_true (by omega)
          have k5 : IntKind.i64.wrap (j : Int) = (j : Int) := by simp [IntKind.wrap, IntKind.bits, IntKind.signed]; omega
          have k7 : (((j : Int) + 1) == 0) = false := by simp only [beq_eq_false_iff_ne]; omega
          have q9 := leq_iff x.1 y.1
          clear hy hk0
          cases k6 : Op.bytesLess y.1 x.1 with
          | true =>
            have HPRE : Hid (kLt y.1 x.1) := hideIt k6
            rw [k6] at q9
            go_wp2_with fail
            rw [← hW]
            clear hW
            go_quiet (fail)
            by_cases q1 : (16 : Int) < (x.1.length : Int)
            · have HN : Hid (¬ MayAt l (j + 1)) := hideIt (fun h => by have := (HI.out.1 h).2.1; omega)
              have q1d := decide_eq_true q1
              go_wp2_with fail
              try go_quiet (fail)
              try go_wp2
              refine bodyPost_ret (v := .tuple #[.pointer none, .int .i64 1, .int .i64 ((j : Int) + 1)]) (by simp [results, Tryd.results11, go_sem]) rfl ?_
              exact ⟨1, ((j : Int) + 1), Or.inr (Or.inr (Or.inl ⟨HNE.out, by have := H1.out; omega, _, hlt, HR.out, HN.out, rfl, rfl⟩)), Or.inl ⟨by decide, rfl, HBW.out.trans ((below_drewN W _).mono HBW.out.size)⟩⟩
            have q1d := decide_eq_false q1
            by_cases q2 : x.2.1 < 0
            · have HN : Hid (¬ MayAt l (j + 1)) := hideIt (fun h => by have := (HI.out.1 h).2.2.1; omega)
              have q2d := decide_eq_true q2
              go_wp2_with fail
              try go_quiet (fail)
              try go_wp2
              refine bodyPost_ret (v := .tuple #[.pointer none, .int .i64 1, .int .i64 ((j : Int) + 1)]) (by simp [results, Tryd.results11, go_sem]) rfl ?_
              exact ⟨1, ((j : Int) + 1), Or.inr (Or.inr (Or.inl ⟨HNE.out, by have := H1.out; omega, _, hlt, HR.out, HN.out, rfl, rfl⟩)), Or.inl ⟨by decide, rfl, HBW.out.trans ((below_drewN W _).mono HBW.out.size)⟩⟩
            have q2d := decide_eq_false q2
            by_cases q3 : 4 ≤ x.2.1
            · have HN : Hid (¬ MayAt l (j + 1)) := hideIt (fun h => by have := (HI.out.1 h).2.2.2.1; omega)
              have q3d := decide_eq_true q3
              go_wp2_with fail
              try go_quiet (fail)
              try go_wp2
              refine bodyPost_ret (v := .tuple #[.pointer none, .int .i64 1, .int .i64 ((j : Int) + 1)]) (by simp [results, Tryd.results11, go_sem]) rfl ?_
              exact ⟨1, ((j : Int) + 1), Or.inr (Or.inr (Or.inl ⟨HNE.out, by have := H1.out; omega, _, hlt, HR.out, HN.out, rfl, rfl⟩)), Or.inl ⟨by decide, rfl, HBW.out.trans ((below_drewN W _).mono HBW.out.size)⟩⟩
            have q3d := decide_eq_false q3
            by_cases q4 : x.2.2 < 1
            · have HN : Hid (¬ MayAt l (j + 1)) := hideIt (fun h => by have := (HI.out.1 h).2.2.2.2.1; omega)
              have q4d := decide_eq_true q4
              go_wp2_with fail
              try go_quiet (fail)
              try go_wp2
              refine bodyPost_ret (v := .tuple #[.pointer none, .int .i64 1, .int .i64 ((j : Int) + 1)]) (by simp [results, Tryd.results11, go_sem]) rfl ?_
              exact ⟨1, ((j : Int) + 1), Or.inr (Or.inr (Or.inl ⟨HNE.out, by have := H1.out; omega, _, hlt, HR.out, HN.out, rfl, rfl⟩)), Or.inl ⟨by decide, rfl, HBW.out.trans ((below_drewN W _).mono HBW.out.size)⟩⟩
            have q4d := decide_eq_false q4
            by_cases q5 : (1099511627776 : Int) < x.2.2
            · have HN : Hid (¬ MayAt l (j + 1)) := hideIt (fun h => by have := (HI.out.1 h).2.2.2.2.2; omega)
              have q5d := decide_eq_true q5
              go_wp2_with fail
              try go_quiet (fail)
              try go_wp2
              refine bodyPost_ret (v := .tuple #[.pointer none, .int .i64 1, .int .i64 ((j : Int) + 1)]) (by simp [results, Tryd.results11, go_sem]) rfl ?_
              exact ⟨1, ((j : Int) + 1), Or.inr (Or.inr (Or.inl ⟨HNE.out, by have := H1.out; omega, _, hlt, HR.out, HN.out, rfl, rfl⟩)), Or.inl ⟨by decide, rfl, HBW.out.trans ((below_drewN W _).mono HBW.out.size)⟩⟩
            have q5d := decide_eq_false q5
            have HM : Hid (MayAt l (j + 1)) := hideIt (HI.out.2 ⟨HPRE.out, by omega, by omega, by omega, by omega, by omega⟩)
            have HN : Hid (FitTo l ((j + 1) + 1)) := hideIt (fun jj hj => by
              by_cases e : jj = (j + 1)
              · rw [e]; exact HM.out
              · exact HR.out jj (by omega))
            go_wp2_with fail
            try go_quiet (fail)
            try go_wp2
            exact ⟨⟨(j + 1) + 1, by omega, by go_num, HN, hideIt (HBW.out.trans ((below_drewN W _).mono HBW.out.size))⟩, by simp [intOf]; omega⟩
          | false =>
            have HN : Hid (¬ MayAt l (j + 1)) := hideIt (fun h => by have := (HI.out.1 h).1; unfold kLt at this; rw [k6] at this; cases this)
            rw [k6] at q9
            go_wp2_with fail
            rw [← hW]
            clear hW
            go_quiet (fail)
            go_wp2_with fail
            try go_quiet (fail)
            try go_wp2
            refine bodyPost_ret (v := .tuple #[.pointer none, .int .i64 1, .int .i64 ((j : Int) + 1)]) (by simp [results, Tryd.results11, go_sem]) rfl ?_
            exact ⟨1, ((j : Int) + 1), Or.inr (Or.inr (Or.inl ⟨HNE.out, by have := H1.out; omega, _, hlt, HR.out, HN.out, rfl, rfl⟩)), Or.inl ⟨by decide, rfl, HBW.out.trans ((below_drewN W _).mono HBW.out.size)⟩⟩
      · have HFT : Hid (FitP l) := hideIt ⟨HNE.out, by have := H1.out; omega, by have := HR.out; rw [show k = l.length by omega] at this; exact this⟩
        obtain ⟨i0, hi, hi2⟩ := Option.map_eq_some_iff.1 infoPc
        obtain ⟨hz0, hz1, hz2⟩ : i0.zero = some (.agg #[.string ⟨#[]⟩, .int .i64 0, .int .i64 0]) ∧ i0.size = 3 ∧ i0.bytes = 32 := by
          simp only [Prod.mk.injEq] at hi2; exact hi2
        have HI := hideIt (And.intro hi (And.intro hz0 (And.intro hz1 hz2)))
        have HVr : Hid (PcsIn wr (· < w.heap.size) (.slice a l.length cap) l) := hideIt (RowIn.kept HV.out (Kept.of_below HB.out (fun _ h _ => h)))
        obtain ⟨x0, hx0⟩ : ∃ x0, l[0]? = some x0 := ⟨l[0]'(List.length_pos_iff.2 HNE.out), by simp [List.length_pos_iff.2 HNE.out]⟩
        obtain ⟨g, off, rfl, _, _, _, _⟩ := PcsIn.at HVr.out hx0
        have hb0 : Below wr.heap.size wr (wr.alloc (.cells #[] 39)) := (Below.refl _ _).alloc (Nat.le_refl _) _
        have HO : Hid ((wr.alloc (.cells #[] 39)).ownsRow w.heap.size 39 3 (.slice (some ⟨wr.heap.size, 0, none⟩) 0 0) 0 []) := hideIt ⟨rfl, Or.inr ⟨wr.heap.size, 0, #[], rfl, hsz, heap_alloc_new wr _, Nat.le_refl _, Nat.zero_le _, rfl, rfl⟩⟩
        have HB0 := hideIt (HB.out.trans (hb0.mono hsz))
        have HV0 := hideIt (RowIn.kept HVr.out (Kept.of_all hb0))
        have hl32 : l.length ≤ 32 := by have := H1.out; omega
        clear hb0 hx0 hi hi2 hz0 hz1 hz2
        go_wp2_with (at_builtin; refine wpList_append_own_at _ rfl _ _ 22 rfl w.heap.size 39 i0 (.agg #[.string ⟨#[]⟩, .int .i64 0, .int .i64 0]) 3 32 Tryd.underlying22 HI.out.1 HI.out.2.1 HI.out.2.2.1 HI.out.2.2.2 rfl (by decide) _ _ _ rfl HO.out ⟨g, off, none⟩ l.length cap (pcsCells l) rfl (pcsCells_len l) (RowIn.cells HV0.out) (pcsCells_one l) (by unfold maxLen; omega) (by omega) (by simp; omega) ?_)
        intro z w2 h1 h2 _ h3
        have HBZ : Hid (Below w.heap.size w w2) := hideIt (HB0.out.grown h2 (by have := HB0.out.size; simp; omega) (fun k hk => by cases hk; exact hsz))
        have H := hideIt (new_rt w w2 48 l z (by simpa using h1) HBZ.out)
        obtain ⟨az, cz, rfl⟩ := own_form h1
        clear h1 h2 h3
        go_wp2
        refine bodyPost_ret (v := .tuple #[.pointer (some ⟨w2.heap.size, 0, none⟩), .int .i64 0, .int .i64 0]) (by simp [results, Tryd.results11, go_sem]) rfl ?_
        exact ⟨0, 0, Or.inr (Or.inr (Or.inr ⟨HFT.out, rfl, rfl⟩)), Or.inr ⟨rfl, _, rfl, H.out⟩⟩
end Go.Proofs.YtafhmbgnldmedaaDoor
