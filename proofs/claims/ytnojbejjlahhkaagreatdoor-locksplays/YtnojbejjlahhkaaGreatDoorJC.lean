/-
  What is proved here: the document's own Locks: put; over this program.
-/
import Derived.Test.YtnojbejjlahhkaaGreatDoorJB
namespace Go.Proofs.YtnojbejjlahhkaaGreatDoor
open Go.RowKit Go.Extern.Stop Go.Stop Go.Extern

theorem own_low {w : World} {B B' e size n : Nat} {v : Value} {xs : List Value} (h : w.ownsRow B e size v n xs) (hB : B' ≤ B) : w.ownsRow B' e size v n xs := by
  obtain ⟨h1, h2⟩ := h
  refine ⟨h1, ?_⟩
  rcases h2 with h2 | ⟨g, cap, cur, rfl, hb, r⟩
  · exact Or.inl h2
  · exact Or.inr ⟨g, cap, cur, rfl, Nat.le_trans hB hb, r⟩
set_option maxRecDepth 100000 in
set_option maxHeartbeats 16000000 in
theorem dlput_any (w : World) (q : Nat) (O : Nat → Prop) (L : Lk) (x : List UInt8 × Int) (h : DLk w q O L) (hr : KRise L) (hl : L.length ≤ 100000) :
    Calls Tryz.prog 26 #[.pointer (some ⟨q, 0, none⟩), .agg #[.string ⟨x.1.toArray⟩, .int .i64 x.2]] w fun e w' => ∃ O', e = .returned (.tuple #[]) ∧ DLk w' q O' (putL L x.1 x.2) ∧ MoveQ w q O w' O' := by
  obtain ⟨i0, hi, hi2⟩ := Option.map_eq_some_iff.1 infoHeld
  obtain ⟨hz0, hz1, hz2⟩ : i0.zero = some (.agg #[.string ⟨#[]⟩, .int .i64 0]) ∧ i0.size = 2 ∧ i0.bytes = 24 := by
    simp only [Prod.mk.injEq] at hi2; exact hi2
  have HI := hideIt (And.intro hi (And.intro hz0 (And.intro hz1 hz2)))
  have HRS := hideIt hr
  have HD := hideIt h
  obtain ⟨v0, c0, f0, _, _, hv0⟩ := h
  obtain ⟨a, cap, rfl⟩ := hv0.form
  have HC := hideIt (And.intro c0 f0)
  have HV := hideIt hv0
  obtain ⟨W0, hW0⟩ : ∃ W0, W0 = w.alloc (.cells #[.string ⟨x.1.toArray⟩, .int .i64 x.2] 62) := ⟨_, rfl⟩
  have hb0 : Below w.heap.size w W0 := by rw [hW0]; exact (Below.refl _ _).alloc (Nat.le_refl _) _
  have b0 : W0.cell? ⟨w.heap.size, 0, none⟩ = some (.string ⟨x.1.toArray⟩) := by rw [hW0, World.cell?_alloc_at _ _ _ _ rfl]; rfl
  have b1 : W0.cell? ⟨w.heap.size, 1, none⟩ = some (.int .i64 x.2) := by rw [hW0, World.cell?_alloc_at _ _ _ _ rfl]; rfl
  have HB0 := hideIt (And.intro hb0 (And.intro b0 b1))
  clear hi2 hi hz0 hz1 hz2 hv0 hr hb0 b0 b1
  go_enter Tryz.func26, Tryz.ntmps26
  go_wp2
  rw [← hW0]
  clear hW0 c0 f0
  go_loopw [4, 5, 6] (fun v d i wr => ∃ (k : Nat) (t : Bool) (out : Lk), k ≤ L.length ∧ i = .int .i64 k ∧ d = .bool t ∧ Hid (putTo L x k t out) ∧ Hid (wr.ownsRow W0.heap.size 62 2 v out.length (heldCells out)) ∧ Hid (Below W0.heap.size W0 wr)) (fun _ _ i _ => L.length - (intOf i).toNat)
  case atStart => exact ⟨0, false, [], Nat.zero_le _, rfl, rfl, hideIt (Or.inl ⟨rfl, rfl, by simp⟩), hideIt (World.ownsRow_nil _ _ _ _), hideIt (Below.refl _ _)⟩
  case round =>
    obtain ⟨k, t, out, hk, rfl, rfl, HP, HR, HBW⟩ := hrel
    have HB := hideIt (HB0.out.1.trans (HBW.out.mono HB0.out.1.size))
    have c0 := (HB.out.cell (lt_of_cell HC.out.1)).trans HC.out.1
    have b0 := (HBW.out.cell (lt_of_cell HB0.out.2.1)).trans HB0.out.2.1
    have b1 := (HBW.out.cell (lt_of_cell HB0.out.2.2)).trans HB0.out.2.2
    have hol := HP.out.len
    by_cases hlt : k < L.length
    case pos =>
      obtain ⟨y, hy⟩ : ∃ y, L[k]? = some y := ⟨L[k], by simp [hlt]⟩
      obtain ⟨b, off, rfl, hbO, d0w, d1w⟩ := HeldsIn.at HV.out hy
      have hbl : b < w.heap.size := HD.out.lt b hbO.1
      have d0 := (HB.out.cell hbl).trans d0w
      have d1 := (HB.out.cell hbl).trans d1w
      have HE0 := hideIt d0w
      have HE1 := hideIt d1w
      clear d0w d1w
      have HY := hideIt hy
      have hbs := HB.out.size
      clear hy hbO
      have hgeq := leq_iff x.1 y.1
      cases t with
      | true =>
        obtain ⟨hq, hp2⟩ := HP.out.more HRS.out HY.out
        have HP2 := hideIt hp2
        clear hp2
        go_wp2_with fail
        go_quiet (fail)
        obtain ⟨W1, hW1⟩ : ∃ W1, W1 = wr.drewN nq := ⟨_, rfl⟩
        rw [← hW1]
        have HBW1 : Hid (Below W0.heap.size W0 W1) := hideIt (by rw [hW1]; exact HBW.out.trans ((below_drewN wr nq).mono HBW.out.size))
        have HR1 := hideIt (own_drew HR.out nq)
        rw [← hW1] at HR1
        clear hW1
        have HB1 := hideIt (HB0.out.1.trans (HBW1.out.mono HB0.out.1.size))
        have ca1 := (HB1.out.cell (lt_of_cell HC.out.1)).trans HC.out.1
        have pa1 := (HBW1.out.cell (lt_of_cell HB0.out.2.1)).trans HB0.out.2.1
        have ra1 := (HBW1.out.cell (lt_of_cell HB0.out.2.2)).trans HB0.out.2.2
        have da1 := (HB1.out.cell hbl).trans HE0.out
        have ea1 := (HB1.out.cell hbl).trans HE1.out
        have s1 := HB1.out.size
        clear c0 b0 b1 d0 d1
        go_wp2_with fail
        go_quiet (fail)
        obtain ⟨W2, hW2⟩ : ∃ W2, W2 = W1.drewN nq := ⟨_, rfl⟩
        rw [← hW2]
        have HBW2 : Hid (Below W0.heap.size W0 W2) := hideIt (by rw [hW2]; exact HBW1.out.trans ((below_drewN W1 nq).mono HBW1.out.size))
        have HR2 := hideIt (own_drew HR1.out nq)
        rw [← hW2] at HR2
        clear hW2
        have HB2 := hideIt (HB0.out.1.trans (HBW2.out.mono HB0.out.1.size))
        have ca2 := (HB2.out.cell (lt_of_cell HC.out.1)).trans HC.out.1
        have pa2 := (HBW2.out.cell (lt_of_cell HB0.out.2.1)).trans HB0.out.2.1
        have ra2 := (HBW2.out.cell (lt_of_cell HB0.out.2.2)).trans HB0.out.2.2
        have da2 := (HB2.out.cell hbl).trans HE0.out
        have ea2 := (HB2.out.cell hbl).trans HE1.out
        have s2 := HB2.out.size
        clear ca1 pa1 ra1 da1 ea1
        go_wp2_with (at_builtin; refine wpList_append_own_at _ rfl _ _ 27 rfl W0.heap.size 62 i0 (.agg #[.string ⟨#[]⟩, .int .i64 0]) 2 24 Tryz.underlying27 HI.out.1 HI.out.2.1 HI.out.2.2.1 HI.out.2.2.2 rfl (by decide) _ _ _ rfl (HR2.out.alloc _) ⟨W2.heap.size, 0, none⟩ 1 1 (heldCells [y]) rfl rfl (held_new _ _) (heldCells_one _) (by unfold maxLen; omega) (by omega) (by have := HBW2.out.size; simp; omega) ?_)
        intro z3 W3 ho3 hg3 _ _
        have HBW3 : Hid (Below W0.heap.size W0 W3) := hideIt ((HBW2.out.alloc HBW2.out.size (.cells #[.string ⟨y.1.toArray⟩, .int .i64 y.2] 62)).grown hg3 (by have := HBW2.out.size; simp; omega) (fun j hj => (HR2.out.lt j hj).1))
        clear hg3
        have HO3 : Hid (W3.ownsRow W0.heap.size 62 2 z3 (out ++ [y]).length (heldCells (out ++ [y]))) := hideIt (by rw [heldCells_append, List.length_append]; exact ho3)
        clear ho3 ca2 pa2 ra2 da2 ea2
        go_wp2
        exact ⟨⟨k + 1, true, out ++ [y], by omega, by go_num, rfl, HP2, HO3, HBW3⟩, by simp [intOf]; omega⟩
      | false =>
        cases hlo : Op.bytesLess y.1 x.1 with
        | true =>
          rw [hlo, Bool.not_true] at hgeq
          have HP2 := hideIt (HP.out.low HY.out hlo)
          have hq : (y.1 == x.1) = false := by
            rw [beq_eq_false_iff_ne]
            intro e
            rw [e] at hlo
            exact kLt_irrefl _ hlo
          go_wp2_with fail
          go_quiet (fail)
          obtain ⟨W1, hW1⟩ : ∃ W1, W1 = wr.drewN nq := ⟨_, rfl⟩
          rw [← hW1]
          have HBW1 : Hid (Below W0.heap.size W0 W1) := hideIt (by rw [hW1]; exact HBW.out.trans ((below_drewN wr nq).mono HBW.out.size))
          have HR1 := hideIt (own_drew HR.out nq)
          rw [← hW1] at HR1
          clear hW1
          have HB1 := hideIt (HB0.out.1.trans (HBW1.out.mono HB0.out.1.size))
          have ca1 := (HB1.out.cell (lt_of_cell HC.out.1)).trans HC.out.1
          have pa1 := (HBW1.out.cell (lt_of_cell HB0.out.2.1)).trans HB0.out.2.1
          have ra1 := (HBW1.out.cell (lt_of_cell HB0.out.2.2)).trans HB0.out.2.2
          have da1 := (HB1.out.cell hbl).trans HE0.out
          have ea1 := (HB1.out.cell hbl).trans HE1.out
          have s1 := HB1.out.size
          clear c0 b0 b1 d0 d1
          go_wp2_with fail
          go_quiet (fail)
          obtain ⟨W2, hW2⟩ : ∃ W2, W2 = W1.drewN nq := ⟨_, rfl⟩
          rw [← hW2]
          have HBW2 : Hid (Below W0.heap.size W0 W2) := hideIt (by rw [hW2]; exact HBW1.out.trans ((below_drewN W1 nq).mono HBW1.out.size))
          have HR2 := hideIt (own_drew HR1.out nq)
          rw [← hW2] at HR2
          clear hW2
          have HB2 := hideIt (HB0.out.1.trans (HBW2.out.mono HB0.out.1.size))
          have ca2 := (HB2.out.cell (lt_of_cell HC.out.1)).trans HC.out.1
          have pa2 := (HBW2.out.cell (lt_of_cell HB0.out.2.1)).trans HB0.out.2.1
          have ra2 := (HBW2.out.cell (lt_of_cell HB0.out.2.2)).trans HB0.out.2.2
          have da2 := (HB2.out.cell hbl).trans HE0.out
          have ea2 := (HB2.out.cell hbl).trans HE1.out
          have s2 := HB2.out.size
          clear ca1 pa1 ra1 da1 ea1
          go_wp2_with (at_builtin; refine wpList_append_own_at _ rfl _ _ 27 rfl W0.heap.size 62 i0 (.agg #[.string ⟨#[]⟩, .int .i64 0]) 2 24 Tryz.underlying27 HI.out.1 HI.out.2.1 HI.out.2.2.1 HI.out.2.2.2 rfl (by decide) _ _ _ rfl (HR2.out.alloc _) ⟨W2.heap.size, 0, none⟩ 1 1 (heldCells [y]) rfl rfl (held_new _ _) (heldCells_one _) (by unfold maxLen; omega) (by omega) (by have := HBW2.out.size; simp; omega) ?_)
          intro z3 W3 ho3 hg3 _ _
          have HBW3 : Hid (Below W0.heap.size W0 W3) := hideIt ((HBW2.out.alloc HBW2.out.size (.cells #[.string ⟨y.1.toArray⟩, .int .i64 y.2] 62)).grown hg3 (by have := HBW2.out.size; simp; omega) (fun j hj => (HR2.out.lt j hj).1))
          clear hg3
          have HO3 : Hid (W3.ownsRow W0.heap.size 62 2 z3 (out ++ [y]).length (heldCells (out ++ [y]))) := hideIt (by rw [heldCells_append, List.length_append]; exact ho3)
          clear ho3 ca2 pa2 ra2 da2 ea2
          go_wp2
          exact ⟨⟨k + 1, false, out ++ [y], by omega, by go_num, rfl, HP2, HO3, HBW3⟩, by simp [intOf]; omega⟩
        | false =>
          rw [hlo, Bool.not_false] at hgeq
          have HPF := hideIt (HP.out.first HY.out (by simp [kLt, hlo]))
          go_wp2_with fail
          go_quiet (fail)
          obtain ⟨W1, hW1⟩ : ∃ W1, W1 = wr.drewN nq := ⟨_, rfl⟩
          rw [← hW1]
          have HBW1 : Hid (Below W0.heap.size W0 W1) := hideIt (by rw [hW1]; exact HBW.out.trans ((below_drewN wr nq).mono HBW.out.size))
          have HR1 := hideIt (own_drew HR.out nq)
          rw [← hW1] at HR1
          clear hW1
          have HB1 := hideIt (HB0.out.1.trans (HBW1.out.mono HB0.out.1.size))
          have ca1 := (HB1.out.cell (lt_of_cell HC.out.1)).trans HC.out.1
          have pa1 := (HBW1.out.cell (lt_of_cell HB0.out.2.1)).trans HB0.out.2.1
          have ra1 := (HBW1.out.cell (lt_of_cell HB0.out.2.2)).trans HB0.out.2.2
          have da1 := (HB1.out.cell hbl).trans HE0.out
          have ea1 := (HB1.out.cell hbl).trans HE1.out
          have s1 := HB1.out.size
          clear c0 b0 b1 d0 d1
          go_wp2_with (at_builtin; refine wpList_append_own_at _ rfl _ _ 27 rfl W0.heap.size 62 i0 (.agg #[.string ⟨#[]⟩, .int .i64 0]) 2 24 Tryz.underlying27 HI.out.1 HI.out.2.1 HI.out.2.2.1 HI.out.2.2.2 rfl (by decide) _ _ _ rfl (HR1.out.alloc _) ⟨W1.heap.size, 0, none⟩ 1 1 (heldCells [x]) rfl rfl (held_new _ _) (heldCells_one _) (by unfold maxLen; omega) (by omega) (by have := HBW1.out.size; simp; omega) ?_)
          intro z2 W2 ho2 hg2 _ _
          have HBW2 : Hid (Below W0.heap.size W0 W2) := hideIt ((HBW1.out.alloc HBW1.out.size (.cells #[.string ⟨x.1.toArray⟩, .int .i64 x.2] 62)).grown hg2 (by have := HBW1.out.size; simp; omega) (fun j hj => (HR1.out.lt j hj).1))
          clear hg2
          have HR2 : Hid (W2.ownsRow W0.heap.size 62 2 z2 (out.length + 1) (heldCells (out ++ [x]))) := hideIt (by rw [heldCells_append]; exact ho2)
          obtain ⟨az2, cz2, rfl⟩ := own_form HR2.out
          have HB2 := hideIt (HB0.out.1.trans (HBW2.out.mono HB0.out.1.size))
          have ca2 := (HB2.out.cell (lt_of_cell HC.out.1)).trans HC.out.1
          have pa2 := (HBW2.out.cell (lt_of_cell HB0.out.2.1)).trans HB0.out.2.1
          have ra2 := (HBW2.out.cell (lt_of_cell HB0.out.2.2)).trans HB0.out.2.2
          have da2 := (HB2.out.cell hbl).trans HE0.out
          have ea2 := (HB2.out.cell hbl).trans HE1.out
          have s2 := HB2.out.size
          clear ho2 ca1 pa1 ra1 da1 ea1
          have hol2 : (out ++ [x]).length ≤ k + 2 := by rw [List.length_append]; simp; omega
          cases hq : y.1 == x.1 with
          | true =>
            rw [hq] at HPF
            go_wp2_with fail
            go_quiet (fail)
            obtain ⟨W3, hW3⟩ : ∃ W3, W3 = W2.drewN nq := ⟨_, rfl⟩
            rw [← hW3]
            have HBW3 : Hid (Below W0.heap.size W0 W3) := hideIt (by rw [hW3]; exact HBW2.out.trans ((below_drewN W2 nq).mono HBW2.out.size))
            have HR3 := hideIt (own_drew HR2.out nq)
            rw [← hW3] at HR3
            clear hW3
            have HB3 := hideIt (HB0.out.1.trans (HBW3.out.mono HB0.out.1.size))
            have ca3 := (HB3.out.cell (lt_of_cell HC.out.1)).trans HC.out.1
            have pa3 := (HBW3.out.cell (lt_of_cell HB0.out.2.1)).trans HB0.out.2.1
            have ra3 := (HBW3.out.cell (lt_of_cell HB0.out.2.2)).trans HB0.out.2.2
            have da3 := (HB3.out.cell hbl).trans HE0.out
            have ea3 := (HB3.out.cell hbl).trans HE1.out
            have s3 := HB3.out.size
            have HO3 : Hid (W3.ownsRow W0.heap.size 62 2 (.slice az2 (out.length + 1) cz2) (out ++ [x] ++ []).length (heldCells (out ++ [x] ++ []))) := hideIt (by rw [List.append_nil, List.length_append]; exact HR3.out)
            clear ca2 pa2 ra2 da2 ea2 ca3 pa3 ra3 da3 ea3
            go_wp2
            exact ⟨⟨k + 1, true, out ++ [x] ++ [], by omega, by go_num, rfl, HPF, HO3, HBW3⟩, by simp [intOf]; omega⟩
          | false =>
            rw [hq] at HPF
            go_wp2_with fail
            go_quiet (fail)
            obtain ⟨W3, hW3⟩ : ∃ W3, W3 = W2.drewN nq := ⟨_, rfl⟩
            rw [← hW3]
            have HBW3 : Hid (Below W0.heap.size W0 W3) := hideIt (by rw [hW3]; exact HBW2.out.trans ((below_drewN W2 nq).mono HBW2.out.size))
            have HR3 := hideIt (own_drew HR2.out nq)
            rw [← hW3] at HR3
            clear hW3
            have HB3 := hideIt (HB0.out.1.trans (HBW3.out.mono HB0.out.1.size))
            have ca3 := (HB3.out.cell (lt_of_cell HC.out.1)).trans HC.out.1
            have pa3 := (HBW3.out.cell (lt_of_cell HB0.out.2.1)).trans HB0.out.2.1
            have ra3 := (HBW3.out.cell (lt_of_cell HB0.out.2.2)).trans HB0.out.2.2
            have da3 := (HB3.out.cell hbl).trans HE0.out
            have ea3 := (HB3.out.cell hbl).trans HE1.out
            have s3 := HB3.out.size
            clear ca2 pa2 ra2 da2 ea2
            go_wp2_with (at_builtin; refine wpList_append_own_at _ rfl _ _ 27 rfl W0.heap.size 62 i0 (.agg #[.string ⟨#[]⟩, .int .i64 0]) 2 24 Tryz.underlying27 HI.out.1 HI.out.2.1 HI.out.2.2.1 HI.out.2.2.2 rfl (by decide) _ _ _ rfl (HR3.out.alloc _) ⟨W3.heap.size, 0, none⟩ 1 1 (heldCells [y]) rfl rfl (held_new _ _) (heldCells_one _) (by unfold maxLen; omega) (by omega) (by have := HBW3.out.size; simp; omega) ?_)
            intro z4 W4 ho4 hg4 _ _
            have HBW4 : Hid (Below W0.heap.size W0 W4) := hideIt ((HBW3.out.alloc HBW3.out.size (.cells #[.string ⟨y.1.toArray⟩, .int .i64 y.2] 62)).grown hg4 (by have := HBW3.out.size; simp; omega) (fun j hj => (HR3.out.lt j hj).1))
            clear hg4
            have HO4 : Hid (W4.ownsRow W0.heap.size 62 2 z4 (out ++ [x] ++ [y]).length (heldCells (out ++ [x] ++ [y]))) := hideIt (by rw [heldCells_append, List.length_append, List.length_append]; exact ho4)
            clear ho4 ca3 pa3 ra3 da3 ea3
            go_wp2
            exact ⟨⟨k + 1, true, out ++ [x] ++ [y], by omega, by go_num, rfl, HPF, HO4, HBW4⟩, by simp [intOf]; omega⟩
    case neg =>
      obtain rfl : k = L.length := by omega
      have f0 := (World.frozen?_of_block (a := ⟨q, 0, none⟩) (HB.out.block q (lt_of_cell HC.out.1))).trans HC.out.2
      have hbs := HB.out.size
      cases t with
      | true =>
        have HPA := hideIt HP.out.all
        rw [HPA.out] at HR
        obtain ⟨a', cp', rfl⟩ := own_form HR.out
        have HS := hideIt (dlk_set HD.out HB.out (own_low HR.out HB0.out.1.size))
        go_wp2
        go_end0
        exact ⟨_, rfl, HS.out.1, HS.out.2⟩
      | false =>
        have HPA := hideIt HP.out.allNot
        go_wp2_with (at_builtin; refine wpList_append_own_at _ rfl _ _ 27 rfl W0.heap.size 62 i0 (.agg #[.string ⟨#[]⟩, .int .i64 0]) 2 24 Tryz.underlying27 HI.out.1 HI.out.2.1 HI.out.2.2.1 HI.out.2.2.2 rfl (by decide) _ _ _ rfl (HR.out.alloc _) ⟨wr.heap.size, 0, none⟩ 1 1 (heldCells [x]) rfl rfl (held_new _ _) (heldCells_one _) (by unfold maxLen; omega) (by omega) (by have := HBW.out.size; simp; omega) ?_)
        intro v' w3 hown' hg3 _ _
        have HBW3 := hideIt ((HBW.out.alloc HBW.out.size (.cells #[.string ⟨x.1.toArray⟩, .int .i64 x.2] 62)).grown hg3 (by have := HBW.out.size; simp; omega) (fun j hj => (HR.out.lt j hj).1))
        have HB3 := hideIt (HB0.out.1.trans (HBW3.out.mono HB0.out.1.size))
        have HO3 : Hid (w3.ownsRow W0.heap.size 62 2 v' (out.length + 1) (heldCells (putL L x.1 x.2))) := hideIt (by
          rw [← HPA.out, heldCells_append]
          exact hown')
        have ca3 := (HB3.out.cell (lt_of_cell HC.out.1)).trans HC.out.1
        have f3 := (World.frozen?_of_block (a := ⟨q, 0, none⟩) (HB3.out.block q (lt_of_cell HC.out.1))).trans HC.out.2
        have HS := hideIt (dlk_set HD.out HB3.out (own_low HO3.out HB0.out.1.size))
        obtain ⟨a', cp', rfl⟩ := own_form HO3.out
        clear hown' hg3 c0 b0 b1 f0
        go_wp2
        go_end0
        exact ⟨_, rfl, HS.out.1, HS.out.2⟩
end Go.Proofs.YtnojbejjlahhkaaGreatDoor
