/-
  What is proved here: the document's Writer (package cohortref02): Nums, List and Bytes, over this program.
-/
import Derived.Test.YtaaaibnalhmmgaaDoorWX
namespace Go.Proofs.YtaaaibnalhmmgaaDoor
open Go.RowKit Go.Extern.Stop Go.Stop Go.Extern

theorem DGrown.kept {w w' : World} {p : Nat} {v v' : Value} {st : List UInt8 × Bool} (h : DGrown w w' p v v') (hd : DSt w p v st) : Kept (· < p) w w' := fun k hk hl => h.block k hl (by have : k < p := hk; omega) (fun e => by have := (hd.own.lt k e).1; have : k < p := hk; omega)

/-- the row of a length, appended: what the statement w.B = append(w.B, four(..)...) leaves -/
theorem numsO_gt {l : List Int} (h : ¬ l.length ≤ 1024) : numsO l = none := if_pos (by omega)

set_option maxRecDepth 100000 in
set_option maxHeartbeats 4000000 in
theorem dNums_any (p : Nat) (v : Value) (st : List UInt8 × Bool) (lv : Value) (l : List Int) (w : World) (h : DSt w p v st) (hs : NumsIn w (· < p) lv l) (hsl : l.length ≤ maxLen) (hl : st.1.length ≤ 100000000000) :
    Calls Tryd.prog 18 #[.pointer (some ⟨p, 0, none⟩), lv] w fun e w' => e = .returned (.tuple #[]) ∧ ∃ v', DSt w' p v' (put st (numsO l)) ∧ DGrown w w' p v v' := by
  obtain ⟨i0, hi, hi2⟩ := Option.map_eq_some_iff.1 infoByte
  obtain ⟨hz0, hz1, hz2⟩ : i0.zero = some (.int .u8 0) ∧ i0.size = 1 ∧ i0.bytes = 1 := by
    simp only [Prod.mk.injEq] at hi2; exact hi2
  have HI := hideIt (And.intro hi (And.intro hz0 (And.intro hz1 hz2)))
  clear hi2 hi hz0 hz1 hz2
  unfold maxLen at hsl
  have HD := hideIt h
  have HS := hideIt hs
  obtain ⟨sa, scap, rfl⟩ := hs.form
  by_cases h6 : l.length ≤ 1024
  · have h6' : ¬ (1024 : Int) < (l.length : Int) := by omega
    rw [numsO_of h6]
    obtain ⟨bs, bad⟩ := st
    obtain ⟨hf, ho, h0, h1, z, h2, _⟩ := h
    have hf0 := hf 0
    have hpl := lt_of_cell h0
    obtain ⟨a, cap, rfl⟩ := own_form ho
    simp only at hl
    cases bad
    · simp only [Bool.false_eq_true, if_false] at h1
      have HOW := hideIt ho
      have HNP : Hid (∀ g, Value.ownBlock (.slice a bs.length cap) = some g → g ≠ p ∧ p < g) := fun g hg => by have := (ho.lt g hg).1; omega
      clear hf ho h2 hs
      go_enter Tryd.func18, Tryd.ntmps18
      go_wp2
      go_region_law (first
        | (go_simp; go_at_call 42; refine (four_at l.length (by omega) _).mono ?_; rintro e w1 ⟨g8, rfl, HO8, HB8⟩; dsimp only; have d0 : w1.cell? ⟨p, 0, none⟩ = some (.slice a bs.length cap) := (HB8.out.cell (p := ⟨p, 0, none⟩) hpl).trans h0; have f0 : w1.frozen? ⟨p, 0, none⟩ = false := (HB8.out.frozen (p := ⟨p, 0, none⟩) hpl).trans hf0; have HB9 : Hid (Below w.heap.size w w1) := (below_drew w).trans HB8.out)
        | (refine step_append_own rfl (.tmp 19) (.tmp 22) 32 rfl (p + 1) 5 i0 (.int .u8 0) 1 1 Tryd.underlying32 HI.out.1 HI.out.2.1 HI.out.2.2.1 HI.out.2.2.2 rfl (by decide) (.slice a bs.length cap) bs.length (Lib.byteCells bs) (by simp [Act.eval]) (own_kept HOW.out HB9.out) ⟨g8, 0, none⟩ 4 4 (Lib.byteCells (be 4 l.length)) (by simp [Act.eval]) (by rw [Lib.byteCells_length, be_length]) HO8.out (byteCells_one _) (by unfold maxLen; omega) (by omega) (by have := HB8.out.size; exact Nat.le_trans hpl this) ?_; intro v' w2 hown' hgrow hat; obtain ⟨a', cap', rfl⟩ := own_form hown'; have d1 : w2.cell? ⟨p, 0, none⟩ = some (.slice a bs.length cap) := hgrow.cell d0 (fun e => (HNP.out p e.symm).1 rfl); have f1 : w2.frozen? ⟨p, 0, none⟩ = false := (World.frozen?_of_block (hgrow.block p (lt_of_cell (a := ⟨p, 0, none⟩) d0) (fun e => (HNP.out p e.symm).1 rfl))).trans f0; have HO2 := hideIt hown'; have HG2 := hideIt (DGrown.of_append p HB9.out hgrow hat); have HP2 : Hid (w2.heap[p]? = w.heap[p]?) := (hgrow.block p (Nat.lt_of_lt_of_le hpl HB9.out.size) (fun e => (HNP.out p e.symm).1 rfl)).trans (HB9.out.block p hpl); clear hown' hgrow hat))
      all_goals
        have HS2 := hideIt (HD.out.store (bs' := bs ++ be 4 l.length) HG2.out HP2.out (by rw [List.length_append, be_length, Lib.byteCells_append]; exact HO2.out))
        generalize w2.setCell ⟨p, 0, none⟩ (.slice a' (bs.length + 4) cap') = w3 at HS2 ⊢
        generalize Value.slice a' (bs.length + 4) cap' = v3 at HS2 ⊢
        clear d0 d1 f0 f1
        go_wp2
        go_loopw [4] (fun i wr => ∃ (k : Nat) (v' : Value), k ≤ l.length ∧ i = .int .i64 k ∧ Hid (DSt wr p v' (bs ++ be 4 l.length ++ (l.take k).flatMap numB, false)) ∧ Hid (DGrown w wr p (.slice a bs.length cap) v')) (fun i _ => l.length - (intOf i).toNat)
        case atStart => exact ⟨0, _, Nat.zero_le _, rfl, by unfold Hid; simpa using HS2.out.1, HS2.out.2⟩
        case round =>
          obtain ⟨k, v', hk, rfl, HDr, HGr⟩ := hrel
          by_cases hlt : k < l.length
          · obtain ⟨x, hx⟩ : ∃ x, l[k]? = some x := ⟨l[k], by simp [hlt]⟩
            obtain ⟨b4, off4, rfl, _, c4⟩ := NumsIn.at (RowIn.kept HS.out (HGr.out.kept HD.out)) hx
            have HT := hideIt (flat_take numB l k x hx)
            have HLN : Hid ((bs ++ be 4 l.length ++ (l.take k).flatMap numB).length ≤ 1000000000000) := by
              have h4 : (bs ++ be 4 l.length ++ (l.take k).flatMap numB).length ≤ 1000000000000 := by
                rw [List.length_append, List.length_append, be_length, nums_flat, List.length_take]; omega
              exact h4
            clear hx
            go_wp2_with fail
            refine (dNum_any p v' _ x wr HDr.out HLN.out).mono ?_
            rintro e w5 ⟨rfl, v5, hd5, hg5⟩
            have HD5 : Hid (DSt w5 p v5 (bs ++ be 4 l.length ++ (l.take (k + 1)).flatMap numB, false)) := by rw [HT.out, ← List.append_assoc]; exact hd5
            have HG5 := hideIt (HGr.out.trans hg5)
            clear hd5 hg5
            go_wp2
            exact ⟨⟨k + 1, v5, by omega, by go_num, HD5.out, HG5.out⟩, by simp [intOf]; omega⟩
          · have HDE : Hid (DSt wr p v' (bs ++ rowB numB l, false)) := by
              have h := HDr.out
              rw [List.take_of_length_le (by omega), List.append_assoc] at h
              exact h
            go_wp2
            go_end0
            exact ⟨rfl, _, HDE.out, HGr.out⟩
    · simp only [if_true] at h1
      clear hf ho
      go_enter Tryd.func18, Tryd.ntmps18
      go_wp2
      go_end0
      exact ⟨rfl, _, HD.out, DGrown.refl _ _ _⟩
  · have h6' : (1024 : Int) < (l.length : Int) := by omega
    rw [numsO_gt h6]
    clear h
    go_enter Tryd.func18, Tryd.ntmps18
    go_wp2_with fail
    refine (dbad_any p v st w HD.out (by omega)).mono ?_
    rintro e w1 ⟨rfl, hd, hg⟩
    have HD1 := hideIt hd
    have HG1 := hideIt hg
    have c1 : w1.cell? ⟨p, 1, none⟩ = some (.int .i64 2) := by have := hd.c1; rw [put_none_bad] at this; exact this
    clear hd hg
    go_wp2
    go_end0
    exact ⟨rfl, _, HD1.out, HG1.out⟩

set_option maxRecDepth 100000 in
set_option maxHeartbeats 4000000 in
theorem dBytes_ok (p : Nat) (v : Value) (bs : List UInt8) (w : World) (h : DSt w p v (bs, false)) (hl : bs.length ≤ 100000000000) :
    Calls Tryd.prog 20 #[.pointer (some ⟨p, 0, none⟩)] w fun e w' => ∃ v', e = .returned v' ∧ w'.ownsRow w.heap.size 5 1 v' bs.length (Lib.byteCells bs) ∧ Below w.heap.size w w' := by
  obtain ⟨i0, hi, hi2⟩ := Option.map_eq_some_iff.1 infoByte
  obtain ⟨hz0, hz1, hz2⟩ : i0.zero = some (.int .u8 0) ∧ i0.size = 1 ∧ i0.bytes = 1 := by
    simp only [Prod.mk.injEq] at hi2; exact hi2
  have HI := hideIt (And.intro hi (And.intro hz0 (And.intro hz1 hz2)))
  clear hi2 hi hz0 hz1 hz2
  obtain ⟨hf, ho, h0, h1, z, h2, _⟩ := h
  have hv : BytesIn w (fun _ => True) v bs := RowIn.of_own ho (fun _ _ => trivial)
  have hpl := lt_of_cell h0
  obtain ⟨a, cap, rfl, hnil⟩ := hv.form
  have HV := hideIt hv
  simp only [Bool.false_eq_true, if_false] at h1
  have HB1 := hideIt ((Below.refl w.heap.size w).alloc (Nat.le_refl _) (.cells #[] 5))
  have HON := hideIt (World.ownsRow_made (base := w.heap.size) (e := 5) (size := 1) w #[] 0 (Nat.le_refl _) (by decide) rfl)
  clear hf ho h2 hv
  cases a with
  | none =>
    obtain ⟨rfl, rfl⟩ := hnil rfl
    go_enter Tryd.func20, Tryd.ntmps20
    go_wp2_with (at_builtin; refine wpList_append_own_none rfl _ _ 32 rfl w.heap.size 5 i0 1 Tryd.underlying32 HI.out.1 _ _ _ rfl HON.out rfl ?_)
    go_wp2
    go_ret
    exact ⟨_, rfl, by simpa [Lib.byteCells] using HON.out, HB1.out⟩
  | some ad =>
    go_enter Tryd.func20, Tryd.ntmps20
    go_wp2_with (at_builtin; refine wpList_append_own _ rfl _ _ 32 rfl w.heap.size 5 i0 (.int .u8 0) 1 1 Tryd.underlying32 HI.out.1 HI.out.2.1 HI.out.2.2.1 HI.out.2.2.2 rfl (by decide) _ 0 [] rfl HON.out ad bs.length cap (Lib.byteCells bs) rfl ?c0 ?c1 ?c2 ?c3 ?c4 ?c5 ?_)
    case c0 => simp [Lib.byteCells]
    case c1 => exact (RowIn.kept HV.out (Kept.of_all HB1.out)).cells
    case c2 => exact byteCells_one bs
    case c3 => unfold maxLen; omega
    case c4 => omega
    · intro v2 w2 hown' hgrow _
      have HB2 := hideIt (HB1.out.grown hgrow (by simp) (fun k hk => by simp [Value.ownBlock] at hk; omega))
      have HO2 := hideIt hown'
      clear hgrow hown'
      go_wp2
      go_ret
      exact ⟨_, rfl, by simpa using HO2.out, HB2.out⟩
theorem dBytes_bad (p : Nat) (v : Value) (bs : List UInt8) (w : World) (h : DSt w p v (bs, true)) :
    Calls Tryd.prog 20 #[.pointer (some ⟨p, 0, none⟩)] w fun e w' => e = .returned (.slice none 0 0) ∧ w' = w := by
  have h1 := h.c1
  simp only [if_true] at h1
  clear h
  go_enter Tryd.func20, Tryd.ntmps20
  go_wp2
  go_ret
  exact ⟨rfl, rfl⟩
end Go.Proofs.YtaaaibnalhmmgaaDoor
