/-
  What is proved here: the document's Writer (package cohortref02): Text, over this program.
-/
import Derived.Test.YtaaaibnalhmmgaaDoorWW
namespace Go.Proofs.YtaaaibnalhmmgaaDoor
open Go.RowKit Go.Extern.Stop Go.Stop Go.Extern

/-- append of nil onto what is owned, as one step of a region that draws -/
theorem step_append_nil {P : Program} {ops : Array Oper} {o : Oper} {a : Act} {w : World} {K : Act → World → Prop} {Q : Exit → Act → World → Prop} {E : Prop} (hgd : o.guard = none) (s x : Operand) (t : TypeId)
    (ho : o.op = .call { callee := .builtin .append, args := #[s, x], argTypes := #[t, t] })
    (base : Nat) (e : TypeId) (i : TypeInfo) (size : Nat) (ht : P.underlying t = some (.slice e)) (hi : P.info? e = some i)
    (v : Value) (n : Nat) (xs : List Value) (hs : a.eval s = v) (hown : w.ownsRow base e size v n xs) (hx : a.eval x = .slice none 0 0)
    (h : K (a.put o.dst v) w) : if Region.wanted o (yielded ops a.tmps) = true then Oper.wp P o a w K Q else E := by
  have hw : Region.wanted o (yielded ops a.tmps) = true := by simp [Region.wanted, hgd]
  rw [if_pos hw]
  have hrun := run_append_owned_none (P := P) (w := w) base t o.type e i size ht hi v n xs hown
  unfold Oper.wp
  simp [execOp, ho, resolve, invoke, builtin, hs, hx, hrun, Result.andThen]
  exact h

theorem four_at (n : Nat) (hn : n ≤ 65536) (w : World) : Calls Tryd.prog 42 #[.int .i64 n] w fun e w' => ∃ g, e = .returned (.slice (some ⟨g, 0, none⟩) 4 4) ∧ Hid (∀ j u, (Lib.byteCells (be 4 n))[j]? = some u → w'.cell? ((⟨g, 0, none⟩ : Addr).add j) = some u) ∧ Hid (Below w.heap.size w w') := by
  refine (four_any n hn w).mono ?_
  rintro e w' ⟨rfl, rfl⟩
  refine ⟨w.heap.size, rfl, fun j u hj => ?_, (Below.refl _ _).alloc (Nat.le_refl _) _⟩
  rw [addr_add, Nat.zero_add, World.cell?_alloc_at _ _ _ _ rfl]
  simpa using hj

theorem textO_le {s : List UInt8} (h : s.length ≤ 65536) : textO s = some (textB s) := if_neg (by omega)
theorem textO_gt {s : List UInt8} (h : ¬ s.length ≤ 65536) : textO s = none := if_pos (by omega)
theorem put_none_bad (st : List UInt8 × Bool) : (put st none).2 = true := by
  unfold put; split
  · assumption
  · rfl
theorem put_bad {st : List UInt8 × Bool} (h : st.2 = true) (c : Option (List UInt8)) : put st c = st := if_pos h

set_option maxRecDepth 100000 in
set_option maxHeartbeats 4000000 in
theorem dText_any (p : Nat) (v : Value) (st : List UInt8 × Bool) (sv : Value) (s : List UInt8) (w : World) (h : DSt w p v st) (hs : BytesIn w (· < p) sv s) (hsl : s.length ≤ maxLen) (hl : st.1.length ≤ 1000000000000) :
    Calls Tryd.prog 14 #[.pointer (some ⟨p, 0, none⟩), sv] w fun e w' => e = .returned (.tuple #[]) ∧ ∃ v', DSt w' p v' (put st (textO s)) ∧ DGrown w w' p v v' := by
  obtain ⟨i0, hi, hi2⟩ := Option.map_eq_some_iff.1 infoByte
  obtain ⟨hz0, hz1, hz2⟩ : i0.zero = some (.int .u8 0) ∧ i0.size = 1 ∧ i0.bytes = 1 := by
    simp only [Prod.mk.injEq] at hi2; exact hi2
  have HI := hideIt (And.intro hi (And.intro hz0 (And.intro hz1 hz2)))
  clear hi2 hi hz0 hz1 hz2
  unfold maxLen at hsl
  have HD := hideIt h
  have HS := hideIt hs
  obtain ⟨sa, scap, rfl, hnil⟩ := hs.form
  by_cases h6 : s.length ≤ 65536
  · have h6' : ¬ (65536 : Int) < (s.length : Int) := by omega
    rw [textO_le h6]
    obtain ⟨bs, bad⟩ := st
    obtain ⟨hf, ho, h0, h1, z, h2, _⟩ := h
    have hf0 := hf 0
    have hpl := lt_of_cell h0
    obtain ⟨a, cap, rfl⟩ := own_form ho
    cases bad
    · simp only [Bool.false_eq_true, if_false] at h1
      have HOW := hideIt ho
      have HNP : Hid (∀ g, Value.ownBlock (.slice a bs.length cap) = some g → g ≠ p ∧ p < g) := fun g hg => by have := (ho.lt g hg).1; omega
      clear hf ho h2 hs
      cases sa with
      | none =>
        obtain ⟨rfl, rfl⟩ := hnil rfl
        go_enter Tryd.func14, Tryd.ntmps14
        go_wp2
        go_region_law (first
          | (go_simp; go_at_call 42; refine (four_at 0 (by decide) _).mono ?_; rintro e w1 ⟨g8, rfl, HO8, HB8⟩; dsimp only; have d0 : w1.cell? ⟨p, 0, none⟩ = some (.slice a bs.length cap) := (HB8.out.cell (p := ⟨p, 0, none⟩) hpl).trans h0; have f0 : w1.frozen? ⟨p, 0, none⟩ = false := (HB8.out.frozen (p := ⟨p, 0, none⟩) hpl).trans hf0; have HB9 : Hid (Below w.heap.size w w1) := (below_drew w).trans HB8.out)
          | (refine step_append_own rfl (.tmp 18) (.tmp 21) 32 rfl (p + 1) 5 i0 (.int .u8 0) 1 1 Tryd.underlying32 HI.out.1 HI.out.2.1 HI.out.2.2.1 HI.out.2.2.2 rfl (by decide) (.slice a bs.length cap) bs.length (Lib.byteCells bs) (by simp [Act.eval]) (own_kept HOW.out HB9.out) ⟨g8, 0, none⟩ 4 4 (Lib.byteCells (be 4 0)) (by simp [Act.eval]) (by rw [Lib.byteCells_length, be_length]) HO8.out (byteCells_one _) (by unfold maxLen; omega) (by omega) (by have := HB8.out.size; exact Nat.le_trans hpl this) ?_; intro v' w2 hown' hgrow hat; obtain ⟨a', cap', rfl⟩ := own_form hown'; have d1 : w2.cell? ⟨p, 0, none⟩ = some (.slice a bs.length cap) := hgrow.cell d0 (fun e => (HNP.out p e.symm).1 rfl); have f1 : w2.frozen? ⟨p, 0, none⟩ = false := (World.frozen?_of_block (hgrow.block p (lt_of_cell (a := ⟨p, 0, none⟩) d0) (fun e => (HNP.out p e.symm).1 rfl))).trans f0; have HO2 := hideIt hown'; have HG2 := hideIt hgrow; have HAT := hideIt hat; clear hown' hgrow hat)
          | (refine step_append_nil rfl (.tmp 22) (.tmp 23) 32 rfl (p + 1) 5 i0 1 Tryd.underlying32 HI.out.1 (.slice a' (bs.length + 4) cap') (bs.length + 4) _ (by simp [Act.eval]) HO2.out (by simp [Act.eval]) ?_))
        all_goals
          go_wp2
          go_end0
          have hg12 := DGrown.of_append p HB9.out HG2.out HAT.out
          have hs := HD.out.store (bs' := bs ++ textB []) hg12 ((HG2.out.block p (Nat.lt_of_lt_of_le hpl HB9.out.size) (fun e => (HNP.out p e.symm).1 rfl)).trans (HB9.out.block p hpl)) (by rw [List.length_append, textB_length, Lib.byteCells_append, textB, List.append_nil]; exact HO2.out)
          exact ⟨rfl, _, hs.1, hs.2⟩
      | some ad =>
        go_enter Tryd.func14, Tryd.ntmps14
        go_wp2
        go_region_law (first
          | (go_simp; go_at_call 42; refine (four_at s.length h6 _).mono ?_; rintro e w1 ⟨g8, rfl, HO8, HB8⟩; dsimp only; have d0 : w1.cell? ⟨p, 0, none⟩ = some (.slice a bs.length cap) := (HB8.out.cell (p := ⟨p, 0, none⟩) hpl).trans h0; have f0 : w1.frozen? ⟨p, 0, none⟩ = false := (HB8.out.frozen (p := ⟨p, 0, none⟩) hpl).trans hf0; have HB9 : Hid (Below w.heap.size w w1) := (below_drew w).trans HB8.out)
          | (refine step_append_own rfl (.tmp 18) (.tmp 21) 32 rfl (p + 1) 5 i0 (.int .u8 0) 1 1 Tryd.underlying32 HI.out.1 HI.out.2.1 HI.out.2.2.1 HI.out.2.2.2 rfl (by decide) (.slice a bs.length cap) bs.length (Lib.byteCells bs) (by simp [Act.eval]) (own_kept HOW.out HB9.out) ⟨g8, 0, none⟩ 4 4 (Lib.byteCells (be 4 s.length)) (by simp [Act.eval]) (by rw [Lib.byteCells_length, be_length]) HO8.out (byteCells_one _) (by unfold maxLen; omega) (by omega) (by have := HB8.out.size; exact Nat.le_trans hpl this) ?_; intro v' w2 hown' hgrow hat; obtain ⟨a', cap', rfl⟩ := own_form hown'; have d1 : w2.cell? ⟨p, 0, none⟩ = some (.slice a bs.length cap) := hgrow.cell d0 (fun e => (HNP.out p e.symm).1 rfl); have f1 : w2.frozen? ⟨p, 0, none⟩ = false := (World.frozen?_of_block (hgrow.block p (lt_of_cell (a := ⟨p, 0, none⟩) d0) (fun e => (HNP.out p e.symm).1 rfl))).trans f0; have HO2 := hideIt hown'; have HG2 := hideIt (DGrown.of_append p HB9.out hgrow hat); have HP2 : Hid (w2.heap[p]? = w.heap[p]?) := (hgrow.block p (Nat.lt_of_lt_of_le hpl HB9.out.size) (fun e => (HNP.out p e.symm).1 rfl)).trans (HB9.out.block p hpl); clear hown' hgrow hat)
          | (refine step_append_own rfl (.tmp 22) (.tmp 23) 32 rfl (p + 1) 5 i0 (.int .u8 0) 1 1 Tryd.underlying32 HI.out.1 HI.out.2.1 HI.out.2.2.1 HI.out.2.2.2 rfl (by decide) (.slice a' (bs.length + 4) cap') (bs.length + 4) _ (by simp [Act.eval]) HO2.out ad s.length scap (Lib.byteCells s) (by simp [Act.eval]) (by rw [Lib.byteCells_length]; omega) (RowIn.cells (RowIn.kept HS.out (fun k hk hl => HG2.out.block k hl (by show k ≠ p; have : k < p := hk; omega) (fun e => by have := (HNP.out k e).2; have : k < p := hk; omega)))) (byteCells_one _) (by unfold maxLen; omega) (by omega) (by have := HG2.out.size; exact Nat.le_trans hpl this) ?_; intro v3 w3 hown3 hgrow3 hat3; obtain ⟨a3, cap3, rfl⟩ := own_form hown3; have hp3 : w3.heap[p]? = w2.heap[p]? := hgrow3.block p (lt_of_cell (a := ⟨p, 0, none⟩) d1) (fun e => by have := (HO2.out.lt p e.symm).1; omega); have d2 : w3.cell? ⟨p, 0, none⟩ = some (.slice a bs.length cap) := (World.cell?_of_block (a := ⟨p, 0, none⟩) hp3).trans d1; have f2 : w3.frozen? ⟨p, 0, none⟩ = false := (World.frozen?_of_block (w := w2) (a := ⟨p, 0, none⟩) hp3).trans f1; have HO3 := hideIt hown3; have HG3 := hideIt (HG2.out.trans (DGrown.of_append p (Below.refl _ _) hgrow3 hat3)); have HP3 : Hid (w3.heap[p]? = w.heap[p]?) := hp3.trans HP2.out; clear hown3 hgrow3 hat3 hp3))
        all_goals
          go_wp2
          go_end0
          have hs := HD.out.store (bs' := bs ++ textB s) HG3.out HP3.out (by rw [List.length_append, textB_length, Lib.byteCells_append, textB, Lib.byteCells_append, ← List.append_assoc, ← Nat.add_assoc]; exact HO3.out)
          exact ⟨rfl, _, hs.1, hs.2⟩
    · simp only [if_true] at h1
      clear hf ho
      go_enter Tryd.func14, Tryd.ntmps14
      go_wp2
      go_end0
      exact ⟨rfl, _, HD.out, DGrown.refl _ _ _⟩
  · have h6' : (65536 : Int) < (s.length : Int) := by omega
    rw [textO_gt h6]
    clear h
    go_enter Tryd.func14, Tryd.ntmps14
    go_wp2_with fail
    refine (dbad_any p v st w HD.out hl).mono ?_
    rintro e w1 ⟨rfl, hd, hg⟩
    have HD1 := hideIt hd
    have HG1 := hideIt hg
    have c1 : w1.cell? ⟨p, 1, none⟩ = some (.int .i64 2) := by have := hd.c1; rw [put_none_bad] at this; exact this
    clear hd hg
    go_wp2
    go_end0
    exact ⟨rfl, _, HD1.out, HG1.out⟩
end Go.Proofs.YtaaaibnalhmmgaaDoor
