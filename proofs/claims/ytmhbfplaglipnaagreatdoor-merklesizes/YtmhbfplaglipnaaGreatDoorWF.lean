/-
  What is proved here: wire's Writer: Bytes, over this program.
-/
import Derived.Test.YtmhbfplaglipnaaGreatDoorWE
import Derived.OwnWalk
namespace Go.Proofs.YtmhbfplaglipnaaGreatDoor
open Go.RowKit Go.Extern.Stop Go.Stop Go.Extern

/-- how many bytes parts have -/
def total (cs : List (List UInt8)) : Nat := cs.reverse.flatten.length
theorem total_cons (c : List UInt8) (cs : List (List UInt8)) : total (c :: cs) = total cs + c.length := by simp [total]

/-- the row that is filled from its end: so far the bytes 'done' lie at its end, m cells are ahead of them -/
def Filled (w : World) (g m : Nat) (done : List UInt8) : Prop := ∃ Z : List Value, Z.length = m ∧ w.heap[g]? = some (.cells (Z ++ Lib.byteCells done).toArray 5 (0, 0))

theorem Filled.own {w : World} {g : Nat} {bs : List UInt8} (h : Filled w g 0 bs) (hl : bs.length ≤ maxLen) : w.ownsRow g 5 1 (.slice (some ⟨g, 0, none⟩) bs.length bs.length) bs.length (Lib.byteCells bs) := by
  obtain ⟨Z, hz, hh⟩ := h
  have : Z = [] := List.eq_nil_of_length_eq_zero hz
  subst this
  exact ⟨by simp [Lib.byteCells], Or.inr ⟨g, bs.length, (Lib.byteCells bs).toArray, rfl, Nat.le_refl _, by simpa using hh, Nat.le_refl _, hl, by simp [Lib.byteCells], by rw [Nat.mul_one, ← Lib.byteCells_length bs]; exact List.take_length⟩⟩

theorem splice_fill (Z : List Value) (c done : List UInt8) (m : Nat) (hz : Z.length = m + c.length) : splice (Z ++ Lib.byteCells done) m (Lib.byteCells c) = Z.take m ++ Lib.byteCells (c ++ done) := by
  unfold splice
  rw [Lib.byteCells_length, List.take_append_of_le_length (by omega), List.drop_append, List.drop_of_length_le (by omega), Lib.byteCells_append, hz]
  simp

theorem BytesIn.src {w : World} {A : Nat → Prop} {a : Option Addr} {n cap : Nat} {l : List UInt8} (h : BytesIn w A (.slice a n cap) l) (h0 : 0 < (Lib.byteCells l).length) : ∃ ad, a = some ad ∧ ∀ j v, (Lib.byteCells l)[j]? = some v → w.cell? (ad.add j) = some v := by
  obtain ⟨a', cap', e1, _, h2⟩ := h
  simp only [Value.slice.injEq] at e1
  obtain ⟨rfl, _, rfl⟩ := e1
  obtain ⟨b, off, rfl, _⟩ := h2 0 _ (List.getElem?_eq_getElem h0)
  refine ⟨_, rfl, fun j v hj => ?_⟩
  obtain ⟨b', off', e, _, e3⟩ := h2 j v hj
  cases e
  rw [addr_add]; exact e3

theorem infoByteSize : (Tryz.prog.info? 5).map (·.size) = some 1 := by kernel_rfl

set_option maxRecDepth 100000 in
set_option maxHeartbeats 4000000 in
theorem wBytes_ok (p : Nat) (A : Nat → Prop) (bs : List UInt8) (w : World) (hw : WOk w p A bs) (hl : bs.length ≤ 1000000000000) :
    Calls Tryz.prog 72 #[.pointer (some ⟨p, 0, none⟩)] w fun e w' => ∃ v, e = .returned (.tuple #[v, .nilIface]) ∧ w'.ownsRow w.heap.size 5 1 v bs.length (Lib.byteCells bs) ∧ Below w.heap.size w w' := by
  obtain ⟨i0, hi, hi2⟩ := Option.map_eq_some_iff.1 infoByte
  obtain ⟨hz0, hz1, hz2⟩ : i0.zero = some (.int .u8 0) ∧ i0.size = 1 ∧ i0.bytes = 1 := by
    simp only [Prod.mk.injEq] at hi2; exact hi2
  have HI := hideIt (And.intro hi (And.intro hz0 (And.intro hz1 hz2)))
  clear hi2 hi hz0 hz1 hz2
  obtain ⟨hf, q, cs, h0, h1, h2, hps, hbs⟩ := hw
  have HP := hideIt (And.intro hps hbs)
  have hpl := lt_of_cell h0
  simp only at hpl
  have HC := hideIt (And.intro h0 (And.intro h1 h2))
  clear hf hps hbs
  go_enter Tryz.func72, Tryz.ntmps72
  go_wp2_with (at_make; refine wpList_make_full _ rfl _ _ 75 rfl w.heap.size 5 i0 (.int .u8 0) 1 Tryz.underlying75 HI.out.1 HI.out.2.1 HI.out.2.2.1 .i64 .i64 _ _ bs.length rfl rfl rfl rfl (by rw [HI.out.2.2.2]; omega) (by unfold maxLen; omega) (Nat.le_refl _) ?_)
  intro w1 hown hgrow
  have HB1 := hideIt (⟨hgrow.os, hgrow.tape, hgrow.output, hgrow.size, fun k hk => hgrow.block k hk (by simp)⟩ : Below w.heap.size w w1)
  have HF1 : Hid (Filled w1 w.heap.size (total cs) []) := by
    obtain ⟨g1, g2⟩ := hown
    rcases g2 with ⟨g3, _⟩ | ⟨g, cap, cur, g3, _, g4, _, _, g5, _⟩
    · cases g3
    · simp only [Value.slice.injEq, Option.some.injEq, Addr.mk.injEq] at g3
      obtain ⟨⟨rfl, _⟩, _, rfl⟩ := g3
      have e : Filled w1 w.heap.size (total cs) [] := ⟨cur.toList, by rw [total, ← HP.out.2]; simpa using g5, by simpa [Lib.byteCells] using g4⟩
      exact e
  have d0 : w1.cell? ⟨p, 0, none⟩ = some (.pointer q) := (HB1.out.cell (p := ⟨p, 0, none⟩) hpl).trans h0
  have d1 : w1.cell? ⟨p, 1, none⟩ = some (.int .i64 bs.length) := (HB1.out.cell (p := ⟨p, 1, none⟩) hpl).trans h1
  clear hown hgrow h0 h1 h2
  go_wp2
  go_loopg [5, 6] cs.length (fun k e pt wr => ∃ (q' : Option Addr) (cs2 : List (List UInt8)) (done : List UInt8), cs2.length = k ∧ e = .int .i64 (total cs2) ∧ pt = .pointer q' ∧ total cs2 + done.length = bs.length ∧ Hid (cs2.reverse.flatten ++ done = bs) ∧ Hid (Parts w A q' cs2) ∧ Hid (Filled wr w.heap.size (total cs2) done) ∧ Hid (Below w.heap.size w wr))
  case atStart => exact ⟨q, cs, [], rfl, by rw [HP.out.2]; rfl, rfl, by rw [HP.out.2]; rfl, by rw [HP.out.2]; exact List.append_nil _, HP.out.1, HF1.out, HB1.out⟩
  case round =>
    obtain ⟨q', cs2, done, hk, rfl, rfl, htot, HE, HPa, HF, HB⟩ := hrel
    cases cs2 with
    | nil =>
      have e1 : q' = none := HPa.out
      subst e1
      go_wp2
      go_ret2
      have e2 : done = bs := by have := HE.out; simpa using this
      subst e2
      exact ⟨_, rfl, Filled.own HF.out (by unfold maxLen; omega), HB.out⟩
    | cons c cs3 =>
      obtain ⟨b, q2, v, rfl, _, c0, c1, hby, hrest⟩ := HPa.out
      obtain ⟨a, cap, rfl, _⟩ := hby.form
      have d2 : wr.cell? ⟨b, 0, none⟩ = some (.pointer q2) := (HB.out.cell (p := ⟨b, 0, none⟩) (lt_of_cell c0)).trans c0
      have d3 : wr.cell? ⟨b, 1, none⟩ = some (.slice a c.length cap) := (HB.out.cell (p := ⟨b, 1, none⟩) (lt_of_cell c1)).trans c1
      have HT := hideIt (total_cons c cs3)
      have HR := hideIt hrest
      have HY := hideIt (RowIn.kept hby (Kept.of_all HB.out))
      obtain ⟨tc, htc⟩ : ∃ t, t = total (c :: cs3) := ⟨_, rfl⟩
      obtain ⟨t3, ht3⟩ : ∃ t, t = total cs3 := ⟨_, rfl⟩
      have htt : tc = t3 + c.length := by rw [htc, ht3, HT.out]
      rw [← htc] at htot HF
      rw [← htc]
      have HT3 := hideIt ht3
      have HTC := hideIt htc
      have hbw : b < w.heap.size := lt_of_cell (a := ⟨b, 0, none⟩) c0
      have HC0 := hideIt c0
      clear c0 c1 hby hrest ht3 htc
      obtain ⟨Z, hZl, hZh⟩ := HF.out
      have HZ := hideIt hZh
      have HSP := hideIt (splice_fill Z c done t3 (by omega))
      obtain ⟨cur, hcur⟩ : ∃ cur, cur = Z ++ Lib.byteCells done := ⟨_, rfl⟩
      rw [← hcur] at HZ HSP
      obtain ⟨X, hX⟩ : ∃ X, X = Lib.byteCells c := ⟨_, rfl⟩
      rw [← hX] at HSP
      have HX := hideIt hX
      have hXl : X.length = c.length := by rw [hX, Lib.byteCells_length]
      have hcl : cur.length = tc + done.length := by rw [hcur, List.length_append, hZl, Lib.byteCells_length]
      have HXL := hideIt hXl
      have HZL := hideIt hZl
      have HCL := hideIt hcl
      clear hZh hcur hX hZl hXl hcl
      have hle : t3 ≤ bs.length := by omega
      have hb1 : t3 + c.length ≤ 1000000000000 := by omega
      have HTO := hideIt htot
      subst htt
      clear htot
      by_cases hlt : bs.length = t3
      · subst hlt
        go_wp2
        go_region_law (refine step_copy_splice rfl (.tmp 44) (.tmp 48) 75 75 rfl 5 Tryz.underlying75 infoByteSize _ _ _ _ _ _ rfl rfl w.heap.size bs.length cur 5 (by exact HZ.out) X (by have := HXL.out; have := HTO.out; show X.length = min _ _; omega) (fun h => by have := HXL.out; have := HTO.out; omega) (by have := HXL.out; have := HCL.out; omega) (by rw [HX.out]; exact byteCells_one c) w.heap.size w (by exact HB.out.drew) (Nat.le_refl _) ?_; intro w2 HG2 hB2)
        have d4 : w2.cell? ⟨b, 0, none⟩ = some (.pointer q2) := (hB2.cell (p := ⟨b, 0, none⟩) hbw).trans HC0.out
        have HB2 := hideIt hB2
        clear hB2 d2 d3
        go_wp2
        go_roundg cs3.length
        case rel =>
          refine ⟨q2, cs3, c ++ done, rfl, by rw [← HT3.out], rfl, by have := HTO.out; rw [← HT3.out, List.length_append]; omega, ?_, HR.out, ?_, HB2.out⟩
          · have := HE.out; simpa [Hid] using this
          · have e : Filled w2 w.heap.size (total cs3) (c ++ done) := ⟨Z.take (total cs3), by have := HZL.out; rw [← HT3.out, List.length_take]; omega, by rw [← HT3.out, ← HSP.out]; exact HG2.out⟩
            exact e
        case measure => simp at hk; omega
      · go_wp2
        go_region_law (refine step_copy_splice rfl (.tmp 44) (.tmp 48) 75 75 rfl 5 Tryz.underlying75 infoByteSize _ _ _ _ _ _ rfl rfl w.heap.size t3 cur 5 (by exact HZ.out) X (by have := HXL.out; have := HTO.out; show X.length = min _ _; omega) (fun h => ⟨rfl, by rw [HX.out] at h ⊢; exact BytesIn.src HY.out h⟩) (by have := HXL.out; have := HCL.out; omega) (by rw [HX.out]; exact byteCells_one c) w.heap.size w (by exact HB.out.drew) (Nat.le_refl _) ?_; intro w2 HG2 hB2)
        have d4 : w2.cell? ⟨b, 0, none⟩ = some (.pointer q2) := (hB2.cell (p := ⟨b, 0, none⟩) hbw).trans HC0.out
        have HB2 := hideIt hB2
        clear hB2 d2 d3
        go_wp2
        go_roundg cs3.length
        case rel =>
          refine ⟨q2, cs3, c ++ done, rfl, by rw [← HT3.out], rfl, by have := HTO.out; rw [← HT3.out, List.length_append]; omega, ?_, HR.out, ?_, HB2.out⟩
          · have := HE.out; simpa [Hid] using this
          · have e : Filled w2 w.heap.size (total cs3) (c ++ done) := ⟨Z.take (total cs3), by have := HZL.out; rw [← HT3.out, List.length_take]; omega, by rw [← HT3.out, ← HSP.out]; exact HG2.out⟩
            exact e
        case measure => simp at hk; omega
end Go.Proofs.YtmhbfplaglipnaaGreatDoor
