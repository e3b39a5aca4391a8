/-
  What is proved here: the statements' own Seal (cohortlaw05) and a Cert in memory: how those that came in lie there, over this program.
-/
import Derived.Test.YtpgahjnjkihmhaaGreatDoorArg
import Derived.Test.YtpgahjnjkihmhaaGreatDoorTrip
namespace Go.Proofs.YtpgahjnjkihmhaaGreatDoor
open Go.ChangeShapes Go.WideShapes Go.ChangeAt Go.RowKit

theorem cellsSeal5 : Tryz.prog.cellsOf 40 = 3 := by kernel_rfl

section
variable {H : Type} {enc : TypeId × Value → H} {w : World} {base : Nat} {spare : Nat → Bool} {held : Bool} {fuel : Nat} {cs : List Value} {x : DataW H × List MemPlace}
theorem trod_struct3 {P : Program} {t : TypeId} {f0 f1 f2 : Field} (ht : P.underlying t = some (.struct #[f0, f1, f2])) (h : DataW.trod enc P w base spare held fuel t cs = some x) :
    ∃ y0 y1 y2 n, cs.length = P.cellsOf t ∧ DataW.trod enc P w base spare held n f0.type ((cs.drop f0.offset).take (P.cellsOf f0.type)) = some y0 ∧
      DataW.trod enc P w base spare held n f1.type ((cs.drop f1.offset).take (P.cellsOf f1.type)) = some y1 ∧ DataW.trod enc P w base spare held n f2.type ((cs.drop f2.offset).take (P.cellsOf f2.type)) = some y2 := by
  obtain ⟨xs, n, _, rfl, hl, hlen, hf⟩ := DataW.trod_struct ht h
  match xs, hlen with
  | [y0, y1, y2], _ => exact ⟨y0, y1, y2, n, hl, by simpa using hf 0 f0 rfl, by simpa using hf 1 f1 rfl, by simpa using hf 2 f2 rfl⟩

set_option maxRecDepth 100000 in
theorem open_seal5 (h : DataW.trod enc Tryz.prog w base spare held fuel 40 cs = some x) :
    ∃ y : Op4, cs = [.int .i64 y.1, .int .i64 y.2.1, .int .i64 y.2.2] ∧ Op4Ok y := by
  obtain ⟨y0, y1, y2, n, hl, g0, g1, g2⟩ := trod_struct3 Tryz.underlying40 h
  rw [cellsSeal5] at hl
  match cs, hl with
  | [c0, c1, c2], _ =>
      have h0 : DataW.trod enc Tryz.prog w base spare held n 3 [c0] = some y0 := by have := g0; rw [cellsInt] at this; simpa using this
      have h1 : DataW.trod enc Tryz.prog w base spare held n 3 [c1] = some y1 := by have := g1; rw [cellsInt] at this; simpa using this
      have h2 : DataW.trod enc Tryz.prog w base spare held n 3 [c2] = some y2 := by have := g2; rw [cellsInt] at this; simpa using this
      obtain ⟨k0, hk0, _, w0⟩ := DataW.trod_int Tryz.underlying3 h0
      obtain ⟨k1, hk1, _, w1⟩ := DataW.trod_int Tryz.underlying3 h1
      obtain ⟨k2, hk2, _, w2⟩ := DataW.trod_int Tryz.underlying3 h2
      simp at hk0 hk1 hk2
      subst hk0 hk1 hk2
      exact ⟨(k0, k1, k2), rfl, fits_of_wf w0, fits_of_wf w1, fits_of_wf w2⟩

set_option maxRecDepth 100000 in
/-- a slice of Seals that came in -/
theorem open_seals5 {W : World} {v : Value} {d : DataW H} {p : List MemPlace} (hv : Value.okWide Tryz.prog W .any base 41 v) (h : DataW.Trod enc Tryz.prog W 0 (fun _ => true) true 41 v d p) :
    ∃ l : List Op4, Ops4In W (· < W.heap.size) v l ∧ l.length ≤ maxLen ∧ ∀ y ∈ l, Op4Ok y := by
  obtain ⟨a0, len, cap, rfl⟩ := okWide_slice Tryz.underlying41 hv
  obtain ⟨fuel, hf⟩ := h
  rcases Deep.open_slice Tryz.underlying41 hf with ⟨hcs, _⟩ | ⟨a, len', cap', m, n, D, Pl, hcs, _, hl, hm, hmm, _, hx⟩
  · simp [Value.cells] at hcs
    obtain ⟨rfl, rfl, rfl⟩ := hcs
    exact ⟨[], ⟨none, 0, rfl, fun k x hx => by simp at hx⟩, by simp, by simp⟩
  · simp [Value.cells] at hcs
    obtain ⟨rfl, rfl, rfl⟩ := hcs
    rw [cellsSeal5] at hx
    simp only [if_true] at hmm
    obtain ⟨f, hfn⟩ := Deep.choose_lt (α := Op4) (n := len) (p := fun i x => W.cell? (a.add (i * 3)) = some (.int .i64 x.1) ∧ W.cell? (a.add (i * 3 + 1)) = some (.int .i64 x.2.1) ∧ W.cell? (a.add (i * 3 + 2)) = some (.int .i64 x.2.2) ∧ Op4Ok x) (fun i hi => by
      obtain ⟨cs', h1, h2⟩ := hx i (by omega)
      obtain ⟨y, rfl, hok⟩ := open_seal5 h2
      obtain ⟨_, _, hc⟩ := World.cells?_some h1
      have c0 := hc 0 (by omega)
      have c1 := hc 1 (by omega)
      have c2 := hc 2 (by omega)
      rw [Deep.add_add] at c0 c1 c2
      exact ⟨y, by simpa using c0, by simpa using c1, by simpa using c2, hok⟩)
    refine ⟨(List.range len).map f, Ops4In.mono (A := fun _ => True) ?_ (fun _ _ h => h), by simp; omega, ?_⟩
    · refine ⟨some a, cap, by simp, fun k x hkx => ?_⟩
      have hlt : k < len := by
        have := (List.getElem?_eq_some_iff.1 hkx).1; simpa using this
      have hfx : f k = x := by simpa [hlt] using hkx
      obtain ⟨c0, c1, c2, _⟩ := hfn k hlt
      rw [hfx] at c0 c1 c2
      have z0 := (hfn 0 (by omega)).1
      obtain ⟨b, off, rfl⟩ := plain_addr c0 ⟨_, by simpa using z0⟩
      rw [addr_add] at c0 c1 c2
      exact ⟨b, off, rfl, trivial, c0, by rw [Nat.add_assoc]; exact c1, by rw [Nat.add_assoc]; exact c2⟩
    · intro x hxm
      obtain ⟨i, hi, rfl⟩ := List.mem_map.1 hxm
      exact (hfn i (List.mem_range.1 hi)).2.2.2
theorem cellsCert : Tryz.prog.cellsOf 24 = 3 := by kernel_rfl
theorem cellsInts : Tryz.prog.cellsOf 22 = 1 := by kernel_rfl

set_option maxRecDepth 100000 in
/-- a Cert that came in -/
theorem open_cert {W : World} {v : Value} {d : DataW H} {p : List MemPlace} (hv : Value.okWide Tryz.prog W .any base 24 v) (h : DataW.Trod enc Tryz.prog W 0 (fun _ => true) true 24 v d p) :
    ∃ (g e : Int) (u : Value) (l : List Int), v = .agg #[.int .i64 g, .int .i64 e, u] ∧ fits g ∧ fits e ∧ NumsIn W (· < W.heap.size) u l ∧ l.length ≤ maxLen ∧ ∀ y ∈ l, fits y := by
  obtain ⟨cs, rfl, hsz⟩ := okWide_struct Tryz.underlying24 hv
  rw [cellsCert] at hsz
  obtain ⟨cl⟩ := cs
  match cl, hsz with
  | [c0, c1, c2], _ =>
    obtain ⟨fuel, hf⟩ := h
    obtain ⟨y0, y1, y2, n, hl, g0, g1, g2⟩ := trod_struct3 Tryz.underlying24 hf
    simp only [Value.cells] at g0 g1 g2
    have h0 : DataW.trod enc Tryz.prog W 0 (fun _ => true) true n 3 [c0] = some y0 := by have := g0; rw [cellsInt] at this; simpa using this
    have h1 : DataW.trod enc Tryz.prog W 0 (fun _ => true) true n 3 [c1] = some y1 := by have := g1; rw [cellsInt] at this; simpa using this
    have h2 : DataW.trod enc Tryz.prog W 0 (fun _ => true) true n 22 [c2] = some y2 := by have := g2; rw [cellsInts] at this; simpa using this
    obtain ⟨k0, hk0, _, w0⟩ := DataW.trod_int Tryz.underlying3 h0
    obtain ⟨k1, hk1, _, w1⟩ := DataW.trod_int Tryz.underlying3 h1
    obtain ⟨u, l, e, o, hn, hm⟩ := open_ints h2
    simp at hk0 hk1 e
    subst hk0 hk1 e
    exact ⟨k0, k1, _, l, rfl, fits_of_wf w0, fits_of_wf w1, RowIn.mono (A' := (· < W.heap.size)) o (fun _ _ h => h), hn, hm⟩
end
end Go.Proofs.YtpgahjnjkihmhaaGreatDoor
