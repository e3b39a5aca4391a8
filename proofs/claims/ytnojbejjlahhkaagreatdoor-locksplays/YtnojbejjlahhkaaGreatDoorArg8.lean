/-
  What is proved here: keys and calls (cohortlaw08's Op) that came in: how they lie in memory, over this program.
-/
import Derived.Test.YtnojbejjlahhkaaGreatDoorArg
import Derived.Test.YtnojbejjlahhkaaGreatDoorHF
namespace Go.Proofs.YtnojbejjlahhkaaGreatDoor
open Go.ChangeShapes Go.WideShapes Go.ChangeAt Go.RowKit

theorem cellsOp8 : Tryz.prog.cellsOf 33 = 3 := by kernel_rfl
theorem cellsStrs : Tryz.prog.cellsOf 31 = 1 := by kernel_rfl
theorem str_list (s : ByteArray) : s = ⟨s.data.toList.toArray⟩ := by cases s; simp

section
variable {H : Type} {enc : TypeId × Value → H} {w : World} {base : Nat} {spare : Nat → Bool} {held : Bool} {fuel : Nat} {cs : List Value} {x : DataW H × List MemPlace}
theorem trod_struct3 {P : Program} {t : TypeId} {f0 f1 f2 : Field} (ht : P.underlying t = some (.struct #[f0, f1, f2])) (h : DataW.trod enc P w base spare held fuel t cs = some x) :
    ∃ y0 y1 y2 n, cs.length = P.cellsOf t ∧ DataW.trod enc P w base spare held n f0.type ((cs.drop f0.offset).take (P.cellsOf f0.type)) = some y0 ∧
      DataW.trod enc P w base spare held n f1.type ((cs.drop f1.offset).take (P.cellsOf f1.type)) = some y1 ∧ DataW.trod enc P w base spare held n f2.type ((cs.drop f2.offset).take (P.cellsOf f2.type)) = some y2 := by
  obtain ⟨xs, n, _, rfl, hl, hlen, hf⟩ := DataW.trod_struct ht h
  match xs, hlen with
  | [y0, y1, y2], _ => exact ⟨y0, y1, y2, n, hl, by simpa using hf 0 f0 rfl, by simpa using hf 1 f1 rfl, by simpa using hf 2 f2 rfl⟩

/-- a slice of texts -/
theorem open_strs (h : DataW.trod enc Tryz.prog w base spare held fuel 31 cs = some x) :
    ∃ (v : Value) (l : List (List UInt8)), cs = [v] ∧ KeysIn w (fun _ => True) v l ∧ l.length ≤ maxLen ∧ ∀ s ∈ l, s.length ≤ maxLen := by
  obtain ⟨v, l, e1, ⟨a, cap, e2, e3, e4, e5⟩, e6, e8, e7⟩ := open_row encStr (fun s => s.length ≤ maxLen) Tryz.underlying31 cellsString (fun h => by
    obtain ⟨s, hs, _, hsz⟩ := DataW.trod_string Tryz.underlying9 h
    exact ⟨s.data.toList, by rw [hs], hsz⟩) h
  refine ⟨v, l, e1, ⟨a, cap, e2, fun h => ⟨(e4 h).1, by rw [(e4 h).2]; rfl, by rw [(e4 h).2]; rfl⟩, fun k y hy => ?_⟩, e6, e8⟩
  simp only [strCells, List.getElem?_map, Option.map_eq_some_iff] at hy
  obtain ⟨z, hz, rfl⟩ := hy
  obtain ⟨b, off, r1, r2⟩ := e5 k z hz
  exact ⟨b, off, r1, trivial, r2⟩

set_option maxRecDepth 100000 in
theorem open_op8 (h : DataW.trod enc Tryz.prog w base spare held fuel 33 cs = some x) :
    ∃ (y : Op8) (u : Value), cs = [.int .i64 y.1, .int .i64 y.2.1, u] ∧ KeysIn w (fun _ => True) u y.2.2 ∧ Op8Ok y := by
  obtain ⟨y0, y1, y2, n, hl, g0, g1, g2⟩ := trod_struct3 Tryz.underlying33 h
  rw [cellsOp8] at hl
  match cs, hl with
  | [c0, c1, c2], _ =>
      have h0 : DataW.trod enc Tryz.prog w base spare held n 3 [c0] = some y0 := by have := g0; rw [cellsInt] at this; simpa using this
      have h1 : DataW.trod enc Tryz.prog w base spare held n 3 [c1] = some y1 := by have := g1; rw [cellsInt] at this; simpa using this
      have h2 : DataW.trod enc Tryz.prog w base spare held n 31 [c2] = some y2 := by have := g2; rw [cellsStrs] at this; simpa using this
      obtain ⟨k0, hk0, _, w0⟩ := DataW.trod_int Tryz.underlying3 h0
      obtain ⟨k1, hk1, _, w1⟩ := DataW.trod_int Tryz.underlying3 h1
      obtain ⟨v2, l2, hk2, o2, n2, s2⟩ := open_strs h2
      simp at hk0 hk1 hk2
      subst hk0 hk1 hk2
      exact ⟨(k0, k1, l2), c2, rfl, o2, fits_of_wf w0, fits_of_wf w1, n2, s2⟩

set_option maxRecDepth 100000 in
/-- a slice of calls that came in -/
theorem open_ops8 {W : World} {v : Value} {d : DataW H} {p : List MemPlace} (hv : Value.okWide Tryz.prog W .any base 22 v) (h : DataW.Trod enc Tryz.prog W 0 (fun _ => true) true 22 v d p) :
    ∃ l : List Op8, Ops8In W (· < W.heap.size) v l ∧ l.length ≤ maxLen ∧ ∀ y ∈ l, Op8Ok y := by
  obtain ⟨a0, len, cap, rfl⟩ := okWide_slice Tryz.underlying22 hv
  obtain ⟨fuel, hf⟩ := h
  rcases Deep.open_slice Tryz.underlying22 hf with ⟨hcs, _⟩ | ⟨a, len', cap', m, n, D, Pl, hcs, _, hl, hm, hmm, _, hx⟩
  · simp [Value.cells] at hcs
    obtain ⟨rfl, rfl, rfl⟩ := hcs
    exact ⟨[], ⟨none, 0, rfl, fun k x hx => by simp at hx⟩, by simp, by simp⟩
  · simp [Value.cells] at hcs
    obtain ⟨rfl, rfl, rfl⟩ := hcs
    rw [cellsOp8] at hx
    simp only [if_true] at hmm
    obtain ⟨f, hfn⟩ := Deep.choose_lt (α := Op8) (n := len) (p := fun i x => ∃ u, W.cell? (a.add (i * 3)) = some (.int .i64 x.1) ∧ W.cell? (a.add (i * 3 + 1)) = some (.int .i64 x.2.1) ∧ W.cell? (a.add (i * 3 + 2)) = some u ∧ KeysIn W (fun _ => True) u x.2.2 ∧ Op8Ok x) (fun i hi => by
      obtain ⟨cs', h1, h2⟩ := hx i (by omega)
      obtain ⟨y, u, rfl, hku, hok⟩ := open_op8 h2
      obtain ⟨_, _, hc⟩ := World.cells?_some h1
      have c0 := hc 0 (by omega)
      have c1 := hc 1 (by omega)
      have c2 := hc 2 (by omega)
      rw [Deep.add_add] at c0 c1 c2
      exact ⟨y, u, by simpa using c0, by simpa using c1, by simpa using c2, hku, hok⟩)
    refine ⟨(List.range len).map f, ?_, by simp; omega, ?_⟩
    · refine ⟨some a, cap, by simp, fun k x hkx => ?_⟩
      have hlt : k < len := by
        have := (List.getElem?_eq_some_iff.1 hkx).1; simpa using this
      have hfx : f k = x := by simpa [hlt] using hkx
      obtain ⟨u, c0, c1, c2, hku, _⟩ := hfn k hlt
      rw [hfx] at c0 c1 hku
      obtain ⟨_, z0, _⟩ := hfn 0 (by omega)
      obtain ⟨b, off, rfl⟩ := plain_addr c0 ⟨_, by simpa using z0⟩
      rw [addr_add] at c0 c1 c2
      exact ⟨b, off, u, rfl, lt_of_cell c0, c0, by rw [Nat.add_assoc]; exact c1, by rw [Nat.add_assoc]; exact c2, RowIn.mono hku (fun _ _ h => h)⟩
    · intro x hxm
      obtain ⟨i, hi, rfl⟩ := List.mem_map.1 hxm
      obtain ⟨u, _, _, _, _, hok⟩ := hfn i (List.mem_range.1 hi)
      exact hok

set_option maxRecDepth 100000 in
/-- keys that came in -/
theorem open_keys {W : World} {v : Value} {d : DataW H} {p : List MemPlace} (hv : Value.okWide Tryz.prog W .any base 31 v) (h : DataW.Trod enc Tryz.prog W 0 (fun _ => true) true 31 v d p) :
    ∃ l : List (List UInt8), KeysIn W (· < W.heap.size) v l ∧ l.length ≤ maxLen ∧ ∀ s ∈ l, s.length ≤ maxLen := by
  obtain ⟨a0, len, cap, rfl⟩ := okWide_slice Tryz.underlying31 hv
  obtain ⟨fuel, hf⟩ := h
  obtain ⟨v, l, e1, o, n, s⟩ := open_strs hf
  simp [Value.cells] at e1
  subst e1
  exact ⟨l, RowIn.mono o (fun _ _ hl => hl), n, s⟩
end
end Go.Proofs.YtnojbejjlahhkaaGreatDoor
