/-
  What is proved here: entries and texts in memory: how those that came in lie there, over this program.
-/
import Derived.Test.YtohlepbfjgehgaaGreatDoorArg
import Derived.Test.YtohlepbfjgehgaaGreatDoorEI
namespace Go.Proofs.YtohlepbfjgehgaaGreatDoor
open Go.ChangeShapes Go.WideShapes Go.ChangeAt Go.RowKit

theorem cellsEntry : Tryz.prog.cellsOf 42 = 3 := by kernel_rfl
theorem cellsEntries : Tryz.prog.cellsOf 38 = 1 := by kernel_rfl
theorem cellsI646 : Tryz.prog.cellsOf 2 = 1 := by kernel_rfl

/-- what holds of an entry that came in -/
def EntOk (e : Ent) : Prop := e.1.length ≤ maxLen ∧ e.2.1.length ≤ maxLen ∧ fits e.2.2
theorem str_list (s : ByteArray) : s = ⟨s.data.toList.toArray⟩ := by cases s; simp

section
variable {H : Type} {enc : TypeId × Value → H} {w : World} {base : Nat} {spare : Nat → Bool} {held : Bool} {fuel : Nat} {cs : List Value} {x : DataW H × List MemPlace}
theorem trod_struct3 {P : Program} {t : TypeId} {f0 f1 f2 : Field} (ht : P.underlying t = some (.struct #[f0, f1, f2])) (h : DataW.trod enc P w base spare held fuel t cs = some x) :
    ∃ y0 y1 y2 n, cs.length = P.cellsOf t ∧ DataW.trod enc P w base spare held n f0.type ((cs.drop f0.offset).take (P.cellsOf f0.type)) = some y0 ∧
      DataW.trod enc P w base spare held n f1.type ((cs.drop f1.offset).take (P.cellsOf f1.type)) = some y1 ∧ DataW.trod enc P w base spare held n f2.type ((cs.drop f2.offset).take (P.cellsOf f2.type)) = some y2 := by
  obtain ⟨xs, n, _, rfl, hl, hlen, hf⟩ := DataW.trod_struct ht h
  match xs, hlen with
  | [y0, y1, y2], _ => exact ⟨y0, y1, y2, n, hl, by simpa using hf 0 f0 rfl, by simpa using hf 1 f1 rfl, by simpa using hf 2 f2 rfl⟩

set_option maxRecDepth 100000 in
theorem open_entry (h : DataW.trod enc Tryz.prog w base spare held fuel 42 cs = some x) : ∃ e : Ent, cs = entCells e ∧ EntOk e := by
  obtain ⟨y0, y1, y2, n, hl, g0, g1, g2⟩ := trod_struct3 Tryz.underlying42 h
  rw [cellsEntry] at hl
  match cs, hl with
  | [c0, c1, c2], _ =>
      have h0 : DataW.trod enc Tryz.prog w base spare held n 9 [c0] = some y0 := by have := g0; rw [cellsString] at this; simpa using this
      have h1 : DataW.trod enc Tryz.prog w base spare held n 9 [c1] = some y1 := by have := g1; rw [cellsString] at this; simpa using this
      have h2 : DataW.trod enc Tryz.prog w base spare held n 2 [c2] = some y2 := by have := g2; rw [cellsI646] at this; simpa using this
      obtain ⟨s0, hk0, _, w0⟩ := DataW.trod_string Tryz.underlying9 h0
      obtain ⟨s1, hk1, _, w1⟩ := DataW.trod_string Tryz.underlying9 h1
      obtain ⟨k2, hk2, _, w2⟩ := DataW.trod_int Tryz.underlying2 h2
      simp at hk0 hk1 hk2
      subst hk0 hk1 hk2
      exact ⟨(s0.data.toList, s1.data.toList, k2), by unfold entCells; simp only [← str_list], w0, w1, fits_of_wf w2⟩

set_option maxRecDepth 100000 in
/-- a slice of entries -/
theorem open_ents (h : DataW.trod enc Tryz.prog w base spare held fuel 38 cs = some x) :
    ∃ (v : Value) (l : List Ent), cs = [v] ∧ EntsIn w (fun _ => True) v l ∧ (∃ a cap, v = .slice a l.length cap ∧ l.length ≤ cap) ∧ l.length ≤ maxLen ∧ ∀ e ∈ l, EntOk e := by
  rcases Deep.open_slice Tryz.underlying38 h with ⟨rfl, rfl⟩ | ⟨a, len, cap, m, n, D, Pl, rfl, _, hl, hm, hmm, rfl, hx⟩
  · exact ⟨_, [], rfl, ⟨none, 0, rfl, fun _ => ⟨rfl, rfl, rfl⟩, fun k y hy => by simp [entsCells] at hy⟩, ⟨none, 0, rfl, Nat.le_refl _⟩, by simp, by simp⟩
  · have hle : len ≤ m := by rw [hmm]; split <;> omega
    rw [cellsEntry] at hx
    obtain ⟨g, hg⟩ := Deep.choose_lt (α := Ent) (n := len) (p := fun i y => w.cell? (a.add (i * 3)) = some (.string ⟨y.1.toArray⟩) ∧ w.cell? (a.add (i * 3 + 1)) = some (.string ⟨y.2.1.toArray⟩) ∧ w.cell? (a.add (i * 3 + 2)) = some (.int .i64 y.2.2) ∧ EntOk y) (fun i hi => by
      obtain ⟨cs', c1, c2⟩ := hx i (by omega)
      obtain ⟨y, rfl, hq⟩ := open_entry c2
      obtain ⟨_, _, hc⟩ := World.cells?_some c1
      have d0 := hc 0 (by omega)
      have d1 := hc 1 (by omega)
      have d2 := hc 2 (by omega)
      rw [Deep.add_add] at d0 d1 d2
      exact ⟨y, by simpa [entCells] using d0, by simpa [entCells] using d1, by simpa [entCells] using d2, hq⟩)
    have hlen : ((List.range len).map g).length = len := by simp
    refine ⟨_, (List.range len).map g, rfl, ⟨some a, cap, by rw [hlen], (fun e => nomatch e), fun k y hy => ?_⟩, ⟨some a, cap, by rw [hlen], by rw [hlen]; exact hl⟩, by rw [hlen]; omega, ?_⟩
    · have hk := (List.getElem?_eq_some_iff.1 hy).1
      rw [entsCells_len, hlen] at hk
      obtain ⟨q, r, hr, rfl⟩ : ∃ q r, r < 3 ∧ k = q * 3 + r := ⟨k / 3, k % 3, Nat.mod_lt _ (by decide), by omega⟩
      have hq : q < len := by omega
      have hgq : ((List.range len).map g)[q]? = some (g q) := by simp [hq]
      obtain ⟨e0, e1, e2⟩ := entsCells_at hgq
      obtain ⟨d0, d1, d2, _⟩ := hg q hq
      have z0 := (hg 0 (by omega)).1
      obtain ⟨b, off, rfl⟩ := plain_addr d0 ⟨_, by simpa using z0⟩
      rw [addr_add] at d0 d1 d2
      refine ⟨b, off, rfl, trivial, ?_⟩
      match r, hr with
      | 0, _ => rw [Nat.add_zero] at hy ⊢; rw [e0] at hy; cases hy; exact d0
      | 1, _ => rw [e1] at hy; cases hy; exact d1
      | 2, _ => rw [e2] at hy; cases hy; exact d2
    · intro y hy
      obtain ⟨i, hi, rfl⟩ := List.mem_map.1 hy
      exact (hg i (List.mem_range.1 hi)).2.2.2

set_option maxRecDepth 100000 in
/-- a slice of entries that came in -/
theorem open_entries {W : World} {v : Value} {d : DataW H} {p : List MemPlace} (hv : Value.okWide Tryz.prog W .any base 38 v) (h : DataW.Trod enc Tryz.prog W 0 (fun _ => true) true 38 v d p) :
    ∃ l : List Ent, EntsIn W (· < W.heap.size) v l ∧ l.length ≤ maxLen ∧ (∀ a cap, v = .slice a l.length cap → l.length ≤ cap) ∧ ∀ e ∈ l, EntOk e := by
  obtain ⟨a0, len, cap, rfl⟩ := okWide_slice Tryz.underlying38 hv
  obtain ⟨fuel, hf⟩ := h
  obtain ⟨v, l, e1, o, ⟨a, c, e2, hc⟩, hn, hm⟩ := open_ents hf
  simp [Value.cells] at e1
  subst e1
  exact ⟨l, RowIn.mono o (fun _ _ hl => hl), hn, fun a' c' e3 => by rw [e2] at e3; cases e3; exact hc, hm⟩

set_option maxRecDepth 100000 in
/-- a text that came in -/
theorem open_string {W : World} {v : Value} {d : DataW H} {p : List MemPlace} (hv : Value.okWide Tryz.prog W .any base 9 v) (h : DataW.Trod enc Tryz.prog W 0 (fun _ => true) true 9 v d p) :
    ∃ s : List UInt8, v = .string ⟨s.toArray⟩ ∧ s.length ≤ maxLen := by
  obtain ⟨s0, rfl⟩ := okWide_string Tryz.underlying9 hv
  obtain ⟨fuel, hf⟩ := h
  obtain ⟨s, hs, _, hsz⟩ := DataW.trod_string Tryz.underlying9 hf
  simp [Value.cells] at hs
  subst hs
  exact ⟨s0.data.toList, by rw [← str_list], hsz⟩
end
end Go.Proofs.YtohlepbfjgehgaaGreatDoor
