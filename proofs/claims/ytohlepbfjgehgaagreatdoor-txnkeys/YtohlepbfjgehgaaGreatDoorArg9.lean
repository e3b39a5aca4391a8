/-
  What is proved here: pieces and texts in memory: how those that came in lie there, over this program.
-/
import Derived.Test.YtohlepbfjgehgaaGreatDoorArg
import Derived.Test.YtohlepbfjgehgaaGreatDoorArg7
import Derived.Test.YtohlepbfjgehgaaGreatDoorPM
namespace Go.Proofs.YtohlepbfjgehgaaGreatDoor
open Go.ChangeShapes Go.WideShapes Go.ChangeAt Go.RowKit

theorem cellsPiece : Tryz.prog.cellsOf 62 = 3 := by kernel_rfl
theorem cellsPieces : Tryz.prog.cellsOf 52 = 1 := by kernel_rfl
theorem cellsStrs : Tryz.prog.cellsOf 43 = 1 := by kernel_rfl
/-- what holds of a piece that came in -/
def PcFits (e : Pc) : Prop := e.1.length ≤ maxLen ∧ fits e.2.1 ∧ fits e.2.2
section
variable {H : Type} {enc : TypeId × Value → H} {w : World} {base : Nat} {spare : Nat → Bool} {held : Bool} {fuel : Nat} {cs : List Value} {x : DataW H × List MemPlace}
set_option maxRecDepth 100000 in
theorem open_piece (h : DataW.trod enc Tryz.prog w base spare held fuel 62 cs = some x) : ∃ e : Pc, cs = pcCells e ∧ PcFits e := by
  obtain ⟨y0, y1, y2, n, hl, g0, g1, g2⟩ := trod_struct3 Tryz.underlying62 h
  rw [cellsPiece] at hl
  match cs, hl with
  | [c0, c1, c2], _ =>
      have h0 : DataW.trod enc Tryz.prog w base spare held n 9 [c0] = some y0 := by have := g0; rw [cellsString] at this; simpa using this
      have h1 : DataW.trod enc Tryz.prog w base spare held n 3 [c1] = some y1 := by have := g1; rw [cellsInt] at this; simpa using this
      have h2 : DataW.trod enc Tryz.prog w base spare held n 2 [c2] = some y2 := by have := g2; rw [cellsI646] at this; simpa using this
      obtain ⟨s0, hk0, _, w0⟩ := DataW.trod_string Tryz.underlying9 h0
      obtain ⟨k1, hk1, _, w1⟩ := DataW.trod_int Tryz.underlying3 h1
      obtain ⟨k2, hk2, _, w2⟩ := DataW.trod_int Tryz.underlying2 h2
      simp at hk0 hk1 hk2
      subst hk0 hk1 hk2
      exact ⟨(s0.data.toList, k1, k2), by unfold pcCells; simp only [← str_list], w0, fits_of_wf w1, fits_of_wf w2⟩

set_option maxRecDepth 100000 in
/-- a slice of pieces -/
theorem open_pcs (h : DataW.trod enc Tryz.prog w base spare held fuel 52 cs = some x) :
    ∃ (v : Value) (l : List Pc), cs = [v] ∧ PcsIn w (fun _ => True) v l ∧ (∃ a cap, v = .slice a l.length cap ∧ l.length ≤ cap) ∧ l.length ≤ maxLen ∧ ∀ e ∈ l, PcFits e := by
  rcases Deep.open_slice Tryz.underlying52 h with ⟨rfl, rfl⟩ | ⟨a, len, cap, m, n, D, Pl, rfl, _, hl, hm, hmm, rfl, hx⟩
  · exact ⟨_, [], rfl, ⟨none, 0, rfl, fun _ => ⟨rfl, rfl, rfl⟩, fun k y hy => by simp [pcsCells] at hy⟩, ⟨none, 0, rfl, Nat.le_refl _⟩, by simp, by simp⟩
  · have hle : len ≤ m := by rw [hmm]; split <;> omega
    rw [cellsPiece] at hx
    obtain ⟨g, hg⟩ := Deep.choose_lt (α := Pc) (n := len) (p := fun i y => w.cell? (a.add (i * 3)) = some (.string ⟨y.1.toArray⟩) ∧ w.cell? (a.add (i * 3 + 1)) = some (.int .i64 y.2.1) ∧ w.cell? (a.add (i * 3 + 2)) = some (.int .i64 y.2.2) ∧ PcFits y) (fun i hi => by
      obtain ⟨cs', c1, c2⟩ := hx i (by omega)
      obtain ⟨y, rfl, hq⟩ := open_piece c2
      obtain ⟨_, _, hc⟩ := World.cells?_some c1
      have d0 := hc 0 (by omega)
      have d1 := hc 1 (by omega)
      have d2 := hc 2 (by omega)
      rw [Deep.add_add] at d0 d1 d2
      exact ⟨y, by simpa [pcCells] using d0, by simpa [pcCells] using d1, by simpa [pcCells] using d2, hq⟩)
    have hlen : ((List.range len).map g).length = len := by simp
    refine ⟨_, (List.range len).map g, rfl, ⟨some a, cap, by rw [hlen], (fun e => nomatch e), fun k y hy => ?_⟩, ⟨some a, cap, by rw [hlen], by rw [hlen]; exact hl⟩, by rw [hlen]; omega, ?_⟩
    · have hk := (List.getElem?_eq_some_iff.1 hy).1
      rw [pcsCells_len, hlen] at hk
      obtain ⟨q, r, hr, rfl⟩ : ∃ q r, r < 3 ∧ k = q * 3 + r := ⟨k / 3, k % 3, Nat.mod_lt _ (by decide), by omega⟩
      have hq : q < len := by omega
      have hgq : ((List.range len).map g)[q]? = some (g q) := by simp [hq]
      obtain ⟨e0, e1, e2⟩ := pcsCells_at hgq
      obtain ⟨d0, d1, d2, _⟩ := hg q hq
      have z0 := (hg 0 (by omega)).1
      obtain ⟨b, off, rfl⟩ := plain_addr d0 ⟨_, by simpa using z0⟩
      rw [addr_add] at d0 d1 d2
      refine ⟨b, off, rfl, trivial, ?_⟩
      match r, hr with
      | 0, _ => rw [Nat.add_zero] at hy ⊢; rw [e0] at hy; cases hy; exact d0
      | 1, _ => rw [e1] at hy; cases hy; exact d1
      | 2, _ => rw [e2] at hy; cases hy; exact d2
    · intro y hy
      obtain ⟨i, hi, rfl⟩ := List.mem_map.1 hy
      exact (hg i (List.mem_range.1 hi)).2.2.2

set_option maxRecDepth 100000 in
/-- a slice of pieces that came in -/
theorem open_pieces {W : World} {v : Value} {d : DataW H} {p : List MemPlace} (hv : Value.okWide Tryz.prog W .any base 52 v) (h : DataW.Trod enc Tryz.prog W 0 (fun _ => true) true 52 v d p) :
    ∃ l : List Pc, PcsIn W (· < W.heap.size) v l ∧ l.length ≤ maxLen ∧ (∀ a cap, v = .slice a l.length cap → l.length ≤ cap) ∧ ∀ e ∈ l, PcFits e := by
  obtain ⟨a0, len, cap, rfl⟩ := okWide_slice Tryz.underlying52 hv
  obtain ⟨fuel, hf⟩ := h
  obtain ⟨v, l, e1, o, ⟨a, c, e2, hc⟩, hn, hm⟩ := open_pcs hf
  simp [Value.cells] at e1
  subst e1
  exact ⟨l, RowIn.mono o (fun _ _ hl => hl), hn, fun a' c' e3 => by rw [e2] at e3; cases e3; exact hc, hm⟩

/-- a slice of texts -/
theorem open_strs (h : DataW.trod enc Tryz.prog w base spare held fuel 43 cs = some x) :
    ∃ (v : Value) (l : List (List UInt8)), cs = [v] ∧ KeysIn w (fun _ => True) v l ∧ l.length ≤ maxLen ∧ ∀ s ∈ l, s.length ≤ maxLen := by
  obtain ⟨v, l, e1, ⟨a, cap, e2, e3, e4, e5⟩, e6, e8, e7⟩ := open_row (fun s : List UInt8 => Value.string ⟨s.toArray⟩) (fun s => s.length ≤ maxLen) Tryz.underlying43 cellsString (fun h => by
    obtain ⟨s, hs, _, hsz⟩ := DataW.trod_string Tryz.underlying9 h
    exact ⟨s.data.toList, by rw [hs], hsz⟩) h
  refine ⟨v, l, e1, ⟨a, cap, e2, fun h => ⟨(e4 h).1, by rw [(e4 h).2]; rfl, by rw [(e4 h).2]; rfl⟩, fun k y hy => ?_⟩, e6, e8⟩
  simp only [strCells, List.getElem?_map, Option.map_eq_some_iff] at hy
  obtain ⟨z, hz, rfl⟩ := hy
  obtain ⟨b, off, r1, r2⟩ := e5 k z hz
  exact ⟨b, off, r1, trivial, r2⟩

set_option maxRecDepth 100000 in
/-- keys that came in -/
theorem open_keys {W : World} {v : Value} {d : DataW H} {p : List MemPlace} (hv : Value.okWide Tryz.prog W .any base 43 v) (h : DataW.Trod enc Tryz.prog W 0 (fun _ => true) true 43 v d p) :
    ∃ l : List (List UInt8), KeysIn W (· < W.heap.size) v l ∧ l.length ≤ maxLen ∧ ∀ s ∈ l, s.length ≤ maxLen := by
  obtain ⟨a0, len, cap, rfl⟩ := okWide_slice Tryz.underlying43 hv
  obtain ⟨fuel, hf⟩ := h
  obtain ⟨v, l, e1, o, n, s⟩ := open_strs hf
  simp [Value.cells] at e1
  subst e1
  exact ⟨l, RowIn.mono o (fun _ _ hl => hl), n, s⟩
end
end Go.Proofs.YtohlepbfjgehgaaGreatDoor
