/-
  What is proved here: how slices of bytes, numbers and texts that came in lie in memory, from what a row reads of them.
-/
import Derived.Test.YtohlepbfjgehgaaGreatDoorRow
import Derived.Test.YtohlepbfjgehgaaGreatDoorMem
import Derived.SizedLaws
namespace Go.Proofs.YtohlepbfjgehgaaGreatDoor
open Go.ChangeShapes Go.WideShapes Go.ChangeAt Go.RowKit

theorem cellsByte : Tryz.prog.cellsOf 5 = 1 := by kernel_rfl
theorem cellsBytes : Tryz.prog.cellsOf 26 = 1 := by kernel_rfl
theorem bytesByte : Tryz.prog.bytesOf 5 = 1 := by kernel_rfl

theorem byte_of_wf {n : Int} (h : (Lit.int .u8 n).wf = true) : ∃ x : UInt8, n = (x.toNat : Int) := by
  simp [Lit.wf, IntKind.min, IntKind.max, IntKind.signed, IntKind.bits] at h
  refine ⟨UInt8.ofNat n.toNat, ?_⟩
  simp only [UInt8.toNat_ofNat']
  omega

section
variable {H : Type} {enc : TypeId × Value → H} {w : World} {base : Nat} {spare : Nat → Bool} {held : Bool} {fuel : Nat} {cs : List Value} {x : DataW H × List MemPlace}

/-- an address behind which a cell lies has no spot -/
theorem plain_addr {a : Addr} {k : Nat} {u : Value} (h : w.cell? (a.add k) = some u) (h0 : ∃ u0, w.cell? (a.add 0) = some u0) : ∃ b off, a = ⟨b, off, none⟩ := by
  obtain ⟨u0, h0⟩ := h0
  obtain ⟨b, off, spot⟩ := a
  have := World.cell?_spot h0
  have hs : spot = none := by simpa [Addr.add] using this
  subst hs
  exact ⟨b, off, rfl⟩

set_option maxRecDepth 100000 in
/-- a slice of one-cell things, each of which is read as p says -/
theorem open_row {α : Type} [Inhabited α] {t e : TypeId} (f : α → Value) (q : α → Prop) (ht : Tryz.prog.underlying t = some (.slice e)) (he : Tryz.prog.cellsOf e = 1)
    (h1 : ∀ {fuel : Nat} {cs : List Value} {x : DataW H × List MemPlace}, DataW.trod enc Tryz.prog w base spare held fuel e cs = some x → ∃ y, cs = [f y] ∧ q y)
    (h : DataW.trod enc Tryz.prog w base spare held fuel t cs = some x) :
    ∃ (v : Value) (l : List α), cs = [v] ∧ (∃ a cap, v = .slice a l.length cap ∧ l.length ≤ cap ∧ (a = none → cap = 0 ∧ l = []) ∧ ∀ k y, l[k]? = some y → ∃ b off, a = some ⟨b, off, none⟩ ∧ w.cell? ⟨b, off + k, none⟩ = some (f y)) ∧ l.length ≤ maxLen ∧ (∀ y ∈ l, q y) ∧ (x.1 = .nil ∧ l = [] ∨ ∃ elems rest, x.1 = .slice elems rest ∧ elems.length = l.length) := by
  rcases Deep.open_slice ht h with ⟨rfl, rfl⟩ | ⟨a, len, cap, m, n, D, Pl, rfl, _, hl, hm, hmm, rfl, hx⟩
  · exact ⟨_, [], rfl, ⟨none, 0, rfl, Nat.le_refl _, fun _ => ⟨rfl, rfl⟩, fun k y hy => by simp at hy⟩, by simp, by simp, Or.inl ⟨rfl, rfl⟩⟩
  · have hle : len ≤ m := by rw [hmm]; split <;> omega
    rw [he] at hx
    obtain ⟨g, hg⟩ := Deep.choose_lt (α := α) (n := len) (p := fun i y => w.cell? (a.add i) = some (f y) ∧ q y) (fun i hi => by
      obtain ⟨cs', c1, c2⟩ := hx i (by omega)
      obtain ⟨y, rfl, hq⟩ := h1 c2
      obtain ⟨_, _, hc⟩ := World.cells?_some c1
      have c0 := hc 0 (by omega)
      rw [Deep.add_add] at c0
      exact ⟨y, by simpa using c0, hq⟩)
    refine ⟨_, (List.range len).map g, rfl, ⟨some a, cap, by simp, by simpa using hl, (fun e => nomatch e), fun k y hy => ?_⟩, by simp; omega, ?_, Or.inr ⟨_, _, rfl, by simp⟩⟩
    · have hlt : k < len := by
        have := (List.getElem?_eq_some_iff.1 hy).1; simpa using this
      have hfy : g k = y := by simpa [hlt] using hy
      obtain ⟨c0, _⟩ := hg k hlt
      obtain ⟨b, off, rfl⟩ := plain_addr c0 ⟨_, (hg 0 (by omega)).1⟩
      rw [addr_add] at c0
      exact ⟨b, off, rfl, by rw [← hfy]; exact c0⟩
    · intro y hy
      obtain ⟨i, hi, rfl⟩ := List.mem_map.1 hy
      exact (hg i (List.mem_range.1 hi)).2

/-- a slice of bytes -/
theorem open_bytes (h : DataW.trod enc Tryz.prog w base spare held fuel 26 cs = some x) :
    ∃ (v : Value) (l : List UInt8), cs = [v] ∧ BytesIn w (fun _ => True) v l ∧ (∃ a cap, v = .slice a l.length cap ∧ l.length ≤ cap) ∧ l.length ≤ maxLen ∧ (x.1 = .nil ∧ l = [] ∨ ∃ elems rest, x.1 = .slice elems rest ∧ elems.length = l.length) := by
  obtain ⟨v, l, e1, ⟨a, cap, e2, e3, e4, e5⟩, e6, _, e7⟩ := open_row (fun y : UInt8 => .int .u8 y.toNat) (fun _ => True) Tryz.underlying26 cellsByte (fun h => by
    obtain ⟨n, hn, _, hwf⟩ := DataW.trod_int Tryz.underlying5 h
    obtain ⟨y, rfl⟩ := byte_of_wf hwf
    exact ⟨y, hn, trivial⟩) h
  refine ⟨v, l, e1, ⟨a, cap, e2, fun h => ⟨(e4 h).1, by rw [(e4 h).2]; rfl, by rw [(e4 h).2]; rfl⟩, fun k y hy => ?_⟩, ⟨a, cap, e2, e3⟩, e6, e7⟩
  simp only [Lib.byteCells, List.getElem?_map, Option.map_eq_some_iff] at hy
  obtain ⟨z, hz, rfl⟩ := hy
  obtain ⟨b, off, r1, r2⟩ := e5 k z hz
  exact ⟨b, off, r1, trivial, r2⟩

/-- a slice of ints -/
theorem open_ints (h : DataW.trod enc Tryz.prog w base spare held fuel 59 cs = some x) :
    ∃ (v : Value) (l : List Int), cs = [v] ∧ NumsIn w (fun _ => True) v l ∧ l.length ≤ maxLen ∧ ∀ y ∈ l, fits y := by
  obtain ⟨v, l, e1, ⟨a, cap, e2, e3, e4, e5⟩, e6, e8, e7⟩ := open_row (fun y : Int => .int .i64 y) fits Tryz.underlying59 cellsInt (fun h => by
    obtain ⟨n, hn, _, hwf⟩ := DataW.trod_int Tryz.underlying3 h
    exact ⟨n, hn, fits_of_wf hwf⟩) h
  refine ⟨v, l, e1, ⟨a, cap, e2, fun h => ⟨(e4 h).1, by rw [(e4 h).2]; rfl, by rw [(e4 h).2]; rfl⟩, fun k y hy => ?_⟩, e6, e8⟩
  simp only [numCells, List.getElem?_map, Option.map_eq_some_iff] at hy
  obtain ⟨z, hz, rfl⟩ := hy
  obtain ⟨b, off, r1, r2⟩ := e5 k z hz
  exact ⟨b, off, r1, trivial, r2⟩
end
end Go.Proofs.YtohlepbfjgehgaaGreatDoor
