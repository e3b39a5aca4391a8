/-
  What is proved here: the statements' own Op in memory, and their Great (cohortlaw02), over this program.
-/
import Derived.Test.YtaaaibnalhmmgaaDoorWR
import Derived.Test.YtaaaibnalhmmgaaDoorWP
import Derived.BigQuiet
import Derived.Deep.QuietTactic
import Derived.Laws.BitsLemmas
namespace Go.Proofs.YtaaaibnalhmmgaaDoor
open Go.ChangeShapes Go.WideShapes Go.ChangeAt Go.RowKit Go.Extern.Stop Go.Stop Go.Extern

/-- an Op: What, N, S, L, M -/
abbrev OpD := Int × Int × List UInt8 × List (List UInt8) × List Int
def OpD.s (x : OpD) : List UInt8 := x.2.2.1
def OpD.l (x : OpD) : List (List UInt8) := x.2.2.2.1
def OpD.m (x : OpD) : List Int := x.2.2.2.2
/-- a slice of Ops -/
def OpsIn (w : World) (A : Nat → Prop) (v : Value) (l : List OpD) : Prop :=
  ∃ a cap, v = .slice a l.length cap ∧ ∀ k x, l[k]? = some x → ∃ b off vs vl vm, a = some ⟨b, off, none⟩ ∧ A b ∧ w.cell? ⟨b, off + k * 5, none⟩ = some (.int .i64 x.1) ∧ w.cell? ⟨b, off + k * 5 + 1, none⟩ = some (.int .i64 x.2.1) ∧ w.cell? ⟨b, off + k * 5 + 2, none⟩ = some vs ∧ w.cell? ⟨b, off + k * 5 + 3, none⟩ = some vl ∧ w.cell? ⟨b, off + k * 5 + 4, none⟩ = some vm ∧ BytesIn w A vs (OpD.s x) ∧ TextsIn w A vl (OpD.l x) ∧ NumsIn w A vm (OpD.m x)
theorem OpsIn.kept {w w' : World} {A : Nat → Prop} {v : Value} {l : List OpD} (h : OpsIn w A v l) (hk : Kept A w w') : OpsIn w' A v l := by
  obtain ⟨a, cap, h1, h2⟩ := h
  refine ⟨a, cap, h1, fun k x hx => ?_⟩
  obtain ⟨b, off, vs, vl, vm, e1, e2, c0, c1, c2, c3, c4, e3, e4, e5⟩ := h2 k x hx
  exact ⟨b, off, vs, vl, vm, e1, e2, hk.cell (a := ⟨b, _, none⟩) e2 c0, hk.cell (a := ⟨b, _, none⟩) e2 c1, hk.cell (a := ⟨b, _, none⟩) e2 c2, hk.cell (a := ⟨b, _, none⟩) e2 c3, hk.cell (a := ⟨b, _, none⟩) e2 c4, RowIn.kept e3 hk, e4.kept hk, RowIn.kept e5 hk⟩
theorem OpsIn.mono {w : World} {A A' : Nat → Prop} {v : Value} {l : List OpD} (h : OpsIn w A v l) (hA : ∀ k, A k → k < w.heap.size → A' k) : OpsIn w A' v l := by
  obtain ⟨a, cap, h1, h2⟩ := h
  refine ⟨a, cap, h1, fun k x hx => ?_⟩
  obtain ⟨b, off, vs, vl, vm, e1, e2, c0, c1, c2, c3, c4, e3, e4, e5⟩ := h2 k x hx
  exact ⟨b, off, vs, vl, vm, e1, hA b e2 (lt_of_cell (a := ⟨b, _, none⟩) c0), c0, c1, c2, c3, c4, RowIn.mono e3 hA, e4.mono hA, RowIn.mono e5 hA⟩
/-- what can be read -/
def OpOk (x : OpD) : Prop := fits x.1 ∧ fits x.2.1 ∧ (OpD.s x).length ≤ maxLen ∧ ((OpD.l x).length ≤ maxLen ∧ ∀ y ∈ OpD.l x, y.length ≤ maxLen) ∧ ((OpD.m x).length ≤ maxLen ∧ ∀ y ∈ OpD.m x, fits y)

section
variable {H : Type} {enc : TypeId × Value → H} {w : World} {base : Nat} {spare : Nat → Bool} {held : Bool} {fuel : Nat} {cs : List Value} {x : DataW H × List MemPlace}
theorem trod_struct5 {P : Program} {t : TypeId} {f0 f1 f2 f3 f4 : Field} (ht : P.underlying t = some (.struct #[f0, f1, f2, f3, f4])) (h : DataW.trod enc P w base spare held fuel t cs = some x) :
    ∃ y0 y1 y2 y3 y4 n, cs.length = P.cellsOf t ∧ DataW.trod enc P w base spare held n f0.type ((cs.drop f0.offset).take (P.cellsOf f0.type)) = some y0 ∧
      DataW.trod enc P w base spare held n f1.type ((cs.drop f1.offset).take (P.cellsOf f1.type)) = some y1 ∧ DataW.trod enc P w base spare held n f2.type ((cs.drop f2.offset).take (P.cellsOf f2.type)) = some y2 ∧
      DataW.trod enc P w base spare held n f3.type ((cs.drop f3.offset).take (P.cellsOf f3.type)) = some y3 ∧ DataW.trod enc P w base spare held n f4.type ((cs.drop f4.offset).take (P.cellsOf f4.type)) = some y4 := by
  obtain ⟨xs, n, _, rfl, hl, hlen, hf⟩ := DataW.trod_struct ht h
  match xs, hlen with
  | [y0, y1, y2, y3, y4], _ => exact ⟨y0, y1, y2, y3, y4, n, hl, by simpa using hf 0 f0 rfl, by simpa using hf 1 f1 rfl, by simpa using hf 2 f2 rfl, by simpa using hf 3 f3 rfl, by simpa using hf 4 f4 rfl⟩

set_option maxRecDepth 100000 in
theorem open_op (h : DataW.trod enc Tryd.prog w base spare held fuel 39 cs = some x) :
    ∃ (y : OpD) (vs vl vm : Value), cs = [.int .i64 y.1, .int .i64 y.2.1, vs, vl, vm] ∧ (BytesIn w (fun _ => True) vs (OpD.s y) ∧ TextsIn w (fun _ => True) vl (OpD.l y) ∧ NumsIn w (fun _ => True) vm (OpD.m y)) ∧ OpOk y := by
  obtain ⟨y0, y1, y2, y3, y4, n, hl, g0, g1, g2, g3, g4⟩ := trod_struct5 Tryd.underlying39 h
  rw [cellsOp] at hl
  match cs, hl with
  | [c0, c1, c2, c3, c4], _ =>
      have h0 : DataW.trod enc Tryd.prog w base spare held n 3 [c0] = some y0 := by have := g0; rw [cellsInt] at this; simpa using this
      have h1 : DataW.trod enc Tryd.prog w base spare held n 2 [c1] = some y1 := by have := g1; rw [cellsI64] at this; simpa using this
      have h2 : DataW.trod enc Tryd.prog w base spare held n 32 [c2] = some y2 := by have := g2; rw [cellsBytes] at this; simpa using this
      have h3 : DataW.trod enc Tryd.prog w base spare held n 36 [c3] = some y3 := by have := g3; rw [cellsTexts] at this; simpa using this
      have h4 : DataW.trod enc Tryd.prog w base spare held n 37 [c4] = some y4 := by have := g4; rw [cellsNums] at this; simpa using this
      obtain ⟨k0, hk0, _, w0⟩ := DataW.trod_int Tryd.underlying3 h0
      obtain ⟨k1, hk1, _, w1⟩ := DataW.trod_int Tryd.underlying2 h1
      obtain ⟨v2, l2, hk2, b2, _, n2, _⟩ := open_bytes h2
      obtain ⟨v3, l3, hk3, b3, n3, m3⟩ := open_texts h3
      obtain ⟨v4, l4, hk4, b4, n4, m4⟩ := open_nums h4
      simp at hk0 hk1 hk2 hk3 hk4
      subst hk0 hk1 hk2 hk3 hk4
      exact ⟨(k0, k1, l2, l3, l4), _, _, _, rfl, ⟨b2, b3, b4⟩, fits_of_wf w0, fits_of_wf w1, n2, ⟨n3, m3⟩, ⟨n4, m4⟩⟩

set_option maxRecDepth 100000 in
/-- a slice of Ops that came in -/
theorem open_ops {W : World} {v : Value} {d : DataW H} {p : List MemPlace} (hv : Value.okWide Tryd.prog W .any base 22 v) (h : DataW.Trod enc Tryd.prog W 0 (fun _ => true) true 22 v d p) :
    ∃ l : List OpD, OpsIn W (· < W.heap.size) v l ∧ l.length ≤ maxLen ∧ ∀ y ∈ l, OpOk y := by
  obtain ⟨a0, len, cap, rfl⟩ := okWide_slice Tryd.underlying22 hv
  obtain ⟨fuel, hf⟩ := h
  rcases Deep.open_slice Tryd.underlying22 hf with ⟨hcs, _⟩ | ⟨a, len', cap', m, n, D, Pl, hcs, _, hl, hm, hmm, _, hx⟩
  · simp [Value.cells] at hcs
    obtain ⟨rfl, rfl, rfl⟩ := hcs
    exact ⟨[], ⟨none, 0, rfl, fun k x hx => by simp at hx⟩, by simp, by simp⟩
  · simp [Value.cells] at hcs
    obtain ⟨rfl, rfl, rfl⟩ := hcs
    rw [cellsOp] at hx
    simp only [if_true] at hmm
    obtain ⟨f, hfn⟩ := Deep.choose_lt (α := OpD) (n := len) (p := fun i x => ∃ vs vl vm, W.cell? (a.add (i * 5)) = some (.int .i64 x.1) ∧ W.cell? (a.add (i * 5 + 1)) = some (.int .i64 x.2.1) ∧ W.cell? (a.add (i * 5 + 2)) = some vs ∧ W.cell? (a.add (i * 5 + 3)) = some vl ∧ W.cell? (a.add (i * 5 + 4)) = some vm ∧ (BytesIn W (fun _ => True) vs (OpD.s x) ∧ TextsIn W (fun _ => True) vl (OpD.l x) ∧ NumsIn W (fun _ => True) vm (OpD.m x)) ∧ OpOk x) (fun i hi => by
      obtain ⟨cs', h1, h2⟩ := hx i (by omega)
      obtain ⟨y, vs, vl, vm, rfl, hy, hok⟩ := open_op h2
      obtain ⟨_, _, hc⟩ := World.cells?_some h1
      have c0 := hc 0 (by omega)
      have c1 := hc 1 (by omega)
      have c2 := hc 2 (by omega)
      have c3 := hc 3 (by omega)
      have c4 := hc 4 (by omega)
      rw [Deep.add_add] at c0 c1 c2 c3 c4
      exact ⟨y, vs, vl, vm, by simpa using c0, by simpa using c1, by simpa using c2, by simpa using c3, by simpa using c4, hy, hok⟩)
    refine ⟨(List.range len).map f, OpsIn.mono (A := fun _ => True) ?_ (fun _ _ h => h), by simp; omega, ?_⟩
    · refine ⟨some a, cap, by simp, fun k x hkx => ?_⟩
      have hlt : k < len := by
        have := (List.getElem?_eq_some_iff.1 hkx).1; simpa using this
      have hfx : f k = x := by simpa [hlt] using hkx
      obtain ⟨vs, vl, vm, c0, c1, c2, c3, c4, hy, _⟩ := hfn k hlt
      rw [hfx] at c0 c1 hy
      obtain ⟨_, _, _, z0, _⟩ := hfn 0 (by omega)
      obtain ⟨b, off, rfl⟩ := plain_addr c0 ⟨_, by simpa using z0⟩
      rw [addr_add] at c0 c1 c2 c3 c4
      exact ⟨b, off, vs, vl, vm, rfl, trivial, c0, by rw [Nat.add_assoc]; exact c1, by rw [Nat.add_assoc]; exact c2, by rw [Nat.add_assoc]; exact c3, by rw [Nat.add_assoc]; exact c4, hy⟩
    · intro x hxm
      obtain ⟨i, hi, rfl⟩ := List.mem_map.1 hxm
      obtain ⟨_, _, _, _, _, _, _, _, _, hok⟩ := hfn i (List.mem_range.1 hi)
      exact hok
end

theorem and3 (n : Int) : Go.bits BinOp.and IntKind.i64 n 3 = n % 4 := by
  have h3 : (BitVec.ofInt 64 3).toNat = 2 ^ 2 - 1 := by decide
  have key : (BitVec.ofInt 64 n &&& BitVec.ofInt 64 3).toNat = (n % ((2 ^ 64 : Nat) : Int)).toNat % 2 ^ 2 := by
    rw [BitVec.toNat_and, BitVec.toNat_ofInt, h3, Nat.and_two_pow_sub_one_eq_mod]
  show IntKind.i64.wrap ((BitVec.ofInt 64 n &&& BitVec.ofInt 64 3).toNat : Nat) = n % 4
  rw [key, IntKind.wrap_i64]
  omega
end Go.Proofs.YtaaaibnalhmmgaaDoor
