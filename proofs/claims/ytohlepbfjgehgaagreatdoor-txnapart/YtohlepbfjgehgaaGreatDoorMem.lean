/-
  What is proved here: rows of bytes, numbers and texts in memory; an error of one step; what is kept of a world; conversions between bytes and strings, over this program.
-/
import Derived.Test.YtohlepbfjgehgaaGreatDoorJ1
import Derived.Laws.AppendOwnNone
import Derived.Lib.UnsafeStr
import Derived.Laws.IdiomStrings
import Derived.Laws.BytesArg
import Derived.Lib.SmallJoins
import Derived.Lib.ConvBytes
namespace Go.Proofs.YtohlepbfjgehgaaGreatDoor
open Go.RowKit Go.Extern.Stop Go.Stop Go.Extern

theorem cell_one_new (w : World) (u : Value) (t : TypeId) : ∀ (j : Nat) (x : Value), [u][j]? = some x → (w.alloc (.cells #[u] t)).cell? ((⟨w.heap.size, 0, none⟩ : Addr).add j) = some x := by
  intro j x hj
  match j, hj with
  | 0, hj => simp at hj; subst hj; simp [Addr.add]
  | (j + 1), hj => simp at hj

theorem infoByte : (Tryz.prog.info? 5).map (fun i => (i.zero, i.size, i.bytes)) = some (some (.int .u8 0), 1, 1) := by kernel_rfl

/-- all blocks of A that were there are as they were -/
def Kept (A : Nat → Prop) (w w' : World) : Prop := ∀ k, A k → k < w.heap.size → w'.heap[k]? = w.heap[k]?
theorem Kept.refl (A : Nat → Prop) (w : World) : Kept A w w := fun _ _ _ => rfl
theorem Kept.of_below {A : Nat → Prop} {B : Nat} {w w' : World} (h : Below B w w') (hA : ∀ k, A k → k < w.heap.size → k < B) : Kept A w w' := fun k hk hl => h.block k (hA k hk hl)
theorem Kept.of_all {A : Nat → Prop} {w w' : World} (h : Below w.heap.size w w') : Kept A w w' := fun k _ hl => h.block k hl
theorem Kept.of_grown {A : Nat → Prop} {p : Nat} {w w' : World} (h : w.grownBy w' (some p)) (hA : ¬ A p) : Kept A w w' := fun k hk hl => h.block k hl (fun e => by cases e; exact hA hk)
theorem Kept.cell {A : Nat → Prop} {w w' : World} (h : Kept A w w') {a : Addr} {v : Value} (hA : A a.block) (hc : w.cell? a = some v) : w'.cell? a = some v :=
  (World.cell?_of_block (h a.block hA (lt_of_cell hc))).trans hc

/-- v is a slice of n things whose cells are cs, in blocks of A -/
def RowIn (w : World) (A : Nat → Prop) (v : Value) (n : Nat) (cs : List Value) : Prop :=
  ∃ a cap, v = .slice a n cap ∧ (a = none → cap = 0 ∧ n = 0 ∧ cs = []) ∧ ∀ k x, cs[k]? = some x → ∃ b off, a = some ⟨b, off, none⟩ ∧ A b ∧ w.cell? ⟨b, off + k, none⟩ = some x
theorem RowIn.kept {w w' : World} {A : Nat → Prop} {v : Value} {n : Nat} {cs : List Value} (h : RowIn w A v n cs) (hk : Kept A w w') : RowIn w' A v n cs := by
  obtain ⟨a, cap, h1, h2, h3⟩ := h
  refine ⟨a, cap, h1, h2, fun k x hx => ?_⟩
  obtain ⟨b, off, e1, e2, e3⟩ := h3 k x hx
  exact ⟨b, off, e1, e2, hk.cell (a := ⟨b, off + k, none⟩) e2 e3⟩
theorem RowIn.mono {w : World} {A A' : Nat → Prop} {v : Value} {n : Nat} {cs : List Value} (h : RowIn w A v n cs) (hA : ∀ k, A k → k < w.heap.size → A' k) : RowIn w A' v n cs := by
  obtain ⟨a, cap, h1, h2, h3⟩ := h
  refine ⟨a, cap, h1, h2, fun k x hx => ?_⟩
  obtain ⟨b, off, e1, e2, e3⟩ := h3 k x hx
  exact ⟨b, off, e1, hA b e2 (lt_of_cell e3), e3⟩
theorem addr_add (b off k : Nat) : (⟨b, off, none⟩ : Addr).add k = ⟨b, off + k, none⟩ := by
  unfold Addr.add; split <;> simp_all
theorem RowIn.of_own {w : World} {A : Nat → Prop} {B e size : Nat} {v : Value} {n : Nat} {cs : List Value} (h : w.ownsRow B e size v n cs) (hA : ∀ k, B ≤ k → A k) : RowIn w A v n cs := by
  have hc := h
  obtain ⟨h1, h2⟩ := h
  rcases h2 with ⟨rfl, h3⟩ | ⟨g, cap, cur, rfl, hg, hh, r⟩
  · subst h3
    have : cs = [] := List.eq_nil_of_length_eq_zero (by simpa using h1)
    exact ⟨none, 0, rfl, fun _ => ⟨rfl, rfl, this⟩, fun k x hx => by rw [this] at hx; simp at hx⟩
  · refine ⟨some ⟨g, 0, none⟩, cap, rfl, (fun e => nomatch e), fun k x hx => ⟨g, 0, rfl, hA g hg, ?_⟩⟩
    have := hc.cells (g := g) rfl k x hx
    rw [addr_add] at this; exact this
/-- where it is not nil, its cells behind its address -/
theorem RowIn.cells {w : World} {A : Nat → Prop} {a : Addr} {n cap : Nat} {cs : List Value} (h : RowIn w A (.slice (some a) n cap) n cs) : ∀ j u, cs[j]? = some u → w.cell? (a.add j) = some u := by
  obtain ⟨a', cap', h1, h2, h3⟩ := h
  simp only [Value.slice.injEq] at h1
  obtain ⟨rfl, _, rfl⟩ := h1
  intro j u hj
  obtain ⟨b, off, e1, e2, e3⟩ := h3 j u hj
  cases e1
  rw [addr_add]; exact e3

def BytesIn (w : World) (A : Nat → Prop) (v : Value) (l : List UInt8) : Prop := RowIn w A v l.length (Lib.byteCells l)
def numCells (l : List Int) : List Value := l.map (Value.int .i64)
def NumsIn (w : World) (A : Nat → Prop) (v : Value) (l : List Int) : Prop := RowIn w A v l.length (numCells l)
/-- a slice of slices of bytes -/
def TextsIn (w : World) (A : Nat → Prop) (v : Value) (l : List (List UInt8)) : Prop := ∃ vs : List Value, vs.length = l.length ∧ RowIn w A v l.length vs ∧ ∀ (k : Nat) (s : List UInt8) (u : Value), l[k]? = some s → vs[k]? = some u → BytesIn w A u s
theorem TextsIn.kept {w w' : World} {A : Nat → Prop} {v : Value} {l : List (List UInt8)} (h : TextsIn w A v l) (hk : Kept A w w') : TextsIn w' A v l := by
  obtain ⟨vs, h1, h2, h3⟩ := h
  exact ⟨vs, h1, h2.kept hk, fun k s u a b => (h3 k s u a b).kept hk⟩
theorem TextsIn.mono {w : World} {A A' : Nat → Prop} {v : Value} {l : List (List UInt8)} (h : TextsIn w A v l) (hA : ∀ k, A k → k < w.heap.size → A' k) : TextsIn w A' v l := by
  obtain ⟨vs, h1, h2, h3⟩ := h
  exact ⟨vs, h1, h2.mono hA, fun k s u a b => (h3 k s u a b).mono hA⟩
theorem TextsIn.form {w : World} {A : Nat → Prop} {v : Value} {l : List (List UInt8)} (h : TextsIn w A v l) : ∃ a cap, v = .slice a l.length cap := by
  obtain ⟨vs, _, ⟨a, cap, h1, _⟩, _⟩ := h
  exact ⟨a, cap, h1⟩
theorem TextsIn.at {w : World} {A : Nat → Prop} {a : Option Addr} {n cap : Nat} {l : List (List UInt8)} (h : TextsIn w A (.slice a n cap) l) {k : Nat} {s : List UInt8} (hs : l[k]? = some s) : ∃ b off u, a = some ⟨b, off, none⟩ ∧ A b ∧ w.cell? ⟨b, off + k, none⟩ = some u ∧ BytesIn w A u s := by
  obtain ⟨vs, h1, ⟨a', cap', e1, _, h2⟩, h3⟩ := h
  simp only [Value.slice.injEq] at e1
  obtain ⟨rfl, _, rfl⟩ := e1
  have hk : k < vs.length := by rw [h1]; exact (List.getElem?_eq_some_iff.1 hs).1
  obtain ⟨b, off, e1, e2, e3⟩ := h2 k vs[k] (by simp [hk])
  exact ⟨b, off, vs[k], e1, e2, e3, h3 k s vs[k] hs (by simp [hk])⟩
theorem BytesIn.form {w : World} {A : Nat → Prop} {v : Value} {l : List UInt8} (h : BytesIn w A v l) : ∃ a cap, v = .slice a l.length cap ∧ (a = none → cap = 0 ∧ l = []) := by
  obtain ⟨a, cap, h1, h2, _⟩ := h
  exact ⟨a, cap, h1, fun e => ⟨(h2 e).1, List.eq_nil_of_length_eq_zero (h2 e).2.1⟩⟩
theorem BytesIn.at {w : World} {A : Nat → Prop} {a : Option Addr} {n cap : Nat} {l : List UInt8} (h : BytesIn w A (.slice a n cap) l) {k : Nat} {x : UInt8} (hs : l[k]? = some x) : ∃ b off, a = some ⟨b, off, none⟩ ∧ A b ∧ w.cell? ⟨b, off + k, none⟩ = some (.int .u8 x.toNat) := by
  obtain ⟨a', cap', e1, _, h2⟩ := h
  simp only [Value.slice.injEq] at e1
  obtain ⟨rfl, _, rfl⟩ := e1
  exact h2 k _ (by simp [Lib.byteCells, hs])
theorem NumsIn.form {w : World} {A : Nat → Prop} {v : Value} {l : List Int} (h : NumsIn w A v l) : ∃ a cap, v = .slice a l.length cap := by
  obtain ⟨a, cap, h1, _⟩ := h
  exact ⟨a, cap, h1⟩
theorem NumsIn.at {w : World} {A : Nat → Prop} {a : Option Addr} {n cap : Nat} {l : List Int} (h : NumsIn w A (.slice a n cap) l) {k : Nat} {x : Int} (hs : l[k]? = some x) : ∃ b off, a = some ⟨b, off, none⟩ ∧ A b ∧ w.cell? ⟨b, off + k, none⟩ = some (.int .i64 x) := by
  obtain ⟨a', cap', e1, _, h2⟩ := h
  simp only [Value.slice.injEq] at e1
  obtain ⟨rfl, _, rfl⟩ := e1
  exact h2 k _ (by simp [numCells, hs])

theorem byteCells_one (l : List UInt8) : ∀ u ∈ Lib.byteCells l, u.oneCell' = true := by
  intro u hu; simp [Lib.byteCells] at hu; obtain ⟨x, _, rfl⟩ := hu; rfl

/-- an error of the number n, wrapped once, in a block of A -/
def One (w : World) (A : Nat → Prop) (v : Value) (n : Int) (s : ByteArray) (k : Int) : Prop :=
  ∃ b, v = .iface 167 (.pointer (some ⟨b, 0, none⟩)) ∧ A b ∧ w.cell? ⟨b, 0, none⟩ = some (.string s) ∧ w.cell? ⟨b, 1, none⟩ = some (.int .i64 k) ∧ w.cell? ⟨b, 2, none⟩ = some (.iface 70 (.int .i64 n))
theorem One.kept {w w' : World} {A : Nat → Prop} {v : Value} {n : Int} {s : ByteArray} {k : Int} (h : One w A v n s k) (hk : Kept A w w') : One w' A v n s k := by
  obtain ⟨b, h1, h2, h3, h4, h5⟩ := h
  exact ⟨b, h1, h2, hk.cell (a := ⟨b, 0, none⟩) h2 h3, hk.cell (a := ⟨b, 1, none⟩) h2 h4, hk.cell (a := ⟨b, 2, none⟩) h2 h5⟩
theorem One.mono {w : World} {A A' : Nat → Prop} {v : Value} {n : Int} {s : ByteArray} {k : Int} (h : One w A v n s k) (hA : ∀ k, A k → k < w.heap.size → A' k) : One w A' v n s k := by
  obtain ⟨b, h1, h2, h3, h4⟩ := h
  exact ⟨b, h1, hA b h2 (lt_of_cell h3), h3, h4⟩
theorem One.chain {w : World} {A : Nat → Prop} {v : Value} {n : Int} {s : ByteArray} {k : Int} (h : One w A v n s k) : Chain w.heap.size w n v [(s, k)] := by
  obtain ⟨b, rfl, h2, h3, h4, h5⟩ := h
  exact .step (lt_of_cell (a := ⟨b, 0, none⟩) h3) h3 h4 h5 .base
theorem One.iface {w : World} {A : Nat → Prop} {v : Value} {n : Int} {s : ByteArray} {k : Int} (h : One w A v n s k) : ∃ t x, v = .iface t x := by
  obtain ⟨b, rfl, _⟩ := h; exact ⟨_, _, rfl⟩

theorem grown_refl (w : World) (r : Option Nat) : w.grownBy w r := ⟨rfl, rfl, rfl, Nat.le_refl _, fun _ _ _ => rfl⟩
theorem grown_below {w w' : World} (h : Below w.heap.size w w') (r : Option Nat) : w.grownBy w' r := ⟨h.os, h.tape, h.output, h.size, fun k hk _ => h.block k hk⟩
theorem grown_trans {w w1 w2 : World} {r : Option Nat} (h : w.grownBy w1 r) (k : w1.grownBy w2 r) : w.grownBy w2 r :=
  ⟨k.os.trans h.os, k.tape.trans h.tape, k.output.trans h.output, Nat.le_trans h.size k.size, fun j hj hr => (k.block j (Nat.lt_of_lt_of_le hj h.size) hr).trans (h.block j hj hr)⟩
theorem grown_set {w w1 : World} {p : Nat} (h : w.grownBy w1 (some p)) (j : Nat) (u : Value) : w.grownBy (w1.setCell ⟨p, j, none⟩ u) (some p) :=
  ⟨h.os, h.tape, h.output, by rw [size_set]; exact h.size, fun k hk hr => (Below.heap_setCell w1 _ u k (fun e => hr (by rw [e]))).trans (h.block k hk hr)⟩
theorem below_grown_at {w w' : World} {p B : Nat} (h : w.grownBy w' (some p)) (hB : B ≤ p) (hs : B ≤ w.heap.size) : Below B w w' :=
  ⟨h.os, h.tape, h.output, h.size, fun k hk => h.block k (by omega) (fun e => by cases e; omega)⟩

theorem own_form {w : World} {B e size n : Nat} {v : Value} {xs : List Value} (h : w.ownsRow B e size v n xs) : ∃ a cap, v = .slice a n cap := by
  obtain ⟨_, h2⟩ := h
  rcases h2 with ⟨rfl, rfl⟩ | ⟨g, cap, cur, rfl, _⟩
  · exact ⟨_, _, rfl⟩
  · exact ⟨_, _, rfl⟩

theorem own_cap {w : World} {B e size n : Nat} {v : Value} {xs : List Value} (h : w.ownsRow B e size v n xs) : ∃ a cap, v = .slice a n cap ∧ n ≤ cap := by
  obtain ⟨_, h2⟩ := h
  rcases h2 with ⟨rfl, rfl⟩ | ⟨g, cap, cur, rfl, _, _, hc, _⟩
  · exact ⟨_, _, rfl, Nat.le_refl _⟩
  · exact ⟨_, _, rfl, hc⟩
/-- the world w lies behind w0, whose library's variables lie as they are laid -/
def Env (w0 w : World) : Prop := Below w0.heap.size w0 w ∧ ET w0 ∧ PT w0
theorem Env.next {w0 w w' : World} (h : Env w0 w) (hb : Below w.heap.size w w') : Env w0 w' := ⟨h.1.trans (hb.mono h.1.size), h.2⟩
theorem Env.grown {w0 w w' : World} {p : Nat} (h : Env w0 w) (hg : w.grownBy w' (some p)) (hp : w0.heap.size ≤ p) : Env w0 w' := ⟨h.1.trans (below_grown_at hg hp h.1.size), h.2⟩
theorem Env.et {w0 w : World} (h : Env w0 w) : ET w := h.2.1.kept h.1 h.2.1.lt
theorem Env.pt {w0 w : World} (h : Env w0 w) : PT w := h.2.2.kept h.1 h.2.2.lt
theorem Env.at {w0 w : World} (h : Env w0 w) {A : Nat → Prop} {v : Value} {n : Int} {s : ByteArray} {k : Int} (ho : One w A v n s k) : At w n v [(s, k)] w := ⟨Below.refl _ _, h.et, h.pt, ho.chain⟩

theorem BytesIn.str {w : World} {A : Nat → Prop} {v : Value} {l : List UInt8} (h : BytesIn w A v l) : (convert 26 9 v).run Tryz.prog w = .ok (.string ⟨l.toArray⟩) w := by
  obtain ⟨a, cap, rfl, hnil⟩ := h.form
  cases a with
  | none => obtain ⟨rfl, rfl⟩ := hnil rfl; exact run_convert_bytes_nil (P := Tryz.prog) w 26 5 Tryz.underlying26 Tryz.underlying5 0 0 9 Tryz.underlying9
  | some ad =>
    refine run_convert_bytes_back (P := Tryz.prog) w 26 9 5 ad cap l Tryz.underlying26 Tryz.underlying5 Tryz.underlying9 (fun j hj => ?_)
    exact RowIn.cells h j _ (by simp [Lib.byteCells, hj])
/-- a slice of bytes, just made -/
theorem lit_bytes (w : World) (l : List UInt8) (A : Nat → Prop) (hA : A w.heap.size) (fr : Nat × Nat) : BytesIn (w.alloc (.cells (Lib.byteCells l).toArray 5 fr)) A (.slice (some ⟨w.heap.size, 0, none⟩) l.length l.length) l := by
  refine ⟨some ⟨w.heap.size, 0, none⟩, l.length, rfl, (fun e => nomatch e), fun k x hx => ⟨w.heap.size, 0, rfl, hA, ?_⟩⟩
  rw [World.cell?_alloc_mark, Nat.zero_add]
  simpa using hx

theorem BytesIn.nil (w : World) (A : Nat → Prop) : BytesIn w A (.slice none 0 0) [] := ⟨none, 0, rfl, fun _ => ⟨rfl, rfl, rfl⟩, fun k x hx => by simp [Lib.byteCells] at hx⟩

theorem below_drewN (w : World) (n : Nat) : Below w.heap.size w (w.drewN n) := ⟨rfl, rfl, rfl, Nat.le_refl _, fun _ _ => rfl⟩

end Go.Proofs.YtohlepbfjgehgaaGreatDoor
