/-
  What is proved here: rows of bytes, numbers and texts in memory; wire's appendNum, appendText, tooLong and the search for a text that is too long, over this program.
-/
import Derived.Test.YtaaaibnalhmmgaaDoorWA
namespace Go.Proofs.YtaaaibnalhmmgaaDoor
open Go.RowKit Go.Extern.Stop Go.Stop Go.Extern

/-- all blocks of A that were there are as they were -/
def Kept (A : Nat → Prop) (w w' : World) : Prop := ∀ k, A k → k < w.heap.size → w'.heap[k]? = w.heap[k]?
theorem Kept.refl (A : Nat → Prop) (w : World) : Kept A w w := fun _ _ _ => rfl
theorem Kept.of_below {A : Nat → Prop} {B : Nat} {w w' : World} (h : Below B w w') (hA : ∀ k, A k → k < w.heap.size → k < B) : Kept A w w' := fun k hk hl => h.block k (hA k hk hl)
theorem Kept.of_all {A : Nat → Prop} {w w' : World} (h : Below w.heap.size w w') : Kept A w w' := fun k _ hl => h.block k hl
theorem Kept.of_grown {A : Nat → Prop} {p : Nat} {w w' : World} (h : w.grownBy w' (some p)) (hA : ¬ A p) : Kept A w w' := fun k hk hl => h.block k hl (fun e => by cases e; exact hA hk)
theorem Kept.cell {A : Nat → Prop} {w w' : World} (h : Kept A w w') {a : Addr} {v : Value} (hA : A a.block) (hc : w.cell? a = some v) : w'.cell? a = some v :=
  (World.cell?_of_block (h a.block hA (lt_of_cell hc))).trans hc

/-- v is a slice of n things whose cells are cs, in blocks of A -/
def RowIn (w : World) (A : Nat → Prop) (v : Value) (n : Nat) (cs : List Value) : Prop :=
  ∃ a cap, v = .slice a n cap ∧ (a = none → cap = 0 ∧ n = 0 ∧ cs = []) ∧ ∀ k x, cs[k]? = some x → ∃ b off, a = some ⟨b, off, none⟩ ∧ A b ∧ w.cell? ⟨b, off + k, none⟩ = some x
theorem RowIn.kept {w w' : World} {A : Nat → Prop} {v : Value} {n : Nat} {cs : List Value} (h : RowIn w A v n cs) (hk : Kept A w w') : RowIn w' A v n cs := by
  obtain ⟨a, cap, h1, h2, h3⟩ := h
  refine ⟨a, cap, h1, h2, fun k x hx => ?_⟩
  obtain ⟨b, off, e1, e2, e3⟩ := h3 k x hx
  exact ⟨b, off, e1, e2, hk.cell (a := ⟨b, off + k, none⟩) e2 e3⟩
theorem RowIn.mono {w : World} {A A' : Nat → Prop} {v : Value} {n : Nat} {cs : List Value} (h : RowIn w A v n cs) (hA : ∀ k, A k → k < w.heap.size → A' k) : RowIn w A' v n cs := by
  obtain ⟨a, cap, h1, h2, h3⟩ := h
  refine ⟨a, cap, h1, h2, fun k x hx => ?_⟩
  obtain ⟨b, off, e1, e2, e3⟩ := h3 k x hx
  exact ⟨b, off, e1, hA b e2 (lt_of_cell e3), e3⟩
theorem addr_add (b off k : Nat) : (⟨b, off, none⟩ : Addr).add k = ⟨b, off + k, none⟩ := by
  unfold Addr.add; split <;> simp_all
theorem RowIn.of_own {w : World} {A : Nat → Prop} {B e size : Nat} {v : Value} {n : Nat} {cs : List Value} (h : w.ownsRow B e size v n cs) (hA : ∀ k, B ≤ k → A k) : RowIn w A v n cs := by
  have hc := h
  obtain ⟨h1, h2⟩ := h
  rcases h2 with ⟨rfl, h3⟩ | ⟨g, cap, cur, rfl, hg, hh, r⟩
  · subst h3
    have : cs = [] := List.eq_nil_of_length_eq_zero (by simpa using h1)
    exact ⟨none, 0, rfl, fun _ => ⟨rfl, rfl, this⟩, fun k x hx => by rw [this] at hx; simp at hx⟩
  · refine ⟨some ⟨g, 0, none⟩, cap, rfl, (fun e => nomatch e), fun k x hx => ⟨g, 0, rfl, hA g hg, ?_⟩⟩
    have := hc.cells (g := g) rfl k x hx
    rw [addr_add] at this; exact this
/-- where it is not nil, its cells behind its address -/
theorem RowIn.cells {w : World} {A : Nat → Prop} {a : Addr} {n cap : Nat} {cs : List Value} (h : RowIn w A (.slice (some a) n cap) n cs) : ∀ j u, cs[j]? = some u → w.cell? (a.add j) = some u := by
  obtain ⟨a', cap', h1, h2, h3⟩ := h
  simp only [Value.slice.injEq] at h1
  obtain ⟨rfl, _, rfl⟩ := h1
  intro j u hj
  obtain ⟨b, off, e1, e2, e3⟩ := h3 j u hj
  cases e1
  rw [addr_add]; exact e3

def BytesIn (w : World) (A : Nat → Prop) (v : Value) (l : List UInt8) : Prop := RowIn w A v l.length (Lib.byteCells l)
def numCells (l : List Int) : List Value := l.map (Value.int .i64)
def NumsIn (w : World) (A : Nat → Prop) (v : Value) (l : List Int) : Prop := RowIn w A v l.length (numCells l)
/-- a slice of slices of bytes -/
def TextsIn (w : World) (A : Nat → Prop) (v : Value) (l : List (List UInt8)) : Prop := ∃ vs : List Value, vs.length = l.length ∧ RowIn w A v l.length vs ∧ ∀ (k : Nat) (s : List UInt8) (u : Value), l[k]? = some s → vs[k]? = some u → BytesIn w A u s
theorem TextsIn.kept {w w' : World} {A : Nat → Prop} {v : Value} {l : List (List UInt8)} (h : TextsIn w A v l) (hk : Kept A w w') : TextsIn w' A v l := by
  obtain ⟨vs, h1, h2, h3⟩ := h
  exact ⟨vs, h1, h2.kept hk, fun k s u a b => (h3 k s u a b).kept hk⟩
theorem TextsIn.mono {w : World} {A A' : Nat → Prop} {v : Value} {l : List (List UInt8)} (h : TextsIn w A v l) (hA : ∀ k, A k → k < w.heap.size → A' k) : TextsIn w A' v l := by
  obtain ⟨vs, h1, h2, h3⟩ := h
  exact ⟨vs, h1, h2.mono hA, fun k s u a b => (h3 k s u a b).mono hA⟩
theorem TextsIn.form {w : World} {A : Nat → Prop} {v : Value} {l : List (List UInt8)} (h : TextsIn w A v l) : ∃ a cap, v = .slice a l.length cap := by
  obtain ⟨vs, _, ⟨a, cap, h1, _⟩, _⟩ := h
  exact ⟨a, cap, h1⟩
theorem TextsIn.at {w : World} {A : Nat → Prop} {a : Option Addr} {n cap : Nat} {l : List (List UInt8)} (h : TextsIn w A (.slice a n cap) l) {k : Nat} {s : List UInt8} (hs : l[k]? = some s) : ∃ b off u, a = some ⟨b, off, none⟩ ∧ A b ∧ w.cell? ⟨b, off + k, none⟩ = some u ∧ BytesIn w A u s := by
  obtain ⟨vs, h1, ⟨a', cap', e1, _, h2⟩, h3⟩ := h
  simp only [Value.slice.injEq] at e1
  obtain ⟨rfl, _, rfl⟩ := e1
  have hk : k < vs.length := by rw [h1]; exact (List.getElem?_eq_some_iff.1 hs).1
  obtain ⟨b, off, e1, e2, e3⟩ := h2 k vs[k] (by simp [hk])
  exact ⟨b, off, vs[k], e1, e2, e3, h3 k s vs[k] hs (by simp [hk])⟩
theorem BytesIn.form {w : World} {A : Nat → Prop} {v : Value} {l : List UInt8} (h : BytesIn w A v l) : ∃ a cap, v = .slice a l.length cap ∧ (a = none → cap = 0 ∧ l = []) := by
  obtain ⟨a, cap, h1, h2, _⟩ := h
  exact ⟨a, cap, h1, fun e => ⟨(h2 e).1, List.eq_nil_of_length_eq_zero (h2 e).2.1⟩⟩
theorem BytesIn.at {w : World} {A : Nat → Prop} {a : Option Addr} {n cap : Nat} {l : List UInt8} (h : BytesIn w A (.slice a n cap) l) {k : Nat} {x : UInt8} (hs : l[k]? = some x) : ∃ b off, a = some ⟨b, off, none⟩ ∧ A b ∧ w.cell? ⟨b, off + k, none⟩ = some (.int .u8 x.toNat) := by
  obtain ⟨a', cap', e1, _, h2⟩ := h
  simp only [Value.slice.injEq] at e1
  obtain ⟨rfl, _, rfl⟩ := e1
  exact h2 k _ (by simp [Lib.byteCells, hs])
theorem NumsIn.form {w : World} {A : Nat → Prop} {v : Value} {l : List Int} (h : NumsIn w A v l) : ∃ a cap, v = .slice a l.length cap := by
  obtain ⟨a, cap, h1, _⟩ := h
  exact ⟨a, cap, h1⟩
theorem NumsIn.at {w : World} {A : Nat → Prop} {a : Option Addr} {n cap : Nat} {l : List Int} (h : NumsIn w A (.slice a n cap) l) {k : Nat} {x : Int} (hs : l[k]? = some x) : ∃ b off, a = some ⟨b, off, none⟩ ∧ A b ∧ w.cell? ⟨b, off + k, none⟩ = some (.int .i64 x) := by
  obtain ⟨a', cap', e1, _, h2⟩ := h
  simp only [Value.slice.injEq] at e1
  obtain ⟨rfl, _, rfl⟩ := e1
  exact h2 k _ (by simp [numCells, hs])

theorem byteCells_one (l : List UInt8) : ∀ u ∈ Lib.byteCells l, u.oneCell' = true := by
  intro u hu; simp [Lib.byteCells] at hu; obtain ⟨x, _, rfl⟩ := hu; rfl

/-! ### what is written -/
/-- a number's bits -/
def bits (n : Int) : Nat := (n % 18446744073709551616).toNat
theorem bits_lt (n : Int) : bits n < 18446744073709551616 := by unfold bits; omega
def numB (n : Int) : List UInt8 := be 8 (bits n)
def textB (s : List UInt8) : List UInt8 := be 4 s.length ++ s
def rowB {α : Type} (f : α → List UInt8) (l : List α) : List UInt8 := be 4 l.length ++ l.flatMap f
theorem numB_length (n : Int) : (numB n).length = 8 := be_length _ _
theorem textB_length (s : List UInt8) : (textB s).length = 4 + s.length := by simp [textB, be_length]

theorem flat_take {α : Type} (f : α → List UInt8) (l : List α) (k : Nat) (x : α) (hx : l[k]? = some x) : (l.take (k + 1)).flatMap f = (l.take k).flatMap f ++ f x := by
  have hlt : k < l.length := (List.getElem?_eq_some_iff.1 hx).1
  have he : l[k] = x := (List.getElem?_eq_some_iff.1 hx).2
  rw [List.take_succ_eq_append_getElem hlt, List.flatMap_append, he]; simp
theorem flat_len {α : Type} (f : α → List UInt8) (M : Nat) (l : List α) (h : ∀ x ∈ l, (f x).length ≤ M) : (l.flatMap f).length ≤ l.length * M := by
  induction l with
  | nil => simp
  | cons x r ih =>
    have h1 := h x (by simp)
    have h2 := ih (fun y hy => h y (by simp [hy]))
    simp only [List.flatMap_cons, List.length_append, List.length_cons, Nat.add_mul, Nat.one_mul]
    omega

theorem u64_of (n : Int) : IntKind.u64.wrap n = ((bits n : Nat) : Int) := by
  simp [IntKind.wrap, IntKind.bits, IntKind.signed, bits]
  omega

set_option maxRecDepth 100000 in
set_option maxHeartbeats 4000000 in
theorem aNum_any (B : Nat) (v : Value) (xs : List UInt8) (n : Int) (w : World) (ho : w.ownsRow B 5 1 v xs.length (Lib.byteCells xs)) (hB : B ≤ w.heap.size) (hx : xs.length ≤ 140000000000000) :
    Calls Tryd.prog 36 #[v, .int .i64 n] w fun e w' => ∃ v', e = .returned v' ∧ w'.ownsRow B 5 1 v' (xs ++ numB n).length (Lib.byteCells (xs ++ numB n)) ∧ Below B w w' := by
  have HH := hideIt (HF_any B v xs (bits n) 8 w (bits_lt n) (by decide) ho hB hx)
  clear ho
  go_enter Tryd.func36, Tryd.ntmps36
  go_wp2_with fail
  rw [u64_of n]
  refine HH.out.mono ?_
  rintro e w1 ⟨v', rfl, h1, h2⟩
  go_wp2
  go_ret
  exact ⟨_, rfl, h1, h2⟩

theorem tooLong_any (a : Option Addr) (n cap : Nat) (w : World) (hn : n ≤ maxLen) : Calls Tryd.prog 38 #[.slice a n cap] w fun e w' => e = .returned (.bool (decide (65536 < n))) ∧ w' = w := by
  unfold maxLen at hn
  by_cases h : 65536 < n
  · have h1 : (65536 : Int) < (n : Int) := by omega
    go_enter Tryd.func38, Tryd.ntmps38
    go_wp2
    go_ret
    exact ⟨by first | rfl | (rw [decide_eq_true h]; rfl), rfl⟩
  · have h1 : ¬ (65536 : Int) < (n : Int) := by omega
    go_enter Tryd.func38, Tryd.ntmps38
    go_wp2
    go_ret
    exact ⟨by first | rfl | (rw [decide_eq_false h]; rfl), rfl⟩

set_option maxRecDepth 100000 in
set_option maxHeartbeats 4000000 in
theorem aText_any (B : Nat) (v : Value) (xs : List UInt8) (sv : Value) (s : List UInt8) (w : World) (hs : BytesIn w (· < B) sv s) (hl : s.length ≤ 65536) (ho : w.ownsRow B 5 1 v xs.length (Lib.byteCells xs)) (hB : B ≤ w.heap.size) (hx : xs.length ≤ 130000000000000) :
    Calls Tryd.prog 40 #[v, sv] w fun e w' => ∃ v', e = .returned v' ∧ w'.ownsRow B 5 1 v' (xs ++ textB s).length (Lib.byteCells (xs ++ textB s)) ∧ Below B w w' := by
  obtain ⟨i0, hi, hi2⟩ := Option.map_eq_some_iff.1 infoByte
  obtain ⟨hz0, hz1, hz2⟩ : i0.zero = some (.int .u8 0) ∧ i0.size = 1 ∧ i0.bytes = 1 := by
    simp only [Prod.mk.injEq] at hi2; exact hi2
  have HI := hideIt (And.intro hi (And.intro hz0 (And.intro hz1 hz2)))
  clear hi2 hi hz0 hz1 hz2
  have HH := hideIt (HF_any B v xs s.length 4 w (by omega) (by decide) ho hB (by omega))
  have HS := hideIt hs
  obtain ⟨a, cap, rfl, hnil⟩ := hs.form
  clear ho hs
  go_enter Tryd.func40, Tryd.ntmps40
  go_wp2_with fail
  refine HH.out.mono ?_
  rintro e w1 ⟨v', rfl, h1, h2⟩
  have HO1 := hideIt h1
  have HB1 := hideIt h2
  have HS1 := hideIt (HS.out.kept (Kept.of_below h2 (fun _ h _ => h)))
  have hsz := h2.size
  clear h1 h2
  cases a with
  | none =>
    obtain ⟨rfl, rfl⟩ := hnil rfl
    go_wp2_with (at_builtin; refine wpList_append_own_none rfl _ _ 32 rfl B 5 i0 1 Tryd.underlying32 HI.out.1 _ _ _ rfl HO1.out rfl ?_)
    go_wp2
    go_ret
    exact ⟨_, rfl, by simpa [textB] using HO1.out, HB1.out⟩
  | some ad =>
    go_wp2_with (at_builtin; refine wpList_append_own _ rfl _ _ 32 rfl B 5 i0 (.int .u8 0) 1 1 Tryd.underlying32 HI.out.1 HI.out.2.1 HI.out.2.2.1 HI.out.2.2.2 rfl (by decide) _ _ _ rfl HO1.out ad s.length cap (Lib.byteCells s) rfl ?c0 ?c1 ?c2 ?c3 ?c4 ?c5 ?_)
    case c0 => simp [Lib.byteCells]
    case c1 => exact HS1.out.cells
    case c2 => exact byteCells_one s
    case c3 => unfold maxLen; simp [be_length]; omega
    case c4 => simp [be_length]; omega
    case c5 => omega
    · intro v2 w2 hown' hgrow _
      have HB2 := hideIt (HB1.out.grown hgrow (by omega) (fun k hk => (HO1.out.lt k hk).1))
      have HO2 := hideIt hown'
      clear hgrow hown'
      go_wp2
      go_ret
      refine ⟨_, rfl, ?_, HB2.out⟩
      have := HO2.out
      rw [← Lib.byteCells_append] at this
      simpa [textB, Nat.add_assoc] using this
end Go.Proofs.YtaaaibnalhmmgaaDoor
