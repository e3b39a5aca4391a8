/-
  What is proved here: rows of bytes, numbers and texts in memory; wire's appendNum, appendText, tooLong and the search for a text that is too long, over this program.
-/
import Derived.Test.YtmhbfplaglipnaaGreatDoorWA
namespace Go.Proofs.YtmhbfplaglipnaaGreatDoor
open Go.RowKit Go.Extern.Stop Go.Stop Go.Extern

/-! ### what is written -/
/-- a number's bits -/
def bits (n : Int) : Nat := (n % 18446744073709551616).toNat
theorem bits_lt (n : Int) : bits n < 18446744073709551616 := by unfold bits; omega
def numB (n : Int) : List UInt8 := be 8 (bits n)
def textB (s : List UInt8) : List UInt8 := be 4 s.length ++ s
def rowB {α : Type} (f : α → List UInt8) (l : List α) : List UInt8 := be 4 l.length ++ l.flatMap f
theorem numB_length (n : Int) : (numB n).length = 8 := be_length _ _
theorem textB_length (s : List UInt8) : (textB s).length = 4 + s.length := by simp [textB, be_length]

theorem flat_take {α : Type} (f : α → List UInt8) (l : List α) (k : Nat) (x : α) (hx : l[k]? = some x) : (l.take (k + 1)).flatMap f = (l.take k).flatMap f ++ f x := by
  have hlt : k < l.length := (List.getElem?_eq_some_iff.1 hx).1
  have he : l[k] = x := (List.getElem?_eq_some_iff.1 hx).2
  rw [List.take_succ_eq_append_getElem hlt, List.flatMap_append, he]; simp
theorem flat_len {α : Type} (f : α → List UInt8) (M : Nat) (l : List α) (h : ∀ x ∈ l, (f x).length ≤ M) : (l.flatMap f).length ≤ l.length * M := by
  induction l with
  | nil => simp
  | cons x r ih =>
    have h1 := h x (by simp)
    have h2 := ih (fun y hy => h y (by simp [hy]))
    simp only [List.flatMap_cons, List.length_append, List.length_cons, Nat.add_mul, Nat.one_mul]
    omega

theorem u64_of (n : Int) : IntKind.u64.wrap n = ((bits n : Nat) : Int) := by
  simp [IntKind.wrap, IntKind.bits, IntKind.signed, bits]
  omega

set_option maxRecDepth 100000 in
set_option maxHeartbeats 4000000 in
theorem aNum_any (B : Nat) (v : Value) (xs : List UInt8) (n : Int) (w : World) (ho : w.ownsRow B 5 1 v xs.length (Lib.byteCells xs)) (hB : B ≤ w.heap.size) (hx : xs.length ≤ 140000000000000) :
    Calls Tryz.prog 90 #[v, .int .i64 n] w fun e w' => ∃ v', e = .returned v' ∧ w'.ownsRow B 5 1 v' (xs ++ numB n).length (Lib.byteCells (xs ++ numB n)) ∧ Below B w w' := by
  have HH := hideIt (HF_any B v xs (bits n) 8 w (bits_lt n) (by decide) ho hB hx)
  clear ho
  go_enter Tryz.func90, Tryz.ntmps90
  go_wp2_with fail
  rw [u64_of n]
  refine HH.out.mono ?_
  rintro e w1 ⟨v', rfl, h1, h2⟩
  go_wp2
  go_ret
  exact ⟨_, rfl, h1, h2⟩

theorem tooLong_any (a : Option Addr) (n cap : Nat) (w : World) (hn : n ≤ maxLen) : Calls Tryz.prog 86 #[.slice a n cap] w fun e w' => e = .returned (.bool (decide (65536 < n))) ∧ w' = w := by
  unfold maxLen at hn
  by_cases h : 65536 < n
  · have h1 : (65536 : Int) < (n : Int) := by omega
    go_enter Tryz.func86, Tryz.ntmps86
    go_wp2
    go_ret
    exact ⟨by first | rfl | (rw [decide_eq_true h]; rfl), rfl⟩
  · have h1 : ¬ (65536 : Int) < (n : Int) := by omega
    go_enter Tryz.func86, Tryz.ntmps86
    go_wp2
    go_ret
    exact ⟨by first | rfl | (rw [decide_eq_false h]; rfl), rfl⟩

set_option maxRecDepth 100000 in
set_option maxHeartbeats 4000000 in
theorem aText_any (B : Nat) (v : Value) (xs : List UInt8) (sv : Value) (s : List UInt8) (w : World) (hs : BytesIn w (· < B) sv s) (hl : s.length ≤ 65536) (ho : w.ownsRow B 5 1 v xs.length (Lib.byteCells xs)) (hB : B ≤ w.heap.size) (hx : xs.length ≤ 130000000000000) :
    Calls Tryz.prog 89 #[v, sv] w fun e w' => ∃ v', e = .returned v' ∧ w'.ownsRow B 5 1 v' (xs ++ textB s).length (Lib.byteCells (xs ++ textB s)) ∧ Below B w w' := by
  obtain ⟨i0, hi, hi2⟩ := Option.map_eq_some_iff.1 infoByte
  obtain ⟨hz0, hz1, hz2⟩ : i0.zero = some (.int .u8 0) ∧ i0.size = 1 ∧ i0.bytes = 1 := by
    simp only [Prod.mk.injEq] at hi2; exact hi2
  have HI := hideIt (And.intro hi (And.intro hz0 (And.intro hz1 hz2)))
  clear hi2 hi hz0 hz1 hz2
  have HH := hideIt (HF_any B v xs s.length 4 w (by omega) (by decide) ho hB (by omega))
  have HS := hideIt hs
  obtain ⟨a, cap, rfl, hnil⟩ := hs.form
  clear ho hs
  go_enter Tryz.func89, Tryz.ntmps89
  go_wp2_with fail
  refine HH.out.mono ?_
  rintro e w1 ⟨v', rfl, h1, h2⟩
  have HO1 := hideIt h1
  have HB1 := hideIt h2
  have HS1 := hideIt (HS.out.kept (Kept.of_below h2 (fun _ h _ => h)))
  have hsz := h2.size
  clear h1 h2
  cases a with
  | none =>
    obtain ⟨rfl, rfl⟩ := hnil rfl
    go_wp2_with (at_builtin; refine wpList_append_own_none rfl _ _ 75 rfl B 5 i0 1 Tryz.underlying75 HI.out.1 _ _ _ rfl HO1.out rfl ?_)
    go_wp2
    go_ret
    exact ⟨_, rfl, by simpa [textB] using HO1.out, HB1.out⟩
  | some ad =>
    go_wp2_with (at_builtin; refine wpList_append_own _ rfl _ _ 75 rfl B 5 i0 (.int .u8 0) 1 1 Tryz.underlying75 HI.out.1 HI.out.2.1 HI.out.2.2.1 HI.out.2.2.2 rfl (by decide) _ _ _ rfl HO1.out ad s.length cap (Lib.byteCells s) rfl ?c0 ?c1 ?c2 ?c3 ?c4 ?c5 ?_)
    case c0 => simp [Lib.byteCells]
    case c1 => exact HS1.out.cells
    case c2 => exact byteCells_one s
    case c3 => unfold maxLen; simp [be_length]; omega
    case c4 => simp [be_length]; omega
    case c5 => omega
    · intro v2 w2 hown' hgrow _
      have HB2 := hideIt (HB1.out.grown hgrow (by omega) (fun k hk => (HO1.out.lt k hk).1))
      have HO2 := hideIt hown'
      clear hgrow hown'
      go_wp2
      go_ret
      refine ⟨_, rfl, ?_, HB2.out⟩
      have := HO2.out
      rw [← Lib.byteCells_append] at this
      simpa [textB, Nat.add_assoc] using this
end Go.Proofs.YtmhbfplaglipnaaGreatDoor
