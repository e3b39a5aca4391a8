/-
  What is proved here: what the texts below say, one behind the other.
-/
import Derived.Test.YtohlepbfjgehgaaGreatDoorMem
import Derived.Laws.AppendOwnNone
import Derived.Lib.UnsafeStr
import Derived.Test.YtohlepbfjgehgaaGreatDoorJ1
import Derived.Deep.RegionLaw
import Derived.Laws.CopyOwn
import Derived.OwnWalk
/-
  What is proved here: bytes in memory; wire's appendHighestFirst, over this program.
-/
namespace Go.Proofs.YtohlepbfjgehgaaGreatDoor
open Go.RowKit Go.Extern.Stop Go.Stop Go.Extern

/-- a number's last m bytes, the highest first -/
def be : Nat → Nat → List UInt8
  | 0, _ => []
  | m + 1, n => UInt8.ofNat (n / 256 ^ m) :: be m n
theorem be_length (m n : Nat) : (be m n).length = m := by
  induction m with
  | zero => rfl
  | succ m ih => simp [be, ih]

theorem be_byte (n j : Nat) (i : Int) (h : i = (j : Int)) : ((n : Int) / 2 ^ (8 * i).toNat % 256) = ((UInt8.ofNat (n / 256 ^ j)).toNat : Int) := by
  subst h
  have e : (8 * (j : Int)).toNat = 8 * j := by omega
  have e2 : (2 : Int) ^ (8 * j) = ((256 ^ j : Nat) : Int) := by rw [Int.pow_mul]; norm_cast
  rw [e, e2]
  simp

set_option maxRecDepth 100000 in
set_option maxHeartbeats 4000000 in
theorem HF_any (B : Nat) (v : Value) (xs : List UInt8) (n many : Nat) (w : World) (hn : n < 18446744073709551616) (hm : many ≤ 8) (ho : w.ownsRow B 5 1 v xs.length (Lib.byteCells xs)) (hB : B ≤ w.heap.size) (hx : xs.length ≤ 140000000000000) :
    Calls Tryz.prog 105 #[v, .int .u64 n, .int .i64 many] w fun e w' => ∃ v', e = .returned v' ∧ w'.ownsRow B 5 1 v' (xs ++ be many n).length (Lib.byteCells (xs ++ be many n)) ∧ Below B w w' := by
  obtain ⟨i0, hi, hi2⟩ := Option.map_eq_some_iff.1 infoByte
  obtain ⟨hz0, hz1, hz2⟩ : i0.zero = some (.int .u8 0) ∧ i0.size = 1 ∧ i0.bytes = 1 := by
    simp only [Prod.mk.injEq] at hi2; exact hi2
  have HI := hideIt (And.intro hi (And.intro hz0 (And.intro hz1 hz2)))
  clear hi2 hi hz0 hz1 hz2
  have HO := hideIt ho
  have HN := hideIt hn
  clear ho hn
  go_enter Tryz.func105, Tryz.ntmps105
  go_wp2
  go_loopw [0, 7] (fun s i wr => ∃ (j : Nat) (done : List UInt8), j ≤ many ∧ i = .int .i64 ((j : Int) - 1) ∧ Hid (be many n = done ++ be j n) ∧ Hid (wr.ownsRow B 5 1 s (xs ++ done).length (Lib.byteCells (xs ++ done))) ∧ Hid (Below B w wr)) (fun _ i _ => (intOf i + 1).toNat)
  case atStart => exact ⟨many, [], Nat.le_refl _, rfl, rfl, by simpa using HO, Below.refl _ _⟩
  case round =>
    obtain ⟨j, done, hj, rfl, HE, HW, HX⟩ := hrel
    have hdl : done.length + j = many := by have := congrArg List.length HE.out; simp [be_length] at this; omega
    cases j with
    | zero =>
      go_wp2
      go_ret
      have e1 : be many n = done := by have := HE.out; simpa [be] using this
      rw [← e1] at HW
      exact ⟨_, rfl, HW.out, HX.out⟩
    | succ j =>
      have hsz := HX.out.size
      obtain ⟨i, hi⟩ : ∃ i : Int, i = ((j + 1 : Nat) : Int) - 1 := ⟨_, rfl⟩
      rw [← hi]
      have hi0 : 0 ≤ i := by omega
      have hi7 : i ≤ 7 := by omega
      have HJ : Hid (i = (j : Int)) := by have : i = (j : Int) := by omega
                                          exact this
      clear hi
      have HCH := hideIt (be_byte n j i HJ.out)
      go_wp2_with (at_builtin; refine wpList_append_own _ rfl _ _ 26 rfl B 5 i0 (.int .u8 0) 1 1 Tryz.underlying26 HI.out.1 HI.out.2.1 HI.out.2.2.1 HI.out.2.2.2 rfl (by decide) _ _ _ rfl (HW.out.alloc _) ⟨wr.heap.size, 0, none⟩ 1 1 [.int .u8 (↑n / 2 ^ (8 * i).toNat % 256)] rfl rfl ?c1 ?c2 ?c3 ?c4 ?c5 ?_)
      case c1 => exact cell_one_new _ _ _
      case c2 => intro u hu; simp at hu; subst hu; rfl
      case c3 => unfold maxLen; simp; omega
      case c4 => simp; omega
      case c5 => simp; omega
      · intro v' w2 hown' hgrow _
        have HB2 := hideIt ((HX.out.alloc (by omega) _).grown hgrow (by simp; omega) (fun k hk => (HW.out.lt k hk).1))
        have HO2 := hideIt hown'
        clear hgrow hown'
        go_wp2
        go_roundw
        case rel =>
          refine ⟨j, done ++ [UInt8.ofNat (n / 256 ^ j)], by omega, congrArg (Value.int .i64) (by have := HJ.out; omega), ?_, ?_, HB2.out⟩
          · have := HE.out; simpa [Hid, be] using this
          · have := HO2.out
            rw [HCH.out] at this
            simpa [Hid, Lib.byteCells, Nat.add_assoc] using this
        case measure => have := HJ.out; simp [intOf]; omega
end Go.Proofs.YtohlepbfjgehgaaGreatDoor

/-
  What is proved here: rows of bytes, numbers and texts in memory; wire's appendNum, appendText, tooLong and the search for a text that is too long, over this program.
-/
namespace Go.Proofs.YtohlepbfjgehgaaGreatDoor
open Go.RowKit Go.Extern.Stop Go.Stop Go.Extern

/-! ### what is written -/
/-- a number's bits -/
def bits (n : Int) : Nat := (n % 18446744073709551616).toNat
theorem bits_lt (n : Int) : bits n < 18446744073709551616 := by unfold bits; omega
def numB (n : Int) : List UInt8 := be 8 (bits n)
def textB (s : List UInt8) : List UInt8 := be 4 s.length ++ s
def rowB {α : Type} (f : α → List UInt8) (l : List α) : List UInt8 := be 4 l.length ++ l.flatMap f
theorem numB_length (n : Int) : (numB n).length = 8 := be_length _ _
theorem textB_length (s : List UInt8) : (textB s).length = 4 + s.length := by simp [textB, be_length]

theorem flat_take {α : Type} (f : α → List UInt8) (l : List α) (k : Nat) (x : α) (hx : l[k]? = some x) : (l.take (k + 1)).flatMap f = (l.take k).flatMap f ++ f x := by
  have hlt : k < l.length := (List.getElem?_eq_some_iff.1 hx).1
  have he : l[k] = x := (List.getElem?_eq_some_iff.1 hx).2
  rw [List.take_succ_eq_append_getElem hlt, List.flatMap_append, he]; simp
theorem flat_len {α : Type} (f : α → List UInt8) (M : Nat) (l : List α) (h : ∀ x ∈ l, (f x).length ≤ M) : (l.flatMap f).length ≤ l.length * M := by
  induction l with
  | nil => simp
  | cons x r ih =>
    have h1 := h x (by simp)
    have h2 := ih (fun y hy => h y (by simp [hy]))
    simp only [List.flatMap_cons, List.length_append, List.length_cons, Nat.add_mul, Nat.one_mul]
    omega

theorem u64_of (n : Int) : IntKind.u64.wrap n = ((bits n : Nat) : Int) := by
  simp [IntKind.wrap, IntKind.bits, IntKind.signed, bits]
  omega

set_option maxRecDepth 100000 in
set_option maxHeartbeats 4000000 in
theorem aNum_any (B : Nat) (v : Value) (xs : List UInt8) (n : Int) (w : World) (ho : w.ownsRow B 5 1 v xs.length (Lib.byteCells xs)) (hB : B ≤ w.heap.size) (hx : xs.length ≤ 140000000000000) :
    Calls Tryz.prog 69 #[v, .int .i64 n] w fun e w' => ∃ v', e = .returned v' ∧ w'.ownsRow B 5 1 v' (xs ++ numB n).length (Lib.byteCells (xs ++ numB n)) ∧ Below B w w' := by
  have HH := hideIt (HF_any B v xs (bits n) 8 w (bits_lt n) (by decide) ho hB hx)
  clear ho
  go_enter Tryz.func69, Tryz.ntmps69
  go_wp2_with fail
  rw [u64_of n]
  refine HH.out.mono ?_
  rintro e w1 ⟨v', rfl, h1, h2⟩
  go_wp2
  go_ret
  exact ⟨_, rfl, h1, h2⟩

theorem tooLong_any (a : Option Addr) (n cap : Nat) (w : World) (hn : n ≤ maxLen) : Calls Tryz.prog 70 #[.slice a n cap] w fun e w' => e = .returned (.bool (decide (65536 < n))) ∧ w' = w := by
  unfold maxLen at hn
  by_cases h : 65536 < n
  · have h1 : (65536 : Int) < (n : Int) := by omega
    go_enter Tryz.func70, Tryz.ntmps70
    go_wp2
    go_ret
    exact ⟨by first | rfl | (rw [decide_eq_true h]; rfl), rfl⟩
  · have h1 : ¬ (65536 : Int) < (n : Int) := by omega
    go_enter Tryz.func70, Tryz.ntmps70
    go_wp2
    go_ret
    exact ⟨by first | rfl | (rw [decide_eq_false h]; rfl), rfl⟩

set_option maxRecDepth 100000 in
set_option maxHeartbeats 4000000 in
theorem aText_any (B : Nat) (v : Value) (xs : List UInt8) (sv : Value) (s : List UInt8) (w : World) (hs : BytesIn w (· < B) sv s) (hl : s.length ≤ 65536) (ho : w.ownsRow B 5 1 v xs.length (Lib.byteCells xs)) (hB : B ≤ w.heap.size) (hx : xs.length ≤ 130000000000000) :
    Calls Tryz.prog 72 #[v, sv] w fun e w' => ∃ v', e = .returned v' ∧ w'.ownsRow B 5 1 v' (xs ++ textB s).length (Lib.byteCells (xs ++ textB s)) ∧ Below B w w' := by
  obtain ⟨i0, hi, hi2⟩ := Option.map_eq_some_iff.1 infoByte
  obtain ⟨hz0, hz1, hz2⟩ : i0.zero = some (.int .u8 0) ∧ i0.size = 1 ∧ i0.bytes = 1 := by
    simp only [Prod.mk.injEq] at hi2; exact hi2
  have HI := hideIt (And.intro hi (And.intro hz0 (And.intro hz1 hz2)))
  clear hi2 hi hz0 hz1 hz2
  have HH := hideIt (HF_any B v xs s.length 4 w (by omega) (by decide) ho hB (by omega))
  have HS := hideIt hs
  obtain ⟨a, cap, rfl, hnil⟩ := hs.form
  clear ho hs
  go_enter Tryz.func72, Tryz.ntmps72
  go_wp2_with fail
  refine HH.out.mono ?_
  rintro e w1 ⟨v', rfl, h1, h2⟩
  have HO1 := hideIt h1
  have HB1 := hideIt h2
  have HS1 := hideIt (HS.out.kept (Kept.of_below h2 (fun _ h _ => h)))
  have hsz := h2.size
  clear h1 h2
  cases a with
  | none =>
    obtain ⟨rfl, rfl⟩ := hnil rfl
    go_wp2_with (at_builtin; refine wpList_append_own_none rfl _ _ 26 rfl B 5 i0 1 Tryz.underlying26 HI.out.1 _ _ _ rfl HO1.out rfl ?_)
    go_wp2
    go_ret
    exact ⟨_, rfl, by simpa [textB] using HO1.out, HB1.out⟩
  | some ad =>
    go_wp2_with (at_builtin; refine wpList_append_own _ rfl _ _ 26 rfl B 5 i0 (.int .u8 0) 1 1 Tryz.underlying26 HI.out.1 HI.out.2.1 HI.out.2.2.1 HI.out.2.2.2 rfl (by decide) _ _ _ rfl HO1.out ad s.length cap (Lib.byteCells s) rfl ?c0 ?c1 ?c2 ?c3 ?c4 ?c5 ?_)
    case c0 => simp [Lib.byteCells]
    case c1 => exact HS1.out.cells
    case c2 => exact byteCells_one s
    case c3 => unfold maxLen; simp [be_length]; omega
    case c4 => simp [be_length]; omega
    case c5 => omega
    · intro v2 w2 hown' hgrow _
      have HB2 := hideIt (HB1.out.grown hgrow (by omega) (fun k hk => (HO1.out.lt k hk).1))
      have HO2 := hideIt hown'
      clear hgrow hown'
      go_wp2
      go_ret
      refine ⟨_, rfl, ?_, HB2.out⟩
      have := HO2.out
      rw [← Lib.byteCells_append] at this
      simpa [textB, Nat.add_assoc] using this
end Go.Proofs.YtohlepbfjgehgaaGreatDoor

/-
  What is proved here: wire's appendRow (of texts and of numbers) and the search for a text that is too long, over this program.
-/
namespace Go.Proofs.YtohlepbfjgehgaaGreatDoor
open Go.RowKit Go.Extern.Stop Go.Stop Go.Extern

/-- is a text too long? -/
def anyLong (l : List (List UInt8)) : Bool := l.any fun s => decide (65536 < s.length)

end Go.Proofs.YtohlepbfjgehgaaGreatDoor

/-
  What is proved here: wire's Writer in memory, its add and refuse, over this program.
-/
namespace Go.Proofs.YtohlepbfjgehgaaGreatDoor
open Go.RowKit Go.Extern.Stop Go.Stop Go.Extern

/-- a chain of parts, the last one first -/
def Parts (w : World) (A : Nat → Prop) : Option Addr → List (List UInt8) → Prop
  | q, [] => q = none
  | q, c :: cs => ∃ b q' v, q = some ⟨b, 0, none⟩ ∧ A b ∧ w.cell? ⟨b, 0, none⟩ = some (.pointer q') ∧ w.cell? ⟨b, 1, none⟩ = some v ∧ BytesIn w A v c ∧ Parts w A q' cs
theorem Parts.kept {w w' : World} {A : Nat → Prop} {q : Option Addr} {cs : List (List UInt8)} (h : Parts w A q cs) (hk : Kept A w w') : Parts w' A q cs := by
  induction cs generalizing q with
  | nil => exact h
  | cons c r ih =>
    obtain ⟨b, q', v, h1, h2, h3, h4, h5, h6⟩ := h
    exact ⟨b, q', v, h1, h2, hk.cell (a := ⟨b, 0, none⟩) h2 h3, hk.cell (a := ⟨b, 1, none⟩) h2 h4, h5.kept hk, ih h6⟩
theorem Parts.mono {w : World} {A A' : Nat → Prop} {q : Option Addr} {cs : List (List UInt8)} (h : Parts w A q cs) (hA : ∀ k, A k → k < w.heap.size → A' k) : Parts w A' q cs := by
  induction cs generalizing q with
  | nil => exact h
  | cons c r ih =>
    obtain ⟨b, q', v, h1, h2, h3, h4, h5, h6⟩ := h
    exact ⟨b, q', v, h1, hA b h2 (lt_of_cell h3), h3, h4, h5.mono hA, ih h6⟩

/-- a Writer at p that has the bytes bs -/
def WOk (w : World) (p : Nat) (A : Nat → Prop) (bs : List UInt8) : Prop :=
  (∀ j, w.frozen? ⟨p, j, none⟩ = false) ∧ ∃ q cs, w.cell? ⟨p, 0, none⟩ = some (.pointer q) ∧ w.cell? ⟨p, 1, none⟩ = some (.int .i64 bs.length) ∧ w.cell? ⟨p, 2, none⟩ = some .nilIface ∧ Parts w A q cs ∧ bs = cs.reverse.flatten
/-- a Writer at p that refused something behind the bytes bs -/
def WBad (w : World) (p : Nat) (A : Nat → Prop) (bs : List UInt8) : Prop :=
  ∃ v, w.cell? ⟨p, 2, none⟩ = some v ∧ One w A v 2 ⟨#[119, 114, 105, 116, 101]⟩ bs.length
theorem WOk.kept {w w' : World} {p : Nat} {A : Nat → Prop} {bs : List UInt8} (h : WOk w p A bs) (hp : w'.heap[p]? = w.heap[p]?) (hk : Kept A w w') : WOk w' p A bs := by
  obtain ⟨h0, q, cs, h1, h2, h3, h4, h5⟩ := h
  exact ⟨fun j => (World.frozen?_of_block (w := w) (a := ⟨p, j, none⟩) hp).trans (h0 j), q, cs, (World.cell?_of_block (a := ⟨p, 0, none⟩) hp).trans h1, (World.cell?_of_block (a := ⟨p, 1, none⟩) hp).trans h2, (World.cell?_of_block (a := ⟨p, 2, none⟩) hp).trans h3, h4.kept hk, h5⟩
theorem WBad.kept {w w' : World} {p : Nat} {A : Nat → Prop} {bs : List UInt8} (h : WBad w p A bs) (hp : w'.heap[p]? = w.heap[p]?) (hk : Kept A w w') : WBad w' p A bs := by
  obtain ⟨v, h1, h2⟩ := h
  exact ⟨v, (World.cell?_of_block (a := ⟨p, 2, none⟩) hp).trans h1, h2.kept hk⟩

set_option maxHeartbeats 4000000 in
theorem add_ok (p : Nat) (A : Nat → Prop) (bs c : List UInt8) (v : Value) (w : World) (hw : WOk w p A bs) (hv : BytesIn w A v c) (hA : ∀ k, w.heap.size ≤ k → A k) (hp : ¬ A p) (hl : bs.length + c.length ≤ 1000000000000) :
    Calls Tryz.prog 68 #[.pointer (some ⟨p, 0, none⟩), v] w fun e w' => e = .returned (.tuple #[]) ∧ WOk w' p A (bs ++ c) ∧ w.grownBy w' (some p) := by
  obtain ⟨hf, q, cs, h0, h1, h2, hps, hbs⟩ := hw
  have HV := hideIt hv
  have HP := hideIt (And.intro hps hbs)
  have hpl := lt_of_cell h0
  obtain ⟨a, cap, rfl, _⟩ := hv.form
  have hf0 := hf 0
  have hf1 := hf 1
  have hne : p ≠ w.heap.size := by simp at hpl; omega
  clear hv hps hbs
  have HG := hideIt (((grown_set (grown_set (grown_refl w (some p)) 0 (.pointer (some ⟨w.heap.size, 0, none⟩))) 1 (.int .i64 ((bs.length : Int) + (c.length : Int))))))
  have HF := hideIt hf
  clear hf
  go_enter Tryz.func68, Tryz.ntmps68
  go_wp2
  go_end0
  obtain ⟨hps, hbs⟩ := HP.out
  have hg2 := grown_trans HG.out (World.grownBy_alloc _ (.cells #[.pointer q, .slice a c.length cap] 128) (some p))
  have hsz : ((w.setCell ⟨p, 0, none⟩ (.pointer (some ⟨w.heap.size, 0, none⟩))).setCell ⟨p, 1, none⟩ (.int .i64 ((bs.length : Int) + (c.length : Int)))).heap.size = w.heap.size := by rw [size_set, size_set]
  have hk : Kept A w _ := Kept.of_grown hg2 hp
  refine ⟨rfl, ⟨fun j => ?_, some ⟨w.heap.size, 0, none⟩, c :: cs, ?_, ?_, ?_, ⟨w.heap.size, q, _, rfl, hA _ (Nat.le_refl _), ?_, ?_, HV.out.kept hk, hps.kept hk⟩, ?_⟩, hg2⟩
  · rw [World.frozen?_alloc_old _ _ _ (by rw [hsz]; exact hne), World.frozen?_setCell, World.frozen?_setCell]; exact HF.out j
  · rw [World.cell?_alloc_lt _ _ _ (by rw [hsz]; exact hpl), World.cell?_setCell_other _ _ _ _ (by simp)]; exact World.cell?_setCell_same _ _ _ h0
  · rw [World.cell?_alloc_lt _ _ _ (by rw [hsz]; exact hpl)]
    have := World.cell?_setCell_same (w.setCell ⟨p, 0, none⟩ (.pointer (some ⟨w.heap.size, 0, none⟩))) ⟨p, 1, none⟩ (.int .i64 ((bs.length : Int) + (c.length : Int))) (by rw [World.cell?_setCell_other _ _ _ _ (by simp)]; exact h1)
    rw [this, List.length_append]; simp
  · rw [World.cell?_alloc_lt _ _ _ (by rw [hsz]; exact hpl), World.cell?_setCell_other _ _ _ _ (by simp), World.cell?_setCell_other _ _ _ _ (by simp)]; exact h2
  · rw [World.cell?_alloc_at _ _ _ _ hsz.symm]; rfl
  · rw [World.cell?_alloc_at _ _ _ _ hsz.symm]; rfl
  · rw [hbs]; simp

theorem add_bad (p : Nat) (A : Nat → Prop) (bs : List UInt8) (v : Value) (w : World) (hw : WBad w p A bs) :
    Calls Tryz.prog 68 #[.pointer (some ⟨p, 0, none⟩), v] w fun e w' => e = .returned (.tuple #[]) ∧ w' = w := by
  obtain ⟨ev, h0, h1⟩ := hw
  obtain ⟨t, x, rfl⟩ := h1.iface
  clear h1
  go_enter Tryz.func68, Tryz.ntmps68
  go_wp2
  refine bodyPost_ret (results_none rfl _ _ _) rfl ?_
  exact ⟨rfl, rfl⟩

theorem refuse_bad (p : Nat) (A : Nat → Prop) (bs : List UInt8) (w : World) (hw : WBad w p A bs) :
    Calls Tryz.prog 71 #[.pointer (some ⟨p, 0, none⟩)] w fun e w' => e = .returned (.tuple #[]) ∧ w' = w := by
  obtain ⟨ev, h0, h1⟩ := hw
  obtain ⟨t, x, rfl⟩ := h1.iface
  clear h1
  go_enter Tryz.func71, Tryz.ntmps71
  go_wp2
  go_end0
  exact ⟨rfl, rfl⟩

set_option maxHeartbeats 4000000 in
theorem refuse_ok (p : Nat) (A : Nat → Prop) (bs : List UInt8) (w : World) (hw : WOk w p A bs) (hA : ∀ k, w.heap.size ≤ k → A k) :
    Calls Tryz.prog 71 #[.pointer (some ⟨p, 0, none⟩)] w fun e w' => e = .returned (.tuple #[]) ∧ WBad w' p A bs ∧ w.grownBy w' (some p) := by
  obtain ⟨hf, q, cs, h0, h1, h2, hps, hbs⟩ := hw
  have hpl := lt_of_cell h0
  have hf2 := hf 2
  simp only at hpl
  clear hps hbs hf h0
  go_enter Tryz.func71, Tryz.ntmps71
  go_wp2
  go_region_with (first | (go_at_call 38; refine (Of_err 2 (by decide) _).mono ?_; rintro e w1 ⟨rfl, rfl⟩) | (go_at_call 73; refine (Wrap_some 70 (.int .i64 2) _ _ _).mono ?_; rintro e w2 ⟨rfl, rfl⟩))
  all_goals
    go_wp2
    go_end0
    have hsz : (w.setCell ⟨p, 2, none⟩ (.iface 167 (.pointer (some ⟨w.heap.size, 0, none⟩)))).heap.size = w.heap.size := size_set ..
    have hg := grown_trans (grown_set (grown_refl w (some p)) 2 (.iface 167 (.pointer (some ⟨w.heap.size, 0, none⟩)))) (World.grownBy_alloc _ (.cells #[.string ⟨#[119, 114, 105, 116, 101]⟩, .int .i64 bs.length, .iface 70 (.int .i64 2)] 171) (some p))
    refine ⟨rfl, ⟨_, ?_, w.heap.size, rfl, hA _ (Nat.le_refl _), ?_, ?_, ?_⟩, ⟨hg.os, hg.tape, hg.output, hg.size, hg.block⟩⟩
    · show World.cell? (World.alloc _ _) _ = _
      rw [World.cell?_alloc_lt _ _ _ (by rw [hsz]; exact hpl)]; exact World.cell?_setCell_same _ _ _ h2
    · show World.cell? (World.alloc _ _) _ = _
      rw [World.cell?_alloc_at _ _ _ _ hsz.symm]; rfl
    · show World.cell? (World.alloc _ _) _ = _
      rw [World.cell?_alloc_at _ _ _ _ hsz.symm]; rfl
    · show World.cell? (World.alloc _ _) _ = _
      rw [World.cell?_alloc_at _ _ _ _ hsz.symm]; rfl
end Go.Proofs.YtohlepbfjgehgaaGreatDoor

/-
  What is proved here: wire's Writer: Num, Text, List, Nums and Bytes, over this program.
-/
namespace Go.Proofs.YtohlepbfjgehgaaGreatDoor
open Go.RowKit Go.Extern.Stop Go.Stop Go.Extern

/-- what is added: its bytes, or nothing where that is too much -/
def put (st : List UInt8 × Bool) (c : Option (List UInt8)) : List UInt8 × Bool :=
  if st.2 then st else match c with | some c => (st.1 ++ c, false) | none => (st.1, true)
/-- a Writer at p in a state -/
def WSt (w : World) (p : Nat) (A : Nat → Prop) (st : List UInt8 × Bool) : Prop := if st.2 then WBad w p A st.1 else WOk w p A st.1
theorem WSt.kept {w w' : World} {p : Nat} {A : Nat → Prop} {st : List UInt8 × Bool} (h : WSt w p A st) (hp : w'.heap[p]? = w.heap[p]?) (hk : Kept A w w') : WSt w' p A st := by
  unfold WSt at *
  split
  · rename_i h1; rw [if_pos h1] at h; exact h.kept hp hk
  · rename_i h1; rw [if_neg h1] at h; exact h.kept hp hk
theorem WSt.lt {w : World} {p : Nat} {A : Nat → Prop} {st : List UInt8 × Bool} (h : WSt w p A st) : p < w.heap.size := by
  unfold WSt at h
  split at h
  · obtain ⟨v, h1, _⟩ := h; exact lt_of_cell (a := ⟨p, 2, none⟩) h1
  · obtain ⟨_, q, cs, h1, _⟩ := h; exact lt_of_cell (a := ⟨p, 0, none⟩) h1

theorem kept_below {A : Nat → Prop} {w w' : World} {p : Nat} {st : List UInt8 × Bool} (h : WSt w p A st) (hb : Below w.heap.size w w') : WSt w' p A st := h.kept (hb.block p h.lt) (Kept.of_all hb)

theorem add_st (p : Nat) (A : Nat → Prop) (st : List UInt8 × Bool) (c : List UInt8) (v : Value) (w : World) (hw : WSt w p A st) (hv : BytesIn w A v c) (hA : ∀ k, w.heap.size ≤ k → A k) (hp : ¬ A p) (hl : st.1.length + c.length ≤ 1000000000000) :
    Calls Tryz.prog 68 #[.pointer (some ⟨p, 0, none⟩), v] w fun e w' => e = .returned (.tuple #[]) ∧ WSt w' p A (put st (some c)) ∧ w.grownBy w' (some p) := by
  obtain ⟨bs, bad⟩ := st
  cases bad
  · refine (add_ok p A bs c v w hw hv hA hp hl).mono ?_
    rintro e w' ⟨he, h1, h2⟩
    exact ⟨he, h1, h2⟩
  · refine (add_bad p A bs v w hw).mono ?_
    rintro e w' ⟨he, rfl⟩
    exact ⟨he, hw, grown_refl _ _⟩
theorem refuse_st (p : Nat) (A : Nat → Prop) (st : List UInt8 × Bool) (w : World) (hw : WSt w p A st) (hA : ∀ k, w.heap.size ≤ k → A k) :
    Calls Tryz.prog 71 #[.pointer (some ⟨p, 0, none⟩)] w fun e w' => e = .returned (.tuple #[]) ∧ WSt w' p A (put st none) ∧ w.grownBy w' (some p) := by
  obtain ⟨bs, bad⟩ := st
  cases bad
  · refine (refuse_ok p A bs w hw hA).mono ?_
    rintro e w' ⟨he, h1, h2⟩
    exact ⟨he, h1, h2⟩
  · refine (refuse_bad p A bs w hw).mono ?_
    rintro e w' ⟨he, rfl⟩
    exact ⟨he, hw, grown_refl _ _⟩

set_option maxHeartbeats 4000000 in
theorem wNum_any (p : Nat) (A : Nat → Prop) (st : List UInt8 × Bool) (n : Int) (w : World) (hw : WSt w p A st) (hA : ∀ k, w.heap.size ≤ k → A k) (hp : ¬ A p) (hl : st.1.length ≤ 100000000000) :
    Calls Tryz.prog 27 #[.pointer (some ⟨p, 0, none⟩), .int .i64 n] w fun e w' => e = .returned (.tuple #[]) ∧ WSt w' p A (put st (some (numB n))) ∧ w.grownBy w' (some p) := by
  have H1 := hideIt (aNum_any w.heap.size (.slice none 0 0) [] n w (World.ownsRow_nil _ _ _ _) (Nat.le_refl _) (by simp))
  have HW := hideIt hw
  have HP := hideIt hp
  have HA := hideIt hA
  clear hw hp hA
  go_enter Tryz.func27, Tryz.ntmps27
  go_wp2_with fail
  refine H1.out.mono ?_
  rintro e w1 ⟨v, rfl, ho, hb⟩
  have HB := hideIt hb
  have HV := hideIt (RowIn.of_own ho (fun k hk => HA.out k hk))
  have hs := hb.size
  clear ho hb H1
  go_wp2_with fail
  refine (add_st p A st (numB n) v w1 (kept_below HW.out HB.out) HV.out (fun k hk => HA.out k (by omega)) HP.out (by rw [numB_length]; omega)).mono ?_
  rintro e w2 ⟨rfl, h1, h2⟩
  have H2 := hideIt (And.intro h1 (grown_trans (grown_below HB.out _) h2))
  clear h1 h2
  go_wp2
  go_end0
  exact ⟨rfl, H2.out.1, H2.out.2⟩

/-- what a text adds -/
def textO (s : List UInt8) : Option (List UInt8) := if 65536 < s.length then none else some (textB s)

set_option maxHeartbeats 4000000 in
theorem wText_any (p : Nat) (A A2 : Nat → Prop) (st : List UInt8 × Bool) (sv : Value) (s : List UInt8) (w : World) (hw : WSt w p A st) (hs : BytesIn w A2 sv s) (hsl : s.length ≤ maxLen) (hA : ∀ k, w.heap.size ≤ k → A k) (hp : ¬ A p) (hl : st.1.length ≤ 100000000000) :
    Calls Tryz.prog 34 #[.pointer (some ⟨p, 0, none⟩), sv] w fun e w' => e = .returned (.tuple #[]) ∧ WSt w' p A (put st (textO s)) ∧ w.grownBy w' (some p) := by
  have HS := hideIt (hs.mono (A' := (· < w.heap.size)) (fun _ _ h => h))
  have HW := hideIt hw
  have HP := hideIt hp
  have HA := hideIt hA
  obtain ⟨a, cap, rfl, _⟩ := hs.form
  clear hw hp hA hs
  by_cases h6 : 65536 < s.length
  · have HO : Hid (textO s = none) := if_pos h6
    go_enter Tryz.func34, Tryz.ntmps34
    go_wp2_with fail
    refine (tooLong_any a s.length cap w hsl).mono ?_
    rintro e w1 ⟨rfl, rfl⟩
    rw [decide_eq_true h6]
    go_wp2_with fail
    refine (refuse_st p A st w1 HW.out HA.out).mono ?_
    rintro e w2 ⟨rfl, h1, h2⟩
    have H2 := hideIt (And.intro h1 h2)
    clear h1 h2
    go_wp2
    refine bodyPost_ret (results_none rfl _ _ _) rfl ?_
    rw [HO.out]
    exact ⟨rfl, H2.out.1, H2.out.2⟩
  · have HO : Hid (textO s = some (textB s)) := if_neg h6
    go_enter Tryz.func34, Tryz.ntmps34
    go_wp2_with fail
    refine (tooLong_any a s.length cap w hsl).mono ?_
    rintro e w1 ⟨rfl, rfl⟩
    rw [decide_eq_false h6]
    go_wp2_with fail
    refine (aText_any w1.heap.size (.slice none 0 0) [] _ s w1 HS.out (by omega) (World.ownsRow_nil _ _ _ _) (Nat.le_refl _) (by simp)).mono ?_
    rintro e w2 ⟨v, rfl, ho, hb⟩
    have HB := hideIt hb
    have HV := hideIt (RowIn.of_own ho (fun k hk => HA.out k hk))
    have hs := hb.size
    clear ho hb
    go_wp2_with fail
    refine (add_st p A st (textB s) v w2 (kept_below HW.out HB.out) HV.out (fun k hk => HA.out k (by omega)) HP.out (by rw [textB_length]; omega)).mono ?_
    rintro e w3 ⟨rfl, h1, h2⟩
    have H2 := hideIt (And.intro h1 (grown_trans (grown_below HB.out _) h2))
    clear h1 h2
    go_wp2
    go_end0
    rw [HO.out]
    exact ⟨rfl, H2.out.1, H2.out.2⟩

/-- what a list of texts adds -/
def listO (l : List (List UInt8)) : Option (List UInt8) := if decide (1024 < l.length) || anyLong l then none else some (rowB textB l)
theorem anyLong_not {l : List (List UInt8)} (h : anyLong l = false) : ∀ s ∈ l, s.length ≤ 65536 := by
  intro s hs
  have := List.any_eq_false.1 h s hs
  simpa using this

/-- what numbers add -/
def numsO (l : List Int) : Option (List UInt8) := if 1024 < l.length then none else some (rowB numB l)

end Go.Proofs.YtohlepbfjgehgaaGreatDoor

/-
  What is proved here: wire's Writer: Bytes, over this program.
-/
namespace Go.Proofs.YtohlepbfjgehgaaGreatDoor
open Go.RowKit Go.Extern.Stop Go.Stop Go.Extern

/-- how many bytes parts have -/
def total (cs : List (List UInt8)) : Nat := cs.reverse.flatten.length
theorem total_cons (c : List UInt8) (cs : List (List UInt8)) : total (c :: cs) = total cs + c.length := by simp [total]

/-- the row that is filled from its end: so far the bytes 'done' lie at its end, m cells are ahead of them -/
def Filled (w : World) (g m : Nat) (done : List UInt8) : Prop := ∃ Z : List Value, Z.length = m ∧ w.heap[g]? = some (.cells (Z ++ Lib.byteCells done).toArray 5 (0, 0))

theorem Filled.own {w : World} {g : Nat} {bs : List UInt8} (h : Filled w g 0 bs) (hl : bs.length ≤ maxLen) : w.ownsRow g 5 1 (.slice (some ⟨g, 0, none⟩) bs.length bs.length) bs.length (Lib.byteCells bs) := by
  obtain ⟨Z, hz, hh⟩ := h
  have : Z = [] := List.eq_nil_of_length_eq_zero hz
  subst this
  exact ⟨by simp [Lib.byteCells], Or.inr ⟨g, bs.length, (Lib.byteCells bs).toArray, rfl, Nat.le_refl _, by simpa using hh, Nat.le_refl _, hl, by simp [Lib.byteCells], by rw [Nat.mul_one, ← Lib.byteCells_length bs]; exact List.take_length⟩⟩

theorem splice_fill (Z : List Value) (c done : List UInt8) (m : Nat) (hz : Z.length = m + c.length) : splice (Z ++ Lib.byteCells done) m (Lib.byteCells c) = Z.take m ++ Lib.byteCells (c ++ done) := by
  unfold splice
  rw [Lib.byteCells_length, List.take_append_of_le_length (by omega), List.drop_append, List.drop_of_length_le (by omega), Lib.byteCells_append, hz]
  simp

theorem BytesIn.src {w : World} {A : Nat → Prop} {a : Option Addr} {n cap : Nat} {l : List UInt8} (h : BytesIn w A (.slice a n cap) l) (h0 : 0 < (Lib.byteCells l).length) : ∃ ad, a = some ad ∧ ∀ j v, (Lib.byteCells l)[j]? = some v → w.cell? (ad.add j) = some v := by
  obtain ⟨a', cap', e1, _, h2⟩ := h
  simp only [Value.slice.injEq] at e1
  obtain ⟨rfl, _, rfl⟩ := e1
  obtain ⟨b, off, rfl, _⟩ := h2 0 _ (List.getElem?_eq_getElem h0)
  refine ⟨_, rfl, fun j v hj => ?_⟩
  obtain ⟨b', off', e, _, e3⟩ := h2 j v hj
  cases e
  rw [addr_add]; exact e3

theorem infoByteSize : (Tryz.prog.info? 5).map (·.size) = some 1 := by kernel_rfl

set_option maxRecDepth 100000 in
set_option maxHeartbeats 4000000 in
theorem wBytes_ok (p : Nat) (A : Nat → Prop) (bs : List UInt8) (w : World) (hw : WOk w p A bs) (hl : bs.length ≤ 1000000000000) :
    Calls Tryz.prog 35 #[.pointer (some ⟨p, 0, none⟩)] w fun e w' => ∃ v, e = .returned (.tuple #[v, .nilIface]) ∧ w'.ownsRow w.heap.size 5 1 v bs.length (Lib.byteCells bs) ∧ Below w.heap.size w w' := by
  obtain ⟨i0, hi, hi2⟩ := Option.map_eq_some_iff.1 infoByte
  obtain ⟨hz0, hz1, hz2⟩ : i0.zero = some (.int .u8 0) ∧ i0.size = 1 ∧ i0.bytes = 1 := by
    simp only [Prod.mk.injEq] at hi2; exact hi2
  have HI := hideIt (And.intro hi (And.intro hz0 (And.intro hz1 hz2)))
  clear hi2 hi hz0 hz1 hz2
  obtain ⟨hf, q, cs, h0, h1, h2, hps, hbs⟩ := hw
  have HP := hideIt (And.intro hps hbs)
  have hpl := lt_of_cell h0
  simp only at hpl
  have HC := hideIt (And.intro h0 (And.intro h1 h2))
  clear hf hps hbs
  go_enter Tryz.func35, Tryz.ntmps35
  go_wp2_with (at_make; refine wpList_make_full _ rfl _ _ 26 rfl w.heap.size 5 i0 (.int .u8 0) 1 Tryz.underlying26 HI.out.1 HI.out.2.1 HI.out.2.2.1 .i64 .i64 _ _ bs.length rfl rfl rfl rfl (by rw [HI.out.2.2.2]; omega) (by unfold maxLen; omega) (Nat.le_refl _) ?_)
  intro w1 hown hgrow
  have HB1 := hideIt (⟨hgrow.os, hgrow.tape, hgrow.output, hgrow.size, fun k hk => hgrow.block k hk (by simp)⟩ : Below w.heap.size w w1)
  have HF1 : Hid (Filled w1 w.heap.size (total cs) []) := by
    obtain ⟨g1, g2⟩ := hown
    rcases g2 with ⟨g3, _⟩ | ⟨g, cap, cur, g3, _, g4, _, _, g5, _⟩
    · cases g3
    · simp only [Value.slice.injEq, Option.some.injEq, Addr.mk.injEq] at g3
      obtain ⟨⟨rfl, _⟩, _, rfl⟩ := g3
      have e : Filled w1 w.heap.size (total cs) [] := ⟨cur.toList, by rw [total, ← HP.out.2]; simpa using g5, by simpa [Lib.byteCells] using g4⟩
      exact e
  have d0 : w1.cell? ⟨p, 0, none⟩ = some (.pointer q) := (HB1.out.cell (p := ⟨p, 0, none⟩) hpl).trans h0
  have d1 : w1.cell? ⟨p, 1, none⟩ = some (.int .i64 bs.length) := (HB1.out.cell (p := ⟨p, 1, none⟩) hpl).trans h1
  clear hown hgrow h0 h1 h2
  go_wp2
  go_loopg [5, 6] cs.length (fun k e pt wr => ∃ (q' : Option Addr) (cs2 : List (List UInt8)) (done : List UInt8), cs2.length = k ∧ e = .int .i64 (total cs2) ∧ pt = .pointer q' ∧ total cs2 + done.length = bs.length ∧ Hid (cs2.reverse.flatten ++ done = bs) ∧ Hid (Parts w A q' cs2) ∧ Hid (Filled wr w.heap.size (total cs2) done) ∧ Hid (Below w.heap.size w wr))
  case atStart => exact ⟨q, cs, [], rfl, by rw [HP.out.2]; rfl, rfl, by rw [HP.out.2]; rfl, by rw [HP.out.2]; exact List.append_nil _, HP.out.1, HF1.out, HB1.out⟩
  case round =>
    obtain ⟨q', cs2, done, hk, rfl, rfl, htot, HE, HPa, HF, HB⟩ := hrel
    cases cs2 with
    | nil =>
      have e1 : q' = none := HPa.out
      subst e1
      go_wp2
      go_ret2
      have e2 : done = bs := by have := HE.out; simpa using this
      subst e2
      exact ⟨_, rfl, Filled.own HF.out (by unfold maxLen; omega), HB.out⟩
    | cons c cs3 =>
      obtain ⟨b, q2, v, rfl, _, c0, c1, hby, hrest⟩ := HPa.out
      obtain ⟨a, cap, rfl, _⟩ := hby.form
      have d2 : wr.cell? ⟨b, 0, none⟩ = some (.pointer q2) := (HB.out.cell (p := ⟨b, 0, none⟩) (lt_of_cell c0)).trans c0
      have d3 : wr.cell? ⟨b, 1, none⟩ = some (.slice a c.length cap) := (HB.out.cell (p := ⟨b, 1, none⟩) (lt_of_cell c1)).trans c1
      have HT := hideIt (total_cons c cs3)
      have HR := hideIt hrest
      have HY := hideIt (RowIn.kept hby (Kept.of_all HB.out))
      obtain ⟨tc, htc⟩ : ∃ t, t = total (c :: cs3) := ⟨_, rfl⟩
      obtain ⟨t3, ht3⟩ : ∃ t, t = total cs3 := ⟨_, rfl⟩
      have htt : tc = t3 + c.length := by rw [htc, ht3, HT.out]
      rw [← htc] at htot HF
      rw [← htc]
      have HT3 := hideIt ht3
      have HTC := hideIt htc
      have hbw : b < w.heap.size := lt_of_cell (a := ⟨b, 0, none⟩) c0
      have HC0 := hideIt c0
      clear c0 c1 hby hrest ht3 htc
      obtain ⟨Z, hZl, hZh⟩ := HF.out
      have HZ := hideIt hZh
      have HSP := hideIt (splice_fill Z c done t3 (by omega))
      obtain ⟨cur, hcur⟩ : ∃ cur, cur = Z ++ Lib.byteCells done := ⟨_, rfl⟩
      rw [← hcur] at HZ HSP
      obtain ⟨X, hX⟩ : ∃ X, X = Lib.byteCells c := ⟨_, rfl⟩
      rw [← hX] at HSP
      have HX := hideIt hX
      have hXl : X.length = c.length := by rw [hX, Lib.byteCells_length]
      have hcl : cur.length = tc + done.length := by rw [hcur, List.length_append, hZl, Lib.byteCells_length]
      have HXL := hideIt hXl
      have HZL := hideIt hZl
      have HCL := hideIt hcl
      clear hZh hcur hX hZl hXl hcl
      have hle : t3 ≤ bs.length := by omega
      have hb1 : t3 + c.length ≤ 1000000000000 := by omega
      have HTO := hideIt htot
      subst htt
      clear htot
      by_cases hlt : bs.length = t3
      · subst hlt
        go_wp2
        go_region_law (refine step_copy_splice rfl (.tmp 44) (.tmp 48) 26 26 rfl 5 Tryz.underlying26 infoByteSize _ _ _ _ _ _ rfl rfl w.heap.size bs.length cur 5 (by exact HZ.out) X (by have := HXL.out; have := HTO.out; show X.length = min _ _; omega) (fun h => by have := HXL.out; have := HTO.out; omega) (by have := HXL.out; have := HCL.out; omega) (by rw [HX.out]; exact byteCells_one c) w.heap.size w (by exact HB.out.drew) (Nat.le_refl _) ?_; intro w2 HG2 hB2)
        have d4 : w2.cell? ⟨b, 0, none⟩ = some (.pointer q2) := (hB2.cell (p := ⟨b, 0, none⟩) hbw).trans HC0.out
        have HB2 := hideIt hB2
        clear hB2 d2 d3
        go_wp2
        go_roundg cs3.length
        case rel =>
          refine ⟨q2, cs3, c ++ done, rfl, by rw [← HT3.out], rfl, by have := HTO.out; rw [← HT3.out, List.length_append]; omega, ?_, HR.out, ?_, HB2.out⟩
          · have := HE.out; simpa [Hid] using this
          · have e : Filled w2 w.heap.size (total cs3) (c ++ done) := ⟨Z.take (total cs3), by have := HZL.out; rw [← HT3.out, List.length_take]; omega, by rw [← HT3.out, ← HSP.out]; exact HG2.out⟩
            exact e
        case measure => simp at hk; omega
      · go_wp2
        go_region_law (refine step_copy_splice rfl (.tmp 44) (.tmp 48) 26 26 rfl 5 Tryz.underlying26 infoByteSize _ _ _ _ _ _ rfl rfl w.heap.size t3 cur 5 (by exact HZ.out) X (by have := HXL.out; have := HTO.out; show X.length = min _ _; omega) (fun h => ⟨rfl, by rw [HX.out] at h ⊢; exact BytesIn.src HY.out h⟩) (by have := HXL.out; have := HCL.out; omega) (by rw [HX.out]; exact byteCells_one c) w.heap.size w (by exact HB.out.drew) (Nat.le_refl _) ?_; intro w2 HG2 hB2)
        have d4 : w2.cell? ⟨b, 0, none⟩ = some (.pointer q2) := (hB2.cell (p := ⟨b, 0, none⟩) hbw).trans HC0.out
        have HB2 := hideIt hB2
        clear hB2 d2 d3
        go_wp2
        go_roundg cs3.length
        case rel =>
          refine ⟨q2, cs3, c ++ done, rfl, by rw [← HT3.out], rfl, by have := HTO.out; rw [← HT3.out, List.length_append]; omega, ?_, HR.out, ?_, HB2.out⟩
          · have := HE.out; simpa [Hid] using this
          · have e : Filled w2 w.heap.size (total cs3) (c ++ done) := ⟨Z.take (total cs3), by have := HZL.out; rw [← HT3.out, List.length_take]; omega, by rw [← HT3.out, ← HSP.out]; exact HG2.out⟩
            exact e
        case measure => simp at hk; omega
end Go.Proofs.YtohlepbfjgehgaaGreatDoor
