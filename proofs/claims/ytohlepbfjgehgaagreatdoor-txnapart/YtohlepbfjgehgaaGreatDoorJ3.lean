/-
  What is proved here: what the texts below say, one behind the other.
-/
import Derived.Test.YtohlepbfjgehgaaGreatDoorJ2
import Derived.Laws.Bits64b
import Derived.Lib.SliceRun
import Derived.Maps.AppendAt
/-
  What is proved here: wire's Writer: Bytes behind an error; wire's Reader in memory: take and highestFirst, over this program.
-/
namespace Go.Proofs.YtohlepbfjgehgaaGreatDoor
open Go.RowKit Go.Extern.Stop Go.Stop Go.Extern

set_option maxHeartbeats 4000000 in
theorem wBytes_bad (p : Nat) (A : Nat → Prop) (bs : List UInt8) (w : World) (hw : WBad w p A bs) :
    Calls Tryz.prog 35 #[.pointer (some ⟨p, 0, none⟩)] w fun e w' => ∃ v, e = .returned (.tuple #[.slice none 0 0, v]) ∧ One w' A v 2 ⟨#[119, 114, 105, 116, 101]⟩ bs.length ∧ Below w.heap.size w w' := by
  obtain ⟨v, h0, h1⟩ := hw
  have HO := hideIt h1
  obtain ⟨t, x, rfl⟩ := h1.iface
  clear h1
  go_enter Tryz.func35, Tryz.ntmps35
  go_wp2
  go_region
  all_goals
    go_wp2
    go_ret2
    exact ⟨_, rfl, HO.out.kept (Kept.of_all (below_drew w)), below_drew w⟩

/-- the reader's own bytes -/
def RBytes (w : World) (A : Nat → Prop) (v : Value) (bs : List UInt8) : Prop :=
  (v = .slice none 0 0 ∧ bs = []) ∨ ∃ g cap, v = .slice (some ⟨g, 0, none⟩) bs.length cap ∧ bs.length ≤ cap ∧ ∀ k x, bs[k]? = some x → A g ∧ w.cell? ⟨g, k, none⟩ = some (.int .u8 x.toNat)
theorem RBytes.kept {w w' : World} {A : Nat → Prop} {v : Value} {bs : List UInt8} (h : RBytes w A v bs) (hk : Kept A w w') : RBytes w' A v bs := by
  rcases h with h | ⟨g, cap, h1, h3, h4⟩
  · exact Or.inl h
  · exact Or.inr ⟨g, cap, h1, h3, fun k x hx => ⟨(h4 k x hx).1, hk.cell (a := ⟨g, k, none⟩) (h4 k x hx).1 (h4 k x hx).2⟩⟩
theorem RBytes.mono {w : World} {A A' : Nat → Prop} {v : Value} {bs : List UInt8} (h : RBytes w A v bs) (hA : ∀ k, A k → k < w.heap.size → A' k) : RBytes w A' v bs := by
  rcases h with h | ⟨g, cap, h1, h3, h4⟩
  · exact Or.inl h
  · exact Or.inr ⟨g, cap, h1, h3, fun k x hx => ⟨hA g (h4 k x hx).1 (lt_of_cell (a := ⟨g, k, none⟩) (h4 k x hx).2), (h4 k x hx).2⟩⟩
theorem RBytes.of_own {w : World} {A : Nat → Prop} {B : Nat} {v : Value} {bs : List UInt8} (h : w.ownsRow B 5 1 v bs.length (Lib.byteCells bs)) (hA : ∀ k, B ≤ k → k < w.heap.size → A k) : RBytes w A v bs := by
  have hc := h
  obtain ⟨h1, h2⟩ := h
  rcases h2 with ⟨rfl, h3⟩ | ⟨g, cap, cur, rfl, hg, hh, r1, r2⟩
  · exact Or.inl ⟨rfl, List.eq_nil_of_length_eq_zero h3⟩
  · refine Or.inr ⟨g, cap, rfl, r1, fun k x hx => ⟨hA g hg (Array.getElem?_eq_some_iff.1 hh).1, ?_⟩⟩
    have := hc.cells (g := g) rfl k (.int .u8 x.toNat) (by simp [Lib.byteCells, hx])
    rw [addr_add, Nat.zero_add] at this; exact this
/-- a Reader at p of the bytes bs, at a place -/
def ROk (w : World) (p : Nat) (A : Nat → Prop) (bs : List UInt8) (k : Nat) : Prop :=
  (∀ j, w.frozen? ⟨p, j, none⟩ = false) ∧ k ≤ bs.length ∧ ∃ v, w.cell? ⟨p, 0, none⟩ = some v ∧ w.cell? ⟨p, 1, none⟩ = some (.int .i64 k) ∧ w.cell? ⟨p, 2, none⟩ = some .nilIface ∧ RBytes w A v bs
/-- a Reader at p that met an error -/
def RBad (w : World) (p : Nat) (A : Nat → Prop) (n : Int) (s : ByteArray) (k : Int) : Prop := ∃ v, w.cell? ⟨p, 2, none⟩ = some v ∧ One w A v n s k
theorem ROk.kept {w w' : World} {p : Nat} {A : Nat → Prop} {bs : List UInt8} {k : Nat} (h : ROk w p A bs k) (hp : w'.heap[p]? = w.heap[p]?) (hk : Kept A w w') : ROk w' p A bs k := by
  obtain ⟨h0, hl, v, h1, h2, h3, h4⟩ := h
  exact ⟨fun j => (World.frozen?_of_block (w := w) (a := ⟨p, j, none⟩) hp).trans (h0 j), hl, v, (World.cell?_of_block (a := ⟨p, 0, none⟩) hp).trans h1, (World.cell?_of_block (a := ⟨p, 1, none⟩) hp).trans h2, (World.cell?_of_block (a := ⟨p, 2, none⟩) hp).trans h3, h4.kept hk⟩
theorem ROk.mono {w : World} {p : Nat} {A A' : Nat → Prop} {bs : List UInt8} {k : Nat} (h : ROk w p A bs k) (hA : ∀ k, A k → k < w.heap.size → A' k) : ROk w p A' bs k := by
  obtain ⟨h0, hl, v, h1, h2, h3, h4⟩ := h
  exact ⟨h0, hl, v, h1, h2, h3, h4.mono hA⟩
theorem ROk.lt {w : World} {p : Nat} {A : Nat → Prop} {bs : List UInt8} {k : Nat} (h : ROk w p A bs k) : p < w.heap.size := by
  obtain ⟨h0, hl, v, h1, _⟩ := h; exact lt_of_cell (a := ⟨p, 0, none⟩) h1
theorem ROk.next {w w' : World} {p : Nat} {A : Nat → Prop} {bs : List UInt8} {k : Nat} (h : ROk w p A bs k) (hb : Below w.heap.size w w') : ROk w' p A bs k := h.kept (hb.block p h.lt) (Kept.of_all hb)
theorem RBad.kept {w w' : World} {p : Nat} {A : Nat → Prop} {n : Int} {s : ByteArray} {k : Int} (h : RBad w p A n s k) (hp : w'.heap[p]? = w.heap[p]?) (hk : Kept A w w') : RBad w' p A n s k := by
  obtain ⟨v, h1, h2⟩ := h
  exact ⟨v, (World.cell?_of_block (a := ⟨p, 2, none⟩) hp).trans h1, h2.kept hk⟩
theorem RBad.lt {w : World} {p : Nat} {A : Nat → Prop} {n : Int} {s : ByteArray} {k : Int} (h : RBad w p A n s k) : p < w.heap.size := by
  obtain ⟨v, h1, _⟩ := h; exact lt_of_cell (a := ⟨p, 2, none⟩) h1
theorem RBad.next {w w' : World} {p : Nat} {A : Nat → Prop} {n : Int} {s : ByteArray} {k : Int} (h : RBad w p A n s k) (hb : Below w.heap.size w w') : RBad w' p A n s k := h.kept (hb.block p h.lt) (Kept.of_all hb)

/-- moved on -/
theorem ROk.move {w : World} {p : Nat} {A : Nat → Prop} {bs : List UInt8} {k k' : Nat} (h : ROk w p A bs k) (hp : ¬ A p) (hk : k' ≤ bs.length) (u : Int) (hu : u = (k' : Int)) : ROk (w.setCell ⟨p, 1, none⟩ (.int .i64 u)) p A bs k' ∧ w.grownBy (w.setCell ⟨p, 1, none⟩ (.int .i64 u)) (some p) := by
  subst hu
  have hg := grown_set (grown_refl w (some p)) 1 (.int .i64 k')
  obtain ⟨h0, hl, v, h1, h2, h3, h4⟩ := h
  refine ⟨⟨fun j => by rw [World.frozen?_setCell]; exact h0 j, hk, v, ?_, ?_, ?_, h4.kept (Kept.of_grown hg hp)⟩, hg⟩
  · rw [World.cell?_setCell_other _ _ _ _ (by simp)]; exact h1
  · exact World.cell?_setCell_same _ _ _ h2
  · rw [World.cell?_setCell_other _ _ _ _ (by simp)]; exact h3

theorem ROk.moved {w : World} {p : Nat} {A : Nat → Prop} {bs : List UInt8} {k k' : Nat} (h : ROk w p A bs k) (hp : ¬ A p) (hk : k' ≤ bs.length) (u : Int) (hu : u = (k' : Int)) : ROk (w.setCell ⟨p, 1, none⟩ (.int .i64 u)).drew.drew p A bs k' ∧ w.grownBy (w.setCell ⟨p, 1, none⟩ (.int .i64 u)).drew.drew (some p) := by
  have h2 := h.move hp hk u hu
  exact ⟨(h2.1.next (below_drew _)).next (below_drew _), grown_trans (grown_trans h2.2 (grown_below (below_drew _) _)) (grown_below (below_drew _) _)⟩

set_option maxHeartbeats 4000000 in
theorem take_no (p : Nat) (A : Nat → Prop) (bs : List UInt8) (k many : Nat) (w : World) (hr : ROk w p A bs k) (hl : bs.length ≤ 1000000000000) (hm : many ≤ 1000000000000) (hmo : bs.length < k + many) :
    Calls Tryz.prog 110 #[.pointer (some ⟨p, 0, none⟩), .int .i64 many] w fun e w' => e = .returned (.tuple #[.slice none 0 0, .int .i64 21]) ∧ Below w.heap.size w w' := by
  obtain ⟨h0, hk, v, h1, h2, h3, h4⟩ := hr
  obtain ⟨a, cap, rfl⟩ : ∃ a cap, v = .slice a bs.length cap := by
    rcases h4 with ⟨rfl, rfl⟩ | ⟨g, cap, rfl, _⟩
    · exact ⟨_, _, rfl⟩
    · exact ⟨_, _, rfl⟩
  have hgt : (bs.length : Int) - (k : Int) < (many : Int) := by omega
  clear h0 h3 h4
  go_enter Tryz.func110, Tryz.ntmps110
  go_wp2
  go_region
  all_goals
    go_wp2
    go_ret2
    exact ⟨rfl, below_drew w⟩

theorem mid_cell {bs : List UInt8} {k many j : Nat} {x : Value} (hx : (Lib.byteCells ((bs.drop k).take many))[j]? = some x) : ∃ y, bs[k + j]? = some y ∧ x = .int .u8 y.toNat := by
  simp only [Lib.byteCells, List.getElem?_map, Option.map_eq_some_iff] at hx
  obtain ⟨y, h1, rfl⟩ := hx
  rw [List.getElem?_take] at h1
  split at h1
  · rw [List.getElem?_drop] at h1; exact ⟨y, h1, rfl⟩
  · cases h1

set_option maxHeartbeats 4000000 in
theorem take_ok (p : Nat) (A : Nat → Prop) (bs : List UInt8) (k many : Nat) (w : World) (hr : ROk w p A bs k) (hp : ¬ A p) (hl : bs.length ≤ 1000000000000) (hmo : k + many ≤ bs.length) :
    Calls Tryz.prog 110 #[.pointer (some ⟨p, 0, none⟩), .int .i64 many] w fun e w' => ∃ v, e = .returned (.tuple #[v, .int .i64 0]) ∧ BytesIn w' A v ((bs.drop k).take many) ∧ ROk w' p A bs (k + many) ∧ w.grownBy w' (some p) := by
  have HR := hideIt hr
  obtain ⟨h0, hk, v, h1, h2, h3, h4⟩ := hr
  have hf1 := h0 1
  have hgt : ¬ (bs.length : Int) - (k : Int) < (many : Int) := by omega
  have hpl : p < w.heap.size := lt_of_cell (a := ⟨p, 0, none⟩) h1
  have hlen : ((bs.drop k).take many).length = many := by rw [List.length_take, List.length_drop]; omega
  clear h0 h3
  rcases h4 with ⟨rfl, rfl⟩ | ⟨g, cap, rfl, hcap, hcells⟩
  · obtain rfl : k = 0 := by simpa using hk
    obtain rfl : many = 0 := by simpa using hmo
    go_enter Tryz.func110, Tryz.ntmps110
    go_wp2
    go_region
    all_goals
      go_wp2
      go_region
      all_goals
        go_wp2
        go_ret2
        have h5 := HR.out.moved hp (Nat.le_refl _) 0 rfl
        exact ⟨_, rfl, BytesIn.nil _ _, h5.1, h5.2⟩
  · have HCE := hideIt hcells
    have hle : k + many ≤ cap := by omega
    clear hcells
    by_cases hck : cap = k
    · subst hck
      obtain rfl : many = 0 := by omega
      have ebs : bs.length = cap := by omega
      have HEB := hideIt ebs
      clear ebs
      go_enter Tryz.func110, Tryz.ntmps110
      go_wp2
      go_region
      all_goals
        go_wp2
        go_region
        all_goals
          go_wp2
          go_ret2
          have h5 := HR.out.moved hp (Nat.le_trans (Nat.le_of_eq HEB.out.symm) (Nat.le_refl _)) cap rfl
          exact ⟨_, rfl, ⟨some ⟨g, 0, none⟩, 0, by simp, (fun e => nomatch e), fun k x hx => by simp [Lib.byteCells] at hx⟩, h5.1, h5.2⟩
    · go_enter Tryz.func110, Tryz.ntmps110
      go_wp2
      go_region
      all_goals
        go_wp2
        go_region
        all_goals
          go_wp2
          go_ret2
          have h5 := HR.out.moved hp hmo ((k : Int) + (many : Int)) (by simp)
          refine ⟨_, rfl, ⟨some ⟨g, k, none⟩, cap - k, by rw [hlen, Nat.add_sub_cancel_left]; rfl, (fun e => nomatch e), fun j x hx => ?_⟩, h5.1, h5.2⟩
          obtain ⟨y, hy, rfl⟩ := mid_cell hx
          have hAg := (HCE.out _ _ hy).1
          exact ⟨g, k, rfl, hAg, (Kept.of_grown h5.2 hp).cell (a := ⟨g, k + j, none⟩) hAg (HCE.out _ _ hy).2⟩

/-! ### numbers -/
/-- the number that bytes are, the highest first -/
def beVal (l : List UInt8) : Nat := l.foldl (fun n x => n * 256 + x.toNat) 0
theorem beVal_snoc (l : List UInt8) (x : UInt8) : beVal (l ++ [x]) = beVal l * 256 + x.toNat := by simp [beVal]
theorem beVal_take (l : List UInt8) (k : Nat) (x : UInt8) (hx : l[k]? = some x) : beVal (l.take (k + 1)) = beVal (l.take k) * 256 + x.toNat := by
  have hlt : k < l.length := (List.getElem?_eq_some_iff.1 hx).1
  have he : l[k] = x := (List.getElem?_eq_some_iff.1 hx).2
  rw [List.take_succ_eq_append_getElem hlt, he, beVal_snoc]
theorem beVal_lt (l : List UInt8) : beVal l < 256 ^ l.length := by
  induction hn : l.length generalizing l with
  | zero => have := List.eq_nil_of_length_eq_zero hn; subst this; simp [beVal]
  | succ n ih =>
    have hne : l ≠ [] := by intro e; subst e; simp at hn
    have e := List.dropLast_concat_getLast hne
    rw [← e, beVal_snoc]
    have h1 := ih l.dropLast (by simp [hn])
    have h2 : (l.getLast hne).toNat < 256 := UInt8.toNat_lt _
    rw [Nat.pow_succ]; omega
theorem beVal_lt_take (l : List UInt8) (k : Nat) (hk : k ≤ 7) : beVal (l.take k) < 72057594037927936 := by
  have h1 := beVal_lt (l.take k)
  have h2 : (l.take k).length ≤ 7 := by simp; omega
  have h3 : 256 ^ (l.take k).length ≤ 256 ^ 7 := Nat.pow_le_pow_right (by decide) h2
  have : (256 : Nat) ^ 7 = 72057594037927936 := by decide
  omega

theorem or_byte (m b : Nat) (hm : m < 72057594037927936) (hb : b < 256) : Go.bits BinOp.or IntKind.u64 ((m : Int) * 256) (b : Int) = ((m * 256 + b : Nat) : Int) := by
  have e : ((m : Int) * 256) = ((m * 256 : Nat) : Int) := by omega
  rw [e, bits_or_u64_nat _ _ (by omega) (by omega)]
  congr 1
  have h := Nat.shiftLeft_add_eq_or_of_lt (i := 8) (b := b) (by omega) m
  rw [Nat.shiftLeft_eq] at h
  exact h.symm

set_option maxRecDepth 100000 in
set_option maxHeartbeats 4000000 in
theorem hf_ok (p : Nat) (A : Nat → Prop) (bs : List UInt8) (k many : Nat) (w : World) (hr : ROk w p A bs k) (hp : ¬ A p) (hl : bs.length ≤ 1000000000000) (hm : many ≤ 8) (hmo : k + many ≤ bs.length) :
    Calls Tryz.prog 106 #[.pointer (some ⟨p, 0, none⟩), .int .i64 many] w fun e w' => e = .returned (.tuple #[.int .u64 (beVal ((bs.drop k).take many)), .int .i64 0]) ∧ ROk w' p A bs (k + many) ∧ w.grownBy w' (some p) := by
  have HT := hideIt (take_ok p A bs k many w hr hp hl hmo)
  have hlen : ((bs.drop k).take many).length = many := by rw [List.length_take, List.length_drop]; omega
  clear hr hp
  generalize (bs.drop k).take many = l at HT hlen
  subst hlen
  go_enter Tryz.func106, Tryz.ntmps106
  go_wp2_with fail
  refine HT.out.mono ?_
  rintro e w1 ⟨v, rfl, hv, h1, h2⟩
  have HV := hideIt hv
  have H1 := hideIt (And.intro h1 h2)
  obtain ⟨a, cap, rfl, _⟩ := hv.form
  clear hv h1 h2
  go_wp2
  go_loop [8, 19] (fun n i => ∃ j : Nat, j ≤ l.length ∧ i = .int .i64 j ∧ n = .int .u64 (beVal (l.take j))) (fun _ i => l.length - (intOf i).toNat)
  case atStart => exact ⟨0, Nat.zero_le _, rfl, rfl⟩
  case round =>
    obtain ⟨j, hj, rfl, rfl⟩ := hrel
    by_cases hlt : j < l.length
    · obtain ⟨x, hx⟩ : ∃ x, l[j]? = some x := ⟨l[j], by simp [hlt]⟩
      obtain ⟨b, off, rfl, hb, hc⟩ := HV.out.at hx
      have HX := hideIt (beVal_take l j x hx)
      have hbl := beVal_lt_take l j (by omega)
      have hx8 : x.toNat < 256 := UInt8.toNat_lt x
      generalize beVal (l.take j) = m at hbl HX
      clear hx
      go_wp2
      refine ⟨⟨j + 1, by omega, by go_num, ?_⟩, by simp [intOf]; omega⟩
      rw [HX.out, or_byte m x.toNat hbl hx8]
    · have ej : j = l.length := by omega
      have HE : Hid (beVal (l.take j) = beVal l) := by have : beVal (l.take j) = beVal l := by rw [ej, List.take_length]
                                                       exact this
      clear ej
      go_wp2
      go_ret2
      rw [HE.out]
      exact ⟨rfl, H1.out.1, H1.out.2⟩

set_option maxHeartbeats 4000000 in
theorem hf_no (p : Nat) (A : Nat → Prop) (bs : List UInt8) (k many : Nat) (w : World) (hr : ROk w p A bs k) (hl : bs.length ≤ 1000000000000) (hm : many ≤ 8) (hmo : bs.length < k + many) :
    Calls Tryz.prog 106 #[.pointer (some ⟨p, 0, none⟩), .int .i64 many] w fun e w' => e = .returned (.tuple #[.int .u64 0, .int .i64 21]) ∧ Below w.heap.size w w' := by
  have HT := hideIt (take_no p A bs k many w hr hl (by omega) hmo)
  clear hr
  go_enter Tryz.func106, Tryz.ntmps106
  go_wp2_with fail
  refine HT.out.mono ?_
  rintro e w1 ⟨rfl, hb⟩
  go_wp2
  refine wp_loop_rounds 1 ?_
  rw [rounds_succ]
  go_wp2
  go_ret2
  exact ⟨rfl, hb⟩
end Go.Proofs.YtohlepbfjgehgaaGreatDoor

/-
  What is proved here: slices.Clone of bytes; wire's New and the Reader's length, num and text, over this program.
-/
namespace Go.Proofs.YtohlepbfjgehgaaGreatDoor
open Go.RowKit Go.Extern.Stop Go.Stop Go.Extern

set_option maxRecDepth 100000 in
set_option maxHeartbeats 4000000 in
theorem clone_any (A : Nat → Prop) (v : Value) (s : List UInt8) (w : World) (hv : BytesIn w A v s) (hl : s.length ≤ 140737488355328) :
    Calls Tryz.prog 78 #[v] w fun e w' => ∃ v', e = .returned v' ∧ w'.ownsRow w.heap.size 5 1 v' s.length (Lib.byteCells s) ∧ Below w.heap.size w w' := by
  obtain ⟨i0, hi, hi2⟩ := Option.map_eq_some_iff.1 infoByte
  obtain ⟨hz0, hz1, hz2⟩ : i0.zero = some (.int .u8 0) ∧ i0.size = 1 ∧ i0.bytes = 1 := by
    simp only [Prod.mk.injEq] at hi2; exact hi2
  have HI := hideIt (And.intro hi (And.intro hz0 (And.intro hz1 hz2)))
  clear hi2 hi hz0 hz1 hz2
  obtain ⟨a, cap, rfl, hnil⟩ := hv.form
  have HV := hideIt hv
  clear hv
  have hq := fun (w : World) (a : Option Addr) (n c : Nat) => Lib.run_eql_slice_nil (P := Tryz.prog) w 26 5 a n c 0 0 Tryz.underlying26
  cases a with
  | none =>
    obtain ⟨rfl, rfl⟩ := hnil rfl
    go_enter Tryz.func78, Tryz.ntmps78
    go_wp2
    go_ret
    exact ⟨_, rfl, World.ownsRow_nil _ _ _ _, Below.refl _ _⟩
  | some ad =>
    have HB1 := hideIt ((Below.refl w.heap.size w).alloc (Nat.le_refl _) (.cells #[] 5))
    go_enter Tryz.func78, Tryz.ntmps78
    go_wp2_with (at_builtin; refine wpList_append_own _ rfl _ _ 26 rfl w.heap.size 5 i0 (.int .u8 0) 1 1 Tryz.underlying26 HI.out.1 HI.out.2.1 HI.out.2.2.1 HI.out.2.2.2 rfl (by decide) _ 0 [] rfl (World.ownsRow_made w #[] 0 (Nat.le_refl _) (by decide) rfl) ad s.length cap (Lib.byteCells s) rfl ?c0 ?c1 ?c2 ?c3 ?c4 ?c5 ?_)
    case c0 => simp [Lib.byteCells]
    case c1 => exact (RowIn.kept HV.out (Kept.of_all HB1.out)).cells
    case c2 => exact byteCells_one s
    case c3 => unfold maxLen; omega
    case c4 => omega
    case c5 => simp
    · intro v2 w2 hown' hgrow _
      have HB2 := hideIt (HB1.out.grown hgrow (by simp) (fun k hk => by simp [Value.ownBlock] at hk; omega))
      have HO2 := hideIt hown'
      clear hgrow hown'
      go_wp2
      go_ret
      exact ⟨_, rfl, by simpa using HO2.out, HB2.out⟩

set_option maxHeartbeats 4000000 in
theorem new_any (A : Nat → Prop) (v : Value) (s : List UInt8) (w : World) (hv : BytesIn w A v s) (hl : s.length ≤ 140737488355328) :
    Calls Tryz.prog 39 #[v] w fun e w' => ∃ p, e = .returned (.pointer (some ⟨p, 0, none⟩)) ∧ w.heap.size ≤ p ∧ p + 1 = w'.heap.size ∧ ROk w' p (fun k => k ≠ p) s 0 ∧ Below w.heap.size w w' := by
  have HC := hideIt (clone_any A v s w hv hl)
  obtain ⟨a, cap, rfl, _⟩ := hv.form
  clear hv
  go_enter Tryz.func39, Tryz.ntmps39
  go_wp2_with fail
  refine HC.out.mono ?_
  rintro e w1 ⟨v', rfl, ho, hb⟩
  have HO := hideIt ho
  have HB := hideIt hb
  obtain ⟨a2, cap2, rfl⟩ := own_form ho
  clear ho hb
  go_wp2
  go_ret
  have hs := HB.out.size
  refine ⟨w1.heap.size, rfl, hs, by simp, ⟨fun j => World.frozen?_alloc_at _ _ _ _ rfl, Nat.zero_le _, .slice a2 s.length cap2, ?_, ?_, ?_, ?_⟩, HB.out.alloc hs _⟩
  · rw [World.cell?_alloc_at _ _ _ _ rfl]; rfl
  · rw [World.cell?_alloc_at _ _ _ _ rfl]; rfl
  · rw [World.cell?_alloc_at _ _ _ _ rfl]; rfl
  · exact (RBytes.of_own HO.out (fun k _ h => Nat.ne_of_lt h)).kept (Kept.of_all ((Below.refl _ _).alloc (Nat.le_refl _) _))

/-! ### what is read: the value and how many bytes it took, or the error -/
def rdLen (most : Nat) (r : List UInt8) : Except Int (Nat × Nat) :=
  if r.length < 4 then .error 21 else if most < beVal (r.take 4) then .error 2 else .ok (beVal (r.take 4), 4)
def sgn (n : Nat) : Int := if n < 9223372036854775808 then n else (n : Int) - 18446744073709551616
theorem sgn_wrap64 (n : Nat) (h : n < 18446744073709551616) : wrap64 (n : Int) = sgn n := by
  unfold wrap64 sgn; split <;> omega
def rdNum (r : List UInt8) : Except Int (Int × Nat) := if r.length < 8 then .error 21 else .ok (sgn (beVal (r.take 8)), 8)
def rdText (r : List UInt8) : Except Int (List UInt8 × Nat) :=
  match rdLen 65536 r with
  | .error e => .error e
  | .ok (n, _) => if r.length < 4 + n then .error 21 else .ok ((r.drop 4).take n, 4 + n)

/-- what a way to read leaves: the value, the place behind it; or an error's number -/
def HowPost {α : Type} (w : World) (p : Nat) (A : Nat → Prop) (bs : List UInt8) (k : Nat) (R : Except Int (α × Nat)) (rep : World → Value → α → Prop) (e : Ending) (w' : World) : Prop :=
  w.grownBy w' (some p) ∧ match R with
    | .error n => (n == 0) = false ∧ ∃ v k', e = .returned (.tuple #[v, .int .i64 n]) ∧ ROk w' p A bs k'
    | .ok (x, c) => ∃ v, e = .returned (.tuple #[v, .int .i64 0]) ∧ rep w' v x ∧ ROk w' p A bs (k + c)
def isInt (_ : World) (v : Value) (n : Int) : Prop := v = .int .i64 n
def isNat (_ : World) (v : Value) (n : Nat) : Prop := v = .int .i64 (n : Int)

theorem drop_lt {bs : List UInt8} {k m : Nat} (hk : k ≤ bs.length) (h : (bs.drop k).length < m) : bs.length < k + m := by rw [List.length_drop] at h; omega
theorem drop_le {bs : List UInt8} {k m : Nat} (hk : k ≤ bs.length) (h : ¬ (bs.drop k).length < m) : k + m ≤ bs.length := by rw [List.length_drop] at h; omega

set_option maxRecDepth 100000 in
set_option maxHeartbeats 4000000 in
theorem num_any (p : Nat) (A : Nat → Prop) (bs : List UInt8) (k : Nat) (w : World) (hr : ROk w p A bs k) (hp : ¬ A p) (hl : bs.length ≤ 1000000000000) :
    Calls Tryz.prog 80 #[.pointer (some ⟨p, 0, none⟩)] w (HowPost w p A bs k (rdNum (bs.drop k)) isInt) := by
  have HR := hideIt hr
  have hk := hr.2.1
  clear hr
  by_cases h8 : (bs.drop k).length < 8
  · have HE : Hid (rdNum (bs.drop k) = .error 21) := if_pos h8
    have HN := hideIt (drop_lt hk h8)
    clear h8
    go_enter Tryz.func80, Tryz.ntmps80
    go_wp2_with fail
    refine (hf_no p A bs k 8 w HR.out hl (by decide) HN.out).mono ?_
    rintro e w1 ⟨rfl, hb⟩
    go_wp2
    go_ret2
    unfold HowPost
    rw [HE.out]
    exact ⟨grown_below hb _, rfl, _, k, rfl, HR.out.next hb⟩
  · have HE : Hid (rdNum (bs.drop k) = .ok (sgn (beVal ((bs.drop k).take 8)), 8)) := if_neg h8
    have HN := hideIt (drop_le hk h8)
    have HV : Hid (beVal ((bs.drop k).take 8) < 18446744073709551616) := by
      have h1 := beVal_lt ((bs.drop k).take 8)
      have h2 : 256 ^ ((bs.drop k).take 8).length ≤ 256 ^ 8 := Nat.pow_le_pow_right (by decide) (List.length_take_le _ _)
      have h3 : (256 : Nat) ^ 8 = 18446744073709551616 := by decide
      have h4 : beVal ((bs.drop k).take 8) < 18446744073709551616 := by omega
      exact h4
    have HF := hideIt (hf_ok p A bs k 8 w HR.out hp hl (by decide) HN.out)
    generalize beVal ((bs.drop k).take 8) = m at HE HV HF
    clear h8
    go_enter Tryz.func80, Tryz.ntmps80
    go_wp2_with fail
    refine HF.out.mono ?_
    rintro e w1 ⟨rfl, h1, h2⟩
    have H1 := hideIt (And.intro h1 h2)
    clear h1 h2
    go_wp2
    go_ret2
    unfold HowPost
    rw [HE.out, ← sgn_wrap64 m HV.out]
    exact ⟨H1.out.2, _, rfl, rfl, H1.out.1⟩

theorem beVal4 (r : List UInt8) : beVal (r.take 4) < 4294967296 := by
  have h1 := beVal_lt (r.take 4)
  have h2 : 256 ^ (r.take 4).length ≤ 256 ^ 4 := Nat.pow_le_pow_right (by decide) (List.length_take_le _ _)
  have h3 : (256 : Nat) ^ 4 = 4294967296 := by decide
  omega

set_option maxRecDepth 100000 in
set_option maxHeartbeats 4000000 in
theorem length_any (p : Nat) (A : Nat → Prop) (bs : List UInt8) (k most : Nat) (w : World) (hr : ROk w p A bs k) (hp : ¬ A p) (hl : bs.length ≤ 1000000000000) :
    Calls Tryz.prog 109 #[.pointer (some ⟨p, 0, none⟩), .int .u64 most] w (HowPost w p A bs k (rdLen most (bs.drop k)) isNat) := by
  have HR := hideIt hr
  have hk := hr.2.1
  clear hr
  by_cases h4 : (bs.drop k).length < 4
  · have HE : Hid (rdLen most (bs.drop k) = .error 21) := if_pos h4
    have HN := hideIt (drop_lt hk h4)
    clear h4
    go_enter Tryz.func109, Tryz.ntmps109
    go_wp2_with fail
    refine (hf_no p A bs k 4 w HR.out hl (by decide) HN.out).mono ?_
    rintro e w1 ⟨rfl, hb⟩
    go_wp2
    go_ret2
    unfold HowPost
    rw [HE.out]
    exact ⟨grown_below hb _, rfl, _, k, rfl, HR.out.next hb⟩
  · have HE : Hid (rdLen most (bs.drop k) = if most < beVal ((bs.drop k).take 4) then .error 2 else .ok (beVal ((bs.drop k).take 4), 4)) := if_neg h4
    have HN := hideIt (drop_le hk h4)
    have hv := beVal4 (bs.drop k)
    have HF := hideIt (hf_ok p A bs k 4 w HR.out hp hl (by decide) HN.out)
    generalize beVal ((bs.drop k).take 4) = m at HE hv HF
    clear h4
    by_cases hm : most < m
    · have hm2 : (most : Int) < (m : Int) := by omega
      go_enter Tryz.func109, Tryz.ntmps109
      go_wp2_with fail
      refine HF.out.mono ?_
      rintro e w1 ⟨rfl, h1, h2⟩
      have H1 := hideIt (And.intro h1 h2)
      clear h1 h2
      go_wp2
      go_ret2
      unfold HowPost
      rw [HE.out, if_pos hm]
      exact ⟨H1.out.2, rfl, _, _, rfl, H1.out.1⟩
    · have hm2 : ¬ (most : Int) < (m : Int) := by omega
      go_enter Tryz.func109, Tryz.ntmps109
      go_wp2_with fail
      refine HF.out.mono ?_
      rintro e w1 ⟨rfl, h1, h2⟩
      have H1 := hideIt (And.intro h1 h2)
      clear h1 h2
      go_wp2
      go_ret2
      unfold HowPost
      rw [HE.out, if_neg hm]
      exact ⟨H1.out.2, _, rfl, rfl, H1.out.1⟩

/-- bytes in blocks of A -/
def isText (A : Nat → Prop) (w : World) (v : Value) (s : List UInt8) : Prop := BytesIn w A v s

set_option maxRecDepth 100000 in
set_option maxHeartbeats 4000000 in
theorem text_any (p : Nat) (A A2 : Nat → Prop) (bs : List UInt8) (k : Nat) (w : World) (hr : ROk w p A bs k) (hp : ¬ A p) (hA : ∀ k, w.heap.size ≤ k → A2 k) (hl : bs.length ≤ 1000000000000) :
    Calls Tryz.prog 83 #[.pointer (some ⟨p, 0, none⟩)] w (HowPost w p A bs k (rdText (bs.drop k)) (isText A2)) := by
  have HL := hideIt (length_any p A bs k 65536 w hr hp hl)
  have HP := hideIt hp
  have HA := hideIt hA
  have hk := hr.2.1
  obtain ⟨R, hR⟩ : ∃ R, R = rdLen 65536 (bs.drop k) := ⟨_, rfl⟩
  rw [← hR] at HL
  have HRR := hideIt hR
  clear hr hp hA hR
  match R with
  | .error n =>
    have HE : Hid (rdText (bs.drop k) = .error n) := by unfold Hid rdText; rw [← HRR.out]
    go_enter Tryz.func83, Tryz.ntmps83
    go_wp2_with fail
    refine HL.out.mono ?_
    rintro e w1 ⟨hg, hn, v, k', rfl, hrk⟩
    have H1 := hideIt (And.intro hg hrk)
    have HN := hideIt hn
    clear hg hrk
    go_wp2
    go_ret2
    unfold HowPost
    rw [HE.out]
    exact ⟨H1.out.1, HN.out, _, k', rfl, H1.out.2⟩
  | .ok (m, c) =>
    have hmc : (m ≤ 65536 ∧ c = 4) ∧ 4 ≤ (bs.drop k).length := by
      have h := HRR.out
      unfold rdLen at h
      split at h
      · cases h
      · split at h
        · cases h
        · injection h with h; injection h with h1 h2; omega
    obtain ⟨⟨hm, rfl⟩, h4⟩ := hmc
    have HE : Hid (rdText (bs.drop k) = if (bs.drop k).length < 4 + m then .error 21 else .ok (((bs.drop k).drop 4).take m, 4 + m)) := by unfold Hid rdText; rw [← HRR.out]
    rw [List.length_drop] at h4
    go_enter Tryz.func83, Tryz.ntmps83
    go_wp2_with fail
    refine HL.out.mono ?_
    rintro e w1 ⟨hg, v, rfl, hv, hrk⟩
    have hv2 : v = .int .i64 (m : Int) := hv
    subst hv2
    have H1 := hideIt (And.intro hg hrk)
    have hs1 := hg.size
    clear hg hrk hv
    by_cases hlt : bs.length < k + 4 + m
    · have HE2 : Hid (rdText (bs.drop k) = .error 21) := by unfold Hid; rw [HE.out, if_pos (by rw [List.length_drop]; omega)]
      go_wp2_with fail
      refine (take_no p A bs (k + 4) m w1 H1.out.2 hl (by omega) hlt).mono ?_
      rintro e w2 ⟨rfl, hb⟩
      have HB := hideIt hb
      clear hb
      go_wp2_with fail
      refine (clone_any A _ [] w2 (BytesIn.nil _ _) (by simp)).mono ?_
      rintro e w3 ⟨v3, rfl, ho, hb3⟩
      have HB3 := hideIt (HB.out.trans (hb3.mono HB.out.size))
      clear ho hb3
      go_wp2
      go_ret2
      unfold HowPost
      rw [HE2.out]
      exact ⟨grown_trans H1.out.1 (grown_below HB3.out _), rfl, _, _, rfl, H1.out.2.next HB3.out⟩
    · have HE2 : Hid (rdText (bs.drop k) = .ok (((bs.drop (k + 4)).take m), 4 + m)) := by unfold Hid; rw [HE.out, if_neg (by rw [List.length_drop]; omega), List.drop_drop]
      go_wp2_with fail
      refine (take_ok p A bs (k + 4) m w1 H1.out.2 HP.out hl (by omega)).mono ?_
      rintro e w2 ⟨v2, rfl, hv2, hrk, hg⟩
      have HV2 := hideIt hv2
      have H2 := hideIt (And.intro (grown_trans H1.out.1 hg) hrk)
      obtain ⟨a, cap, rfl, _⟩ := hv2.form
      have hs2 := hg.size
      have hlm : ((bs.drop (k + 4)).take m).length ≤ 1000000000000 := Nat.le_trans (List.length_take_le _ _) (by omega)
      clear hv2 hrk hg
      generalize (bs.drop (k + 4)).take m = s at HE2 HV2 hlm
      go_wp2_with fail
      refine (clone_any A _ s w2 HV2.out (by omega)).mono ?_
      rintro e w3 ⟨v3, rfl, ho, hb3⟩
      have HB3 := hideIt hb3
      have HO3 := hideIt (RowIn.of_own ho (fun k hk => HA.out k (by omega)))
      clear ho hb3
      go_wp2
      go_ret2
      unfold HowPost
      rw [HE2.out]
      exact ⟨grown_trans H2.out.1 (grown_below HB3.out _), _, rfl, HO3.out, by rw [← Nat.add_assoc]; exact H2.out.2.next HB3.out⟩
end Go.Proofs.YtohlepbfjgehgaaGreatDoor

/-
  What is proved here: the Reader's row, of texts and of numbers, over this program.
-/
namespace Go.Proofs.YtohlepbfjgehgaaGreatDoor
open Go.RowKit Go.Extern.Stop Go.Stop Go.Extern

def rdMany {α : Type} (one : List UInt8 → Except Int (α × Nat)) : Nat → List UInt8 → Except Int (List α × Nat)
  | 0, _ => .ok ([], 0)
  | n + 1, r => match one r with
    | .error e => .error e
    | .ok (x, c) => match rdMany one n (r.drop c) with
      | .error e => .error e
      | .ok (xs, d) => .ok (x :: xs, c + d)
def rdRow {α : Type} (one : List UInt8 → Except Int (α × Nat)) (r : List UInt8) : Except Int (List α × Nat) :=
  match rdLen 1024 r with
  | .error e => .error e
  | .ok (n, _) => match rdMany one n (r.drop 4) with
    | .error e => .error e
    | .ok (xs, d) => .ok (xs, 4 + d)
/-- what was read ahead -/
def behind {α : Type} (acc : List α) (d : Nat) : Except Int (List α × Nat) → Except Int (List α × Nat)
  | .error e => .error e
  | .ok (ys, d') => .ok (acc ++ ys, d + d')
theorem behind_nil {α : Type} (R : Except Int (List α × Nat)) : behind [] 0 R = R := by
  cases R with
  | error e => rfl
  | ok x => simp [behind]
theorem rdMany_succ {α : Type} (one : List UInt8 → Except Int (α × Nat)) (n : Nat) (r : List UInt8) (acc : List α) (d : Nat) (x : α) (c : Nat) (h : one r = .ok (x, c)) : behind acc d (rdMany one (n + 1) r) = behind (acc ++ [x]) (d + c) (rdMany one n (r.drop c)) := by
  simp only [rdMany, h]
  cases rdMany one n (r.drop c) with
  | error e => rfl
  | ok y => simp [behind, Nat.add_assoc]
theorem rdMany_fail {α : Type} (one : List UInt8 → Except Int (α × Nat)) (n : Nat) (r : List UInt8) (acc : List α) (d : Nat) (e : Int) (h : one r = .error e) : behind acc d (rdMany one (n + 1) r) = .error e := by
  simp only [rdMany, h, behind]
theorem rdLen_ok {r : List UInt8} {most m c : Nat} (h : rdLen most r = .ok (m, c)) : (m ≤ most ∧ c = 4) ∧ 4 ≤ r.length := by
  unfold rdLen at h
  split at h
  · cases h
  · split at h
    · cases h
    · injection h with h; injection h with h1 h2; omega
theorem rdRow_of {α : Type} {one : List UInt8 → Except Int (α × Nat)} {r : List UInt8} {m : Nat} (h : rdLen 1024 r = .ok (m, 4)) : rdRow one r = match behind [] 0 (rdMany one m (r.drop 4)) with | .error e => .error e | .ok (xs, d) => .ok (xs, 4 + d) := by
  unfold rdRow; rw [h, behind_nil]

def isNums (A : Nat → Prop) (w : World) (v : Value) (l : List Int) : Prop := NumsIn w A v l
def isTexts (A : Nat → Prop) (w : World) (v : Value) (l : List (List UInt8)) : Prop := TextsIn w A v l

theorem infoI64 : (Tryz.prog.info? 2).map (fun i => (i.zero, i.size, i.bytes)) = some (some (.int .i64 0), 1, 8) := by kernel_rfl
theorem infoBytes : (Tryz.prog.info? 26).map (fun i => (i.zero, i.size, i.bytes)) = some (some (.slice none 0 0), 1, 24) := by kernel_rfl

theorem own_grown {w w' : World} {B e size n p : Nat} {v : Value} {xs : List Value} (h : w.ownsRow B e size v n xs) (hg : w.grownBy w' (some p)) (hp : p < B) : w'.ownsRow B e size v n xs :=
  h.kept hg (by
    cases hv : v.ownBlock with
    | none => exact Or.inl rfl
    | some g => right; intro e; cases e; have := (h.lt _ hv).1; omega)
theorem grown_then {w w2 w3 : World} {r : Option Nat} (h : w.grownBy w2 r) (hb : Below w.heap.size w2 w3) : w.grownBy w3 r :=
  ⟨hb.os.trans h.os, hb.tape.trans h.tape, hb.output.trans h.output, Nat.le_trans h.size hb.size, fun k hk hr => (hb.block k hk).trans (h.block k hk hr)⟩
/-- the blocks of A that were there -/
def old (A : Nat → Prop) (n : Nat) (b : Nat) : Prop := A b ∧ b < n
theorem ROk.oldOf {w : World} {p : Nat} {A : Nat → Prop} {bs : List UInt8} {k : Nat} (h : ROk w p A bs k) : ROk w p (old A w.heap.size) bs k := h.mono (fun _ a b => ⟨a, b⟩)
theorem ROk.ofOld {w : World} {p n : Nat} {A : Nat → Prop} {bs : List UInt8} {k : Nat} (h : ROk w p (old A n) bs k) : ROk w p A bs k := h.mono (fun _ a _ => a.1)
theorem ROk.past {w w' : World} {p n : Nat} {A : Nat → Prop} {bs : List UInt8} {k : Nat} (h : ROk w p (old A n) bs k) (hb : Below n w w') (hp : p < n) : ROk w' p (old A n) bs k := h.kept (hb.block p hp) (Kept.of_below hb (fun _ a _ => a.2))
theorem numCells_one (l : List Int) : ∀ u ∈ numCells l, u.oneCell' = true := by
  intro u hu; simp [numCells] at hu; obtain ⟨x, _, rfl⟩ := hu; rfl

end Go.Proofs.YtohlepbfjgehgaaGreatDoor

/-
  What is proved here: the Reader's row of texts, over this program.
-/
namespace Go.Proofs.YtohlepbfjgehgaaGreatDoor
open Go.RowKit Go.Extern.Stop Go.Stop Go.Extern

theorem RowIn.over {w w' : World} {A A' : Nat → Prop} {v : Value} {n : Nat} {cs : List Value} (h : RowIn w A v n cs) (hk : Kept A w w') (hA : ∀ k, A k → k < w.heap.size → A' k) : RowIn w' A' v n cs := by
  obtain ⟨a, cap, h1, h2, h3⟩ := h
  refine ⟨a, cap, h1, h2, fun k x hx => ?_⟩
  obtain ⟨b, off, e1, e2, e3⟩ := h3 k x hx
  exact ⟨b, off, e1, hA b e2 (lt_of_cell (a := ⟨b, off + k, none⟩) e3), hk.cell (a := ⟨b, off + k, none⟩) e2 e3⟩

/-- a row of texts, all of it in blocks from B on; the texts' blocks are none of the row's -/
def TRow (w : World) (B : Nat) (v : Value) (acc : List (List UInt8)) : Prop :=
  ∃ vs : List Value, vs.length = acc.length ∧ w.ownsRow B 26 1 v acc.length vs ∧ (∀ u ∈ vs, u.oneCell' = true) ∧ ∀ (i : Nat) (s : List UInt8) (u : Value), acc[i]? = some s → vs[i]? = some u → BytesIn w (fun b => B ≤ b ∧ v.ownBlock ≠ some b) u s
theorem TRow.nil (w : World) (B : Nat) : TRow w B (.slice none 0 0) [] := ⟨[], rfl, World.ownsRow_nil _ _ _ _, (fun _ h => by cases h), fun i s u h => by simp at h⟩
theorem TRow.grown {w w' : World} {B p : Nat} {v : Value} {acc : List (List UInt8)} (h : TRow w B v acc) (hg : w.grownBy w' (some p)) (hp : p < B) : TRow w' B v acc := by
  obtain ⟨vs, h1, h2, h3, h4⟩ := h
  exact ⟨vs, h1, own_grown h2 hg hp, h3, fun i s u a b => (h4 i s u a b).kept (Kept.of_grown hg (fun h => by have := h.1; omega))⟩
theorem TRow.texts {w : World} {B : Nat} {v : Value} {acc : List (List UInt8)} {A : Nat → Prop} (h : TRow w B v acc) (hA : ∀ k, B ≤ k → A k) : TextsIn w A v acc := by
  obtain ⟨vs, h1, h2, h3, h4⟩ := h
  exact ⟨vs, h1, RowIn.of_own h2 hA, fun i s u a b => (h4 i s u a b).mono (fun k hk _ => hA k hk.1)⟩
theorem TRow.push {wr w2 w3 : World} {B : Nat} {v v' u : Value} {acc : List (List UInt8)} {vs : List Value} {x : List UInt8} {t : TypeId}
    (h1 : vs.length = acc.length) (h3 : ∀ u ∈ vs, u.oneCell' = true) (h4 : ∀ (i : Nat) (s : List UInt8) (u : Value), acc[i]? = some s → vs[i]? = some u → BytesIn w2 (fun b => B ≤ b ∧ v.ownBlock ≠ some b) u s) (hB : B ≤ wr.heap.size)
    (hx : BytesIn w2 (wr.heap.size ≤ ·) u x) (hlt : ∀ k, v.ownBlock = some k → k < wr.heap.size)
    (ho : w3.ownsRow B 26 1 v' (acc ++ [x]).length (vs ++ [u])) (hg : (w2.alloc (.cells #[u] t)).grownBy w3 v.ownBlock) (hat : v'.ownBlock = v.ownBlock ∨ v'.ownBlock = some (w2.heap.size + 1)) : TRow w3 B v' (acc ++ [x]) := by
  have hone : u.oneCell' = true := by obtain ⟨a, cap, rfl, _⟩ := hx.form; rfl
  have hk : Kept (fun b => B ≤ b ∧ v.ownBlock ≠ some b) w2 w3 := fun k ⟨_, hk2⟩ hl => by
    rw [hg.block k (by simp; omega) (fun e => hk2 e.symm)]
    exact Below.heap_alloc w2 _ k hl
  have hnew : ∀ b, (B ≤ b ∧ v.ownBlock ≠ some b) → b < w2.heap.size → (B ≤ b ∧ v'.ownBlock ≠ some b) := fun b hb hl => by
    refine ⟨hb.1, ?_⟩
    rcases hat with e | e
    · rw [e]; exact hb.2
    · rw [e]; simp; omega
  refine ⟨vs ++ [u], by simp [h1], ho, ?_, ?_⟩
  · intro y hy
    rcases List.mem_append.1 hy with h | h
    · exact h3 y h
    · simp at h; subst h; exact hone
  · intro i s y hs2 hy
    by_cases hi : i < acc.length
    · rw [List.getElem?_append_left hi] at hs2
      rw [List.getElem?_append_left (by omega)] at hy
      exact RowIn.over (h4 i s y hs2 hy) hk hnew
    · rw [List.getElem?_append_right (by omega)] at hs2 hy
      have e0 : i - acc.length = 0 := by
        rcases Nat.eq_zero_or_pos (i - acc.length) with h | h
        · exact h
        · rw [List.getElem?_eq_none (by simp; omega)] at hs2; cases hs2
      rw [e0] at hs2
      rw [h1, e0] at hy
      simp at hs2 hy
      subst hs2 hy
      have hx2 : BytesIn w2 (fun b => B ≤ b ∧ v.ownBlock ≠ some b) u x := hx.mono (fun b hb _ => ⟨by omega, fun e => by have := hlt b e; omega⟩)
      exact RowIn.over hx2 hk hnew

end Go.Proofs.YtohlepbfjgehgaaGreatDoor

/-
  What is proved here: the Reader's ways to read, and next, which is handed one, over this program.
-/
namespace Go.Proofs.YtohlepbfjgehgaaGreatDoor
open Go.RowKit Go.Extern.Stop Go.Stop Go.Extern

/-- what next leaves -/
def NextPost {α : Type} (w : World) (p : Nat) (A : Nat → Prop) (bs : List UInt8) (k : Nat) (s : ByteArray) (R : Except Int (α × Nat)) (rep : World → Value → α → Prop) (zero : Value) (e : Ending) (w' : World) : Prop :=
  w.grownBy w' (some p) ∧ match R with
    | .error n => e = .returned zero ∧ RBad w' p A n s k
    | .ok (x, c) => ∃ v, e = .returned v ∧ rep w' v x ∧ ROk w' p A bs (k + c)

theorem wrapped_bad {w : World} {p : Nat} {A : Nat → Prop} {bs : List UInt8} {k' : Nat} {n : Int} {s : ByteArray} {k : Int} (h : ROk w p A bs k') (hA : ∀ k, w.heap.size ≤ k → A k) :
    RBad ((w.setCell ⟨p, 2, none⟩ (.iface 167 (.pointer (some ⟨w.heap.size, 0, none⟩)))).alloc (.cells #[.string s, .int .i64 k, .iface 70 (.int .i64 n)] 171)) p A n s k ∧
      w.grownBy ((w.setCell ⟨p, 2, none⟩ (.iface 167 (.pointer (some ⟨w.heap.size, 0, none⟩)))).alloc (.cells #[.string s, .int .i64 k, .iface 70 (.int .i64 n)] 171)) (some p) := by
  have hp := h.lt
  obtain ⟨h0, hl, v, h1, h2, h3, h4⟩ := h
  have hsz : (w.setCell ⟨p, 2, none⟩ (.iface 167 (.pointer (some ⟨w.heap.size, 0, none⟩)))).heap.size = w.heap.size := size_set ..
  refine ⟨⟨_, ?_, w.heap.size, rfl, hA _ (Nat.le_refl _), ?_, ?_, ?_⟩, grown_trans (grown_set (grown_refl w (some p)) 2 _) (World.grownBy_alloc _ _ (some p))⟩
  · rw [World.cell?_alloc_lt _ _ _ (by rw [hsz]; exact hp)]; exact World.cell?_setCell_same _ _ _ h3
  · rw [World.cell?_alloc_at _ _ _ _ hsz.symm]; rfl
  · rw [World.cell?_alloc_at _ _ _ _ hsz.symm]; rfl
  · rw [World.cell?_alloc_at _ _ _ _ hsz.symm]; rfl

set_option maxHeartbeats 4000000 in
theorem nextN_any (p : Nat) (A : Nat → Prop) (bs : List UInt8) (k : Nat) (s : ByteArray) (R : Except Int (Int × Nat)) (rep : World → Value → Int → Prop) (w : World) (hr : ROk w p A bs k) (hA : ∀ k, w.heap.size ≤ k → A k)
    (hhow : Calls Tryz.prog 80 #[.pointer (some ⟨p, 0, none⟩)] w (HowPost w p A bs k R rep)) :
    Calls Tryz.prog 79 #[.pointer (some ⟨p, 0, none⟩), .string s, .func (.func 80) #[.pointer (some ⟨p, 0, none⟩)] #[]] w (NextPost w p A bs k s R rep (.int .i64 0)) := by
  have HH := hideIt hhow
  have HA := hideIt hA
  obtain ⟨_, hk, _, h1, h2, h3, _⟩ := hr
  clear hhow hA hk
  match R with
  | .error n =>
    go_enter Tryz.func79, Tryz.ntmps79
    go_wp2_with fail
    refine HH.out.mono ?_
    rintro e w1 ⟨hg, hn, v, k', rfl, hrk⟩
    have H1 := hideIt (And.intro hg hrk)
    have hs := hg.size
    have c2 : w1.cell? ⟨p, 2, none⟩ = some .nilIface := hrk.2.2.choose_spec.2.2.1
    have f2 : w1.frozen? ⟨p, 2, none⟩ = false := hrk.1 2
    have hpl := hrk.lt
    clear hg hrk h1 h2 h3
    go_wp2_with fail
    refine (Of_err n hn w1).mono ?_
    rintro e w2 ⟨rfl, rfl⟩
    go_wp2_with fail
    refine (Wrap_some 70 (.int .i64 n) s k w2).mono ?_
    rintro e w3 ⟨rfl, rfl⟩
    go_wp2
    go_ret
    have h4 := wrapped_bad (n := n) (s := s) (k := k) H1.out.2 (fun j hj => HA.out j (by omega))
    exact ⟨grown_trans H1.out.1 h4.2, rfl, h4.1⟩
  | .ok (x, c) =>
    go_enter Tryz.func79, Tryz.ntmps79
    go_wp2_with fail
    refine HH.out.mono ?_
    rintro e w1 ⟨hg, v, rfl, hv, hrk⟩
    have H1 := hideIt (And.intro hg (And.intro hv hrk))
    clear hg hv hrk
    go_wp2
    go_ret
    exact ⟨H1.out.1, _, rfl, H1.out.2.1, H1.out.2.2⟩
theorem nextN_bad (p : Nat) (A : Nat → Prop) (n : Int) (s0 : ByteArray) (k : Int) (s : ByteArray) (f : Value) (w : World) (hr : RBad w p A n s0 k) :
    Calls Tryz.prog 79 #[.pointer (some ⟨p, 0, none⟩), .string s, f] w fun e w' => e = .returned (.int .i64 0) ∧ w' = w := by
  obtain ⟨v, h1, h2⟩ := hr
  obtain ⟨t, x, rfl⟩ := h2.iface
  clear h2
  go_enter Tryz.func79, Tryz.ntmps79
  go_wp2
  go_ret
  exact ⟨rfl, rfl⟩

set_option maxHeartbeats 4000000 in
theorem nextT_any (p : Nat) (A : Nat → Prop) (bs : List UInt8) (k : Nat) (s : ByteArray) (R : Except Int (List UInt8 × Nat)) (rep : World → Value → List UInt8 → Prop) (w : World) (hr : ROk w p A bs k) (hA : ∀ k, w.heap.size ≤ k → A k)
    (hhow : Calls Tryz.prog 83 #[.pointer (some ⟨p, 0, none⟩)] w (HowPost w p A bs k R rep)) :
    Calls Tryz.prog 82 #[.pointer (some ⟨p, 0, none⟩), .string s, .func (.func 83) #[.pointer (some ⟨p, 0, none⟩)] #[]] w (NextPost w p A bs k s R rep (.slice none 0 0)) := by
  have HH := hideIt hhow
  have HA := hideIt hA
  obtain ⟨_, hk, _, h1, h2, h3, _⟩ := hr
  clear hhow hA hk
  match R with
  | .error n =>
    go_enter Tryz.func82, Tryz.ntmps82
    go_wp2_with fail
    refine HH.out.mono ?_
    rintro e w1 ⟨hg, hn, v, k', rfl, hrk⟩
    have H1 := hideIt (And.intro hg hrk)
    have hs := hg.size
    have c2 : w1.cell? ⟨p, 2, none⟩ = some .nilIface := hrk.2.2.choose_spec.2.2.1
    have f2 : w1.frozen? ⟨p, 2, none⟩ = false := hrk.1 2
    have hpl := hrk.lt
    clear hg hrk h1 h2 h3
    go_wp2_with fail
    refine (Of_err n hn w1).mono ?_
    rintro e w2 ⟨rfl, rfl⟩
    go_wp2_with fail
    refine (Wrap_some 70 (.int .i64 n) s k w2).mono ?_
    rintro e w3 ⟨rfl, rfl⟩
    go_wp2
    go_ret
    have h4 := wrapped_bad (n := n) (s := s) (k := k) H1.out.2 (fun j hj => HA.out j (by omega))
    exact ⟨grown_trans H1.out.1 h4.2, rfl, h4.1⟩
  | .ok (x, c) =>
    go_enter Tryz.func82, Tryz.ntmps82
    go_wp2_with fail
    refine HH.out.mono ?_
    rintro e w1 ⟨hg, v, rfl, hv, hrk⟩
    have H1 := hideIt (And.intro hg (And.intro hv hrk))
    clear hg hv hrk
    go_wp2
    go_ret
    exact ⟨H1.out.1, _, rfl, H1.out.2.1, H1.out.2.2⟩
theorem nextT_bad (p : Nat) (A : Nat → Prop) (n : Int) (s0 : ByteArray) (k : Int) (s : ByteArray) (f : Value) (w : World) (hr : RBad w p A n s0 k) :
    Calls Tryz.prog 82 #[.pointer (some ⟨p, 0, none⟩), .string s, f] w fun e w' => e = .returned (.slice none 0 0) ∧ w' = w := by
  obtain ⟨v, h1, h2⟩ := hr
  obtain ⟨t, x, rfl⟩ := h2.iface
  clear h2
  go_enter Tryz.func82, Tryz.ntmps82
  go_wp2
  go_ret
  exact ⟨rfl, rfl⟩

set_option maxHeartbeats 4000000 in
theorem nextI_any (p : Nat) (A : Nat → Prop) (bs : List UInt8) (k : Nat) (s : ByteArray) (q q2 : Addr) (R : Except Int (Int × Nat)) (rep : World → Value → Int → Prop) (w : World) (hr : ROk w p A bs k) (hA : ∀ k, w.heap.size ≤ k → A k)
    (hhow : Calls Tryz.prog 108 #[.pointer (some q), .pointer (some q2)] w (HowPost w p A bs k R rep)) :
    Calls Tryz.prog 107 #[.pointer (some ⟨p, 0, none⟩), .string s, .func (.func 108) #[] #[.pointer (some q), .pointer (some q2)]] w (NextPost w p A bs k s R rep (.int .i64 0)) := by
  have HH := hideIt hhow
  have HA := hideIt hA
  obtain ⟨_, hk, _, h1, h2, h3, _⟩ := hr
  clear hhow hA hk
  match R with
  | .error n =>
    go_enter Tryz.func107, Tryz.ntmps107
    go_wp2_with fail
    refine HH.out.mono ?_
    rintro e w1 ⟨hg, hn, v, k', rfl, hrk⟩
    have H1 := hideIt (And.intro hg hrk)
    have hs := hg.size
    have c2 : w1.cell? ⟨p, 2, none⟩ = some .nilIface := hrk.2.2.choose_spec.2.2.1
    have f2 : w1.frozen? ⟨p, 2, none⟩ = false := hrk.1 2
    have hpl := hrk.lt
    clear hg hrk h1 h2 h3
    go_wp2_with fail
    refine (Of_err n hn w1).mono ?_
    rintro e w2 ⟨rfl, rfl⟩
    go_wp2_with fail
    refine (Wrap_some 70 (.int .i64 n) s k w2).mono ?_
    rintro e w3 ⟨rfl, rfl⟩
    go_wp2
    go_ret
    have h4 := wrapped_bad (n := n) (s := s) (k := k) H1.out.2 (fun j hj => HA.out j (by omega))
    exact ⟨grown_trans H1.out.1 h4.2, rfl, h4.1⟩
  | .ok (x, c) =>
    go_enter Tryz.func107, Tryz.ntmps107
    go_wp2_with fail
    refine HH.out.mono ?_
    rintro e w1 ⟨hg, v, rfl, hv, hrk⟩
    have H1 := hideIt (And.intro hg (And.intro hv hrk))
    clear hg hv hrk
    go_wp2
    go_ret
    exact ⟨H1.out.1, _, rfl, H1.out.2.1, H1.out.2.2⟩
theorem nextI_bad (p : Nat) (A : Nat → Prop) (n : Int) (s0 : ByteArray) (k : Int) (s : ByteArray) (f : Value) (w : World) (hr : RBad w p A n s0 k) :
    Calls Tryz.prog 107 #[.pointer (some ⟨p, 0, none⟩), .string s, f] w fun e w' => e = .returned (.int .i64 0) ∧ w' = w := by
  obtain ⟨v, h1, h2⟩ := hr
  obtain ⟨t, x, rfl⟩ := h2.iface
  clear h2
  go_enter Tryz.func107, Tryz.ntmps107
  go_wp2
  go_ret
  exact ⟨rfl, rfl⟩
end Go.Proofs.YtohlepbfjgehgaaGreatDoor

/-
  What is proved here: wire's Reader: Num, Int, Text, List, Nums and End, over this program.
-/
namespace Go.Proofs.YtohlepbfjgehgaaGreatDoor
open Go.RowKit Go.Extern.Stop Go.Stop Go.Extern

def rdInt (most : Int) (r : List UInt8) : Except Int (Int × Nat) :=
  match rdNum r with
  | .error e => .error e
  | .ok (n, c) => if n < 0 then .error 23 else if most < n then .error 2 else .ok (n, c)

set_option maxHeartbeats 4000000 in
theorem int1_any (p : Nat) (q q2 : Addr) (A : Nat → Prop) (most : Int) (bs : List UInt8) (k : Nat) (w : World) (hr : ROk w p A bs k) (hp : ¬ A p) (hl : bs.length ≤ 1000000000000) (hq : w.cell? q = some (.pointer (some ⟨p, 0, none⟩))) (hq2 : w.cell? q2 = some (.int .i64 most)) (hne : q2.block ≠ p) :
    Calls Tryz.prog 108 #[.pointer (some q), .pointer (some q2)] w (HowPost w p A bs k (rdInt most (bs.drop k)) isInt) := by
  have HR := hideIt (num_any p A bs k w hr hp hl)
  have HQ := hideIt hq2
  have HE : Hid (rdInt most (bs.drop k) = match rdNum (bs.drop k) with | .error e => .error e | .ok (n, c) => if n < 0 then .error 23 else if most < n then .error 2 else .ok (n, c)) := rfl
  generalize rdInt most (bs.drop k) = RI at HE
  generalize rdNum (bs.drop k) = R at HE HR
  clear hr hp hq2
  match R with
  | .error n =>
    have HE2 : Hid (RI = .error n) := HE.out
    go_enter Tryz.func108, Tryz.ntmps108
    go_wp2_with fail
    refine HR.out.mono ?_
    rintro e w1 ⟨hg, hn, v, k', rfl, hrk⟩
    have H1 := hideIt (And.intro hg (And.intro hn hrk))
    clear hg hrk
    go_wp2
    go_ret2
    unfold HowPost
    rw [HE2.out]
    exact ⟨H1.out.1, H1.out.2.1, _, k', rfl, H1.out.2.2⟩
  | .ok (x, c) =>
    have HE2 : Hid (RI = if x < 0 then .error 23 else if most < x then .error 2 else .ok (x, c)) := HE.out
    by_cases h0 : x < 0
    · go_enter Tryz.func108, Tryz.ntmps108
      go_wp2_with fail
      refine HR.out.mono ?_
      rintro e w1 ⟨hg, v, rfl, hv, hrk⟩
      have hv2 : v = .int .i64 x := hv
      subst hv2
      have H1 := hideIt (And.intro hg hrk)
      clear hg hrk hv
      go_wp2
      go_ret2
      unfold HowPost
      rw [HE2.out, if_pos h0]
      exact ⟨H1.out.1, rfl, _, _, rfl, H1.out.2⟩
    · by_cases h1 : most < x
      · go_enter Tryz.func108, Tryz.ntmps108
        go_wp2_with fail
        refine HR.out.mono ?_
        rintro e w1 ⟨hg, v, rfl, hv, hrk⟩
        have hv2 : v = .int .i64 x := hv
        subst hv2
        have H1 := hideIt (And.intro hg hrk)
        have hq3 : w1.cell? q2 = some (.int .i64 most) := hg.cell HQ.out (fun e => by cases e; exact hne rfl)
        clear hg hrk hv
        go_wp2
        go_ret2
        unfold HowPost
        rw [HE2.out, if_neg (show ¬ x < 0 by omega), if_pos (show most < x by omega)]
        exact ⟨H1.out.1, rfl, _, _, rfl, H1.out.2⟩
      · go_enter Tryz.func108, Tryz.ntmps108
        go_wp2_with fail
        refine HR.out.mono ?_
        rintro e w1 ⟨hg, v, rfl, hv, hrk⟩
        have hv2 : v = .int .i64 x := hv
        subst hv2
        have H1 := hideIt (And.intro hg hrk)
        have hq3 : w1.cell? q2 = some (.int .i64 most) := hg.cell HQ.out (fun e => by cases e; exact hne rfl)
        clear hg hrk hv
        go_wp2
        go_ret2
        unfold HowPost
        rw [HE2.out, if_neg (show ¬ x < 0 by omega), if_neg (show ¬ most < x by omega)]
        exact ⟨H1.out.1, _, rfl, rfl, H1.out.2⟩
end Go.Proofs.YtohlepbfjgehgaaGreatDoor

/-
  What is proved here: wire's Reader: Num, Int, Text, List, Nums and End, as steps from state to state, over this program.
-/
namespace Go.Proofs.YtohlepbfjgehgaaGreatDoor
open Go.RowKit Go.Extern.Stop Go.Stop Go.Extern

/-- a Reader's state: its place, or its first error -/
abbrev RS := Except (Int × ByteArray × Int) Nat
def RSt (w : World) (p : Nat) (A : Nat → Prop) (bs : List UInt8) : RS → Prop
  | .ok k => ROk w p A bs k
  | .error (n, s, j) => RBad w p A n s j
theorem RSt.kept {w w' : World} {p : Nat} {A : Nat → Prop} {bs : List UInt8} {st : RS} (h : RSt w p A bs st) (hp : w'.heap[p]? = w.heap[p]?) (hk : Kept A w w') : RSt w' p A bs st := by
  match st, h with
  | .ok k, h => exact ROk.kept h hp hk
  | .error (n, s, j), h => exact RBad.kept h hp hk
theorem RSt.lt {w : World} {p : Nat} {A : Nat → Prop} {bs : List UInt8} {st : RS} (h : RSt w p A bs st) : p < w.heap.size := by
  match st, h with
  | .ok k, h => exact ROk.lt h
  | .error (n, s, j), h => exact RBad.lt h
theorem RSt.next {w w' : World} {p : Nat} {A : Nat → Prop} {bs : List UInt8} {st : RS} (h : RSt w p A bs st) (hb : Below w.heap.size w w') : RSt w' p A bs st := h.kept (hb.block p h.lt) (Kept.of_all hb)

/-- what is read, and the state behind it -/
def stepR {α : Type} (d : α) (s : ByteArray) (rd : List UInt8 → Except Int (α × Nat)) (bs : List UInt8) : RS → α × RS
  | .error b => (d, .error b)
  | .ok k => match rd (bs.drop k) with
    | .error n => (d, .error (n, s, (k : Int)))
    | .ok (x, c) => (x, .ok (k + c))
def ReadPost {α : Type} (w : World) (p : Nat) (A : Nat → Prop) (bs : List UInt8) (rep : World → Value → α → Prop) (r : α × RS) (e : Ending) (w' : World) : Prop :=
  ∃ v, e = .returned v ∧ rep w' v r.1 ∧ RSt w' p A bs r.2 ∧ w.grownBy w' (some p)
theorem ReadPost.of_next {α : Type} {w w0 : World} {p : Nat} {A : Nat → Prop} {bs : List UInt8} {k : Nat} {s : ByteArray} {rd : List UInt8 → Except Int (α × Nat)} {rep : World → Value → α → Prop} {d : α} {zero : Value} {e : Ending} {w' : World}
    (h : NextPost w p A bs k s (rd (bs.drop k)) rep zero e w') (hd : ∀ w, rep w zero d) (hg : w0.grownBy w (some p)) : ReadPost w0 p A bs rep (stepR d s rd bs (.ok k)) e w' := by
  obtain ⟨h1, h2⟩ := h
  cases hR : rd (bs.drop k) with
  | error n =>
    have e : stepR d s rd bs (.ok k) = (d, .error (n, s, (k : Int))) := by simp only [stepR, hR]
    rw [hR] at h2
    rw [e]
    exact ⟨zero, h2.1, hd _, h2.2, grown_trans hg h1⟩
  | ok x =>
    obtain ⟨x, c⟩ := x
    have e : stepR d s rd bs (.ok k) = (x, .ok (k + c)) := by simp only [stepR, hR]
    rw [hR] at h2
    rw [e]
    obtain ⟨v, a, b, c⟩ := h2
    exact ⟨v, a, b, c, grown_trans hg h1⟩
theorem ReadPost.of_bad {α : Type} {w w0 : World} {p : Nat} {A : Nat → Prop} {bs : List UInt8} {n : Int} {s0 : ByteArray} {j : Int} {s : ByteArray} {rd : List UInt8 → Except Int (α × Nat)} {rep : World → Value → α → Prop} {d : α} {zero : Value} {e : Ending} {w' : World}
    (h : e = .returned zero ∧ w' = w) (hr : RBad w p A n s0 j) (hd : ∀ w, rep w zero d) (hg : w0.grownBy w (some p)) : ReadPost w0 p A bs rep (stepR d s rd bs (.error (n, s0, j))) e w' := by
  obtain ⟨rfl, rfl⟩ := h
  exact ⟨zero, rfl, hd _, hr, hg⟩
theorem TextsIn.nil (w : World) (A : Nat → Prop) : TextsIn w A (.slice none 0 0) [] := ⟨[], rfl, ⟨none, 0, rfl, (fun _ => ⟨rfl, rfl, rfl⟩), fun k x hx => by simp at hx⟩, fun k s u h => by simp at h⟩
theorem NumsIn.nil (w : World) (A : Nat → Prop) : NumsIn w A (.slice none 0 0) [] := ⟨none, 0, rfl, (fun _ => ⟨rfl, rfl, rfl⟩), fun k x hx => by simp [numCells] at hx⟩
def sNum : ByteArray := ⟨#[110, 117, 109]⟩
def sInt : ByteArray := ⟨#[105, 110, 116]⟩
def sText : ByteArray := ⟨#[116, 101, 120, 116]⟩
def sList : ByteArray := ⟨#[108, 105, 115, 116]⟩
def sNums : ByteArray := ⟨#[110, 117, 109, 115]⟩
def sEnd : ByteArray := ⟨#[101, 110, 100]⟩

set_option maxHeartbeats 4000000 in
theorem rNum_any (p : Nat) (A : Nat → Prop) (bs : List UInt8) (st : RS) (w : World) (hr : RSt w p A bs st) (hp : ¬ A p) (hA : ∀ k, w.heap.size ≤ k → A k) (hl : bs.length ≤ 1000000000000) :
    Calls Tryz.prog 41 #[.pointer (some ⟨p, 0, none⟩)] w (ReadPost w p A bs isInt (stepR (0 : Int) sNum rdNum bs st)) := by
  have hm := hmf
  have HN : Hid (Calls Tryz.prog 79 #[.pointer (some ⟨p, 0, none⟩), .string sNum, .func (.func 80) #[.pointer (some ⟨p, 0, none⟩)] #[]] w (ReadPost w p A bs isInt (stepR (0 : Int) sNum rdNum bs st))) := by
    have hb : Below w.heap.size w w := Below.refl _ _
    have hr2 := hr.next hb
    match st, hr2 with
    | .ok k, hr2 =>
      exact (nextN_any p A bs k _ _ isInt _ hr2 (fun k hk => hA k (by have := hb.size; omega)) (num_any p A bs k _ hr2 hp hl)).mono (fun e w' h => ReadPost.of_next h (fun _ => rfl) (grown_below hb _))
    | .error (n, s0, j), hr2 =>
      exact (nextN_bad p A n s0 j _ _ _ hr2).mono (fun e w' h => ReadPost.of_bad h hr2 (fun _ => rfl) (grown_below hb _))
  clear hr hp hA
  go_enter Tryz.func41, Tryz.ntmps41
  go_wp2_with fail
  refine HN.out.mono ?_
  rintro e w1 ⟨v, rfl, h1⟩
  have H1 := hideIt h1
  clear h1
  go_wp2
  go_ret
  exact ⟨_, rfl, H1.out⟩

set_option maxHeartbeats 4000000 in
theorem rText_any (p : Nat) (A : Nat → Prop) (bs : List UInt8) (st : RS) (w : World) (hr : RSt w p A bs st) (hp : ¬ A p) (hA : ∀ k, w.heap.size ≤ k → A k) (hl : bs.length ≤ 1000000000000) :
    Calls Tryz.prog 46 #[.pointer (some ⟨p, 0, none⟩)] w (ReadPost w p A bs (isText A) (stepR [] sText rdText bs st)) := by
  have hm := hmf
  have HN : Hid (Calls Tryz.prog 82 #[.pointer (some ⟨p, 0, none⟩), .string sText, .func (.func 83) #[.pointer (some ⟨p, 0, none⟩)] #[]] w (ReadPost w p A bs (isText A) (stepR [] sText rdText bs st))) := by
    have hb : Below w.heap.size w w := Below.refl _ _
    have hr2 := hr.next hb
    match st, hr2 with
    | .ok k, hr2 =>
      exact (nextT_any p A bs k _ _ (isText A) _ hr2 (fun k hk => hA k (by have := hb.size; omega)) (text_any p A A bs k _ hr2 hp hA hl)).mono (fun e w' h => ReadPost.of_next h (fun _ => BytesIn.nil _ _) (grown_below hb _))
    | .error (n, s0, j), hr2 =>
      exact (nextT_bad p A n s0 j _ _ _ hr2).mono (fun e w' h => ReadPost.of_bad h hr2 (fun _ => BytesIn.nil _ _) (grown_below hb _))
  clear hr hp hA
  go_enter Tryz.func46, Tryz.ntmps46
  go_wp2_with fail
  refine HN.out.mono ?_
  rintro e w1 ⟨v, rfl, h1⟩
  have H1 := hideIt h1
  clear h1
  go_wp2
  go_ret
  exact ⟨_, rfl, H1.out⟩

set_option maxHeartbeats 4000000 in
theorem rInt_any (p : Nat) (A : Nat → Prop) (most : Int) (bs : List UInt8) (st : RS) (w : World) (hr : RSt w p A bs st) (hp : ¬ A p) (hA : ∀ k, w.heap.size ≤ k → A k) (hl : bs.length ≤ 1000000000000) :
    Calls Tryz.prog 81 #[.pointer (some ⟨p, 0, none⟩), .int .i64 most] w (ReadPost w p A bs isInt (stepR (0 : Int) sInt (rdInt most) bs st)) := by
  have hm := hmf
  have HN : Hid (Calls Tryz.prog 107 #[.pointer (some ⟨p, 0, none⟩), .string sInt, .func (.func 108) #[] #[.pointer (some ⟨w.heap.size, 0, none⟩), .pointer (some ⟨w.heap.size + 1, 0, none⟩)]] ((w.alloc (.cells #[.pointer (some ⟨p, 0, none⟩)] 87)).alloc (.cells #[.int .i64 most] 3)) (ReadPost w p A bs isInt (stepR (0 : Int) sInt (rdInt most) bs st))) := by
    have hb : Below w.heap.size w ((w.alloc (.cells #[.pointer (some ⟨p, 0, none⟩)] 87)).alloc (.cells #[.int .i64 most] 3)) := ((Below.refl _ _).alloc (Nat.le_refl _) _).alloc (by simp) _
    have hr2 := hr.next hb
    match st, hr2 with
    | .ok k, hr2 =>
      exact (nextI_any p A bs k _ _ _ _ isInt _ hr2 (fun k hk => hA k (by have := hb.size; omega)) (int1_any p _ _ A most bs k _ hr2 hp hl (by rw [World.cell?_alloc_lt _ _ _ (by simp), World.cell?_alloc_at _ _ _ _ rfl]; rfl) (by rw [World.cell?_alloc_at _ _ _ _ (by simp)]; rfl) (by have := hr.lt; simp; omega))).mono (fun e w' h => ReadPost.of_next h (fun _ => rfl) (grown_below hb _))
    | .error (n, s0, j), hr2 =>
      exact (nextI_bad p A n s0 j _ _ _ hr2).mono (fun e w' h => ReadPost.of_bad h hr2 (fun _ => rfl) (grown_below hb _))
  clear hr hp hA
  go_enter Tryz.func81, Tryz.ntmps81
  go_wp2_with fail
  refine HN.out.mono ?_
  rintro e w1 ⟨v, rfl, h1⟩
  have H1 := hideIt h1
  clear h1
  go_wp2
  go_ret
  exact ⟨_, rfl, H1.out⟩

/-- what End answers: the number, the place's name and the place; or nothing -/
def endOf (bs : List UInt8) : RS → Option (Int × ByteArray × Int)
  | .error b => some b
  | .ok k => if k < bs.length then some (22, sEnd, (k : Int)) else none
/-- an error of one step, or none -/
def isErr (A : Nat → Prop) (w : World) (v : Value) : Option (Int × ByteArray × Int) → Prop
  | none => v = .nilIface
  | some (n, s, j) => One w A v n s j

set_option maxHeartbeats 4000000 in
theorem rEnd_any (p : Nat) (A : Nat → Prop) (bs : List UInt8) (st : RS) (w : World) (hr : RSt w p A bs st) (hA : ∀ k, w.heap.size ≤ k → A k) (hl : bs.length ≤ 1000000000000) :
    Calls Tryz.prog 47 #[.pointer (some ⟨p, 0, none⟩)] w fun e w' => ∃ v, e = .returned v ∧ isErr A w' v (endOf bs st) ∧ Below w.heap.size w w' := by
  match st, hr with
  | .error (n, s, j), hr =>
    obtain ⟨v, h1, h2⟩ := hr
    have HO := hideIt h2
    obtain ⟨t, x, rfl⟩ := h2.iface
    clear h2
    go_enter Tryz.func47, Tryz.ntmps47
    go_wp2
    go_ret
    exact ⟨_, rfl, HO.out, Below.refl _ _⟩
  | .ok k, hr =>
    have hpl := ROk.lt hr
    obtain ⟨_, hk, v, h1, h2, h3, h4⟩ := hr
    obtain ⟨a, cap, rfl⟩ : ∃ a cap, v = .slice a bs.length cap := by
      rcases h4 with ⟨rfl, rfl⟩ | ⟨g, cap, rfl, _⟩
      · exact ⟨_, _, rfl⟩
      · exact ⟨_, _, rfl⟩
    clear h4
    by_cases hlt : k < bs.length
    · have HE : Hid (endOf bs (.ok k) = some (22, sEnd, (k : Int))) := if_pos hlt
      have hlt2 : (k : Int) < (bs.length : Int) := by omega
      go_enter Tryz.func47, Tryz.ntmps47
      go_wp2
      go_region
      all_goals
        go_wp2
        go_region_with (first | (go_at_call 38; refine (Of_err 22 (by decide) _).mono ?_; rintro e w1 ⟨rfl, rfl⟩) | (go_at_call 73; refine (Wrap_some 70 (.int .i64 22) _ _ _).mono ?_; rintro e w2 ⟨rfl, rfl⟩))
        all_goals
          go_wp2
          go_ret
          rw [HE.out]
          have hb2 : Below w.heap.size w (w.alloc (.cells #[.string sEnd, .int .i64 k, .iface 70 (.int .i64 22)] 171)) := (Below.refl _ _).alloc (Nat.le_refl _) _
          refine ⟨_, rfl, ⟨w.heap.size, rfl, hA _ (Nat.le_refl _), ?_, ?_, ?_⟩, ⟨hb2.os, hb2.tape, hb2.output, hb2.size, hb2.block⟩⟩
          · show World.cell? (World.alloc _ _) _ = _
            rw [World.cell?_alloc_at _ _ _ _ rfl]; rfl
          · show World.cell? (World.alloc _ _) _ = _
            rw [World.cell?_alloc_at _ _ _ _ rfl]; rfl
          · show World.cell? (World.alloc _ _) _ = _
            rw [World.cell?_alloc_at _ _ _ _ rfl]; rfl
    · have HE : Hid (endOf bs (.ok k) = none) := if_neg hlt
      have hlt2 : ¬ (k : Int) < (bs.length : Int) := by omega
      go_enter Tryz.func47, Tryz.ntmps47
      go_wp2
      go_region
      all_goals
        go_wp2
        go_ret
        rw [HE.out]
        exact ⟨_, rfl, rfl, below_drew w⟩
end Go.Proofs.YtohlepbfjgehgaaGreatDoor
