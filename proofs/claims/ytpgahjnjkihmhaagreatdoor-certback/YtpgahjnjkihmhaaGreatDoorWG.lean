/-
  What is proved here: wire's Writer: Bytes behind an error; wire's Reader in memory: take and highestFirst, over this program.
-/
import Derived.Test.YtpgahjnjkihmhaaGreatDoorWF
import Derived.Laws.Bits64b
namespace Go.Proofs.YtpgahjnjkihmhaaGreatDoor
open Go.RowKit Go.Extern.Stop Go.Stop Go.Extern

set_option maxHeartbeats 4000000 in
theorem wBytes_bad (p : Nat) (A : Nat → Prop) (bs : List UInt8) (w : World) (hw : WBad w p A bs) :
    Calls Tryz.prog 15 #[.pointer (some ⟨p, 0, none⟩)] w fun e w' => ∃ v, e = .returned (.tuple #[.slice none 0 0, v]) ∧ One w' A v 2 ⟨#[119, 114, 105, 116, 101]⟩ bs.length ∧ Below w.heap.size w w' := by
  obtain ⟨v, h0, h1⟩ := hw
  have HO := hideIt h1
  obtain ⟨t, x, rfl⟩ := h1.iface
  clear h1
  go_enter Tryz.func15, Tryz.ntmps15
  go_wp2
  go_region
  all_goals
    go_wp2
    go_ret2
    exact ⟨_, rfl, HO.out.kept (Kept.of_all (below_drew w)), below_drew w⟩

/-- the reader's own bytes -/
def RBytes (w : World) (A : Nat → Prop) (v : Value) (bs : List UInt8) : Prop :=
  (v = .slice none 0 0 ∧ bs = []) ∨ ∃ g cap, v = .slice (some ⟨g, 0, none⟩) bs.length cap ∧ bs.length ≤ cap ∧ ∀ k x, bs[k]? = some x → A g ∧ w.cell? ⟨g, k, none⟩ = some (.int .u8 x.toNat)
theorem RBytes.kept {w w' : World} {A : Nat → Prop} {v : Value} {bs : List UInt8} (h : RBytes w A v bs) (hk : Kept A w w') : RBytes w' A v bs := by
  rcases h with h | ⟨g, cap, h1, h3, h4⟩
  · exact Or.inl h
  · exact Or.inr ⟨g, cap, h1, h3, fun k x hx => ⟨(h4 k x hx).1, hk.cell (a := ⟨g, k, none⟩) (h4 k x hx).1 (h4 k x hx).2⟩⟩
theorem RBytes.mono {w : World} {A A' : Nat → Prop} {v : Value} {bs : List UInt8} (h : RBytes w A v bs) (hA : ∀ k, A k → k < w.heap.size → A' k) : RBytes w A' v bs := by
  rcases h with h | ⟨g, cap, h1, h3, h4⟩
  · exact Or.inl h
  · exact Or.inr ⟨g, cap, h1, h3, fun k x hx => ⟨hA g (h4 k x hx).1 (lt_of_cell (a := ⟨g, k, none⟩) (h4 k x hx).2), (h4 k x hx).2⟩⟩
theorem RBytes.of_own {w : World} {A : Nat → Prop} {B : Nat} {v : Value} {bs : List UInt8} (h : w.ownsRow B 5 1 v bs.length (Lib.byteCells bs)) (hA : ∀ k, B ≤ k → k < w.heap.size → A k) : RBytes w A v bs := by
  have hc := h
  obtain ⟨h1, h2⟩ := h
  rcases h2 with ⟨rfl, h3⟩ | ⟨g, cap, cur, rfl, hg, hh, r1, r2⟩
  · exact Or.inl ⟨rfl, List.eq_nil_of_length_eq_zero h3⟩
  · refine Or.inr ⟨g, cap, rfl, r1, fun k x hx => ⟨hA g hg (Array.getElem?_eq_some_iff.1 hh).1, ?_⟩⟩
    have := hc.cells (g := g) rfl k (.int .u8 x.toNat) (by simp [Lib.byteCells, hx])
    rw [addr_add, Nat.zero_add] at this; exact this
/-- a Reader at p of the bytes bs, at a place -/
def ROk (w : World) (p : Nat) (A : Nat → Prop) (bs : List UInt8) (k : Nat) : Prop :=
  (∀ j, w.frozen? ⟨p, j, none⟩ = false) ∧ k ≤ bs.length ∧ ∃ v, w.cell? ⟨p, 0, none⟩ = some v ∧ w.cell? ⟨p, 1, none⟩ = some (.int .i64 k) ∧ w.cell? ⟨p, 2, none⟩ = some .nilIface ∧ RBytes w A v bs
/-- a Reader at p that met an error -/
def RBad (w : World) (p : Nat) (A : Nat → Prop) (n : Int) (s : ByteArray) (k : Int) : Prop := ∃ v, w.cell? ⟨p, 2, none⟩ = some v ∧ One w A v n s k
theorem ROk.kept {w w' : World} {p : Nat} {A : Nat → Prop} {bs : List UInt8} {k : Nat} (h : ROk w p A bs k) (hp : w'.heap[p]? = w.heap[p]?) (hk : Kept A w w') : ROk w' p A bs k := by
  obtain ⟨h0, hl, v, h1, h2, h3, h4⟩ := h
  exact ⟨fun j => (World.frozen?_of_block (w := w) (a := ⟨p, j, none⟩) hp).trans (h0 j), hl, v, (World.cell?_of_block (a := ⟨p, 0, none⟩) hp).trans h1, (World.cell?_of_block (a := ⟨p, 1, none⟩) hp).trans h2, (World.cell?_of_block (a := ⟨p, 2, none⟩) hp).trans h3, h4.kept hk⟩
theorem ROk.mono {w : World} {p : Nat} {A A' : Nat → Prop} {bs : List UInt8} {k : Nat} (h : ROk w p A bs k) (hA : ∀ k, A k → k < w.heap.size → A' k) : ROk w p A' bs k := by
  obtain ⟨h0, hl, v, h1, h2, h3, h4⟩ := h
  exact ⟨h0, hl, v, h1, h2, h3, h4.mono hA⟩
theorem ROk.lt {w : World} {p : Nat} {A : Nat → Prop} {bs : List UInt8} {k : Nat} (h : ROk w p A bs k) : p < w.heap.size := by
  obtain ⟨h0, hl, v, h1, _⟩ := h; exact lt_of_cell (a := ⟨p, 0, none⟩) h1
theorem ROk.next {w w' : World} {p : Nat} {A : Nat → Prop} {bs : List UInt8} {k : Nat} (h : ROk w p A bs k) (hb : Below w.heap.size w w') : ROk w' p A bs k := h.kept (hb.block p h.lt) (Kept.of_all hb)
theorem RBad.kept {w w' : World} {p : Nat} {A : Nat → Prop} {n : Int} {s : ByteArray} {k : Int} (h : RBad w p A n s k) (hp : w'.heap[p]? = w.heap[p]?) (hk : Kept A w w') : RBad w' p A n s k := by
  obtain ⟨v, h1, h2⟩ := h
  exact ⟨v, (World.cell?_of_block (a := ⟨p, 2, none⟩) hp).trans h1, h2.kept hk⟩
theorem RBad.lt {w : World} {p : Nat} {A : Nat → Prop} {n : Int} {s : ByteArray} {k : Int} (h : RBad w p A n s k) : p < w.heap.size := by
  obtain ⟨v, h1, _⟩ := h; exact lt_of_cell (a := ⟨p, 2, none⟩) h1
theorem RBad.next {w w' : World} {p : Nat} {A : Nat → Prop} {n : Int} {s : ByteArray} {k : Int} (h : RBad w p A n s k) (hb : Below w.heap.size w w') : RBad w' p A n s k := h.kept (hb.block p h.lt) (Kept.of_all hb)

/-- moved on -/
theorem ROk.move {w : World} {p : Nat} {A : Nat → Prop} {bs : List UInt8} {k k' : Nat} (h : ROk w p A bs k) (hp : ¬ A p) (hk : k' ≤ bs.length) (u : Int) (hu : u = (k' : Int)) : ROk (w.setCell ⟨p, 1, none⟩ (.int .i64 u)) p A bs k' ∧ w.grownBy (w.setCell ⟨p, 1, none⟩ (.int .i64 u)) (some p) := by
  subst hu
  have hg := grown_set (grown_refl w (some p)) 1 (.int .i64 k')
  obtain ⟨h0, hl, v, h1, h2, h3, h4⟩ := h
  refine ⟨⟨fun j => by rw [World.frozen?_setCell]; exact h0 j, hk, v, ?_, ?_, ?_, h4.kept (Kept.of_grown hg hp)⟩, hg⟩
  · rw [World.cell?_setCell_other _ _ _ _ (by simp)]; exact h1
  · exact World.cell?_setCell_same _ _ _ h2
  · rw [World.cell?_setCell_other _ _ _ _ (by simp)]; exact h3

theorem ROk.moved {w : World} {p : Nat} {A : Nat → Prop} {bs : List UInt8} {k k' : Nat} (h : ROk w p A bs k) (hp : ¬ A p) (hk : k' ≤ bs.length) (u : Int) (hu : u = (k' : Int)) : ROk (w.setCell ⟨p, 1, none⟩ (.int .i64 u)).drew.drew p A bs k' ∧ w.grownBy (w.setCell ⟨p, 1, none⟩ (.int .i64 u)).drew.drew (some p) := by
  have h2 := h.move hp hk u hu
  exact ⟨(h2.1.next (below_drew _)).next (below_drew _), grown_trans (grown_trans h2.2 (grown_below (below_drew _) _)) (grown_below (below_drew _) _)⟩

set_option maxHeartbeats 4000000 in
theorem take_no (p : Nat) (A : Nat → Prop) (bs : List UInt8) (k many : Nat) (w : World) (hr : ROk w p A bs k) (hl : bs.length ≤ 1000000000000) (hm : many ≤ 1000000000000) (hmo : bs.length < k + many) :
    Calls Tryz.prog 75 #[.pointer (some ⟨p, 0, none⟩), .int .i64 many] w fun e w' => e = .returned (.tuple #[.slice none 0 0, .int .i64 21]) ∧ Below w.heap.size w w' := by
  obtain ⟨h0, hk, v, h1, h2, h3, h4⟩ := hr
  obtain ⟨a, cap, rfl⟩ : ∃ a cap, v = .slice a bs.length cap := by
    rcases h4 with ⟨rfl, rfl⟩ | ⟨g, cap, rfl, _⟩
    · exact ⟨_, _, rfl⟩
    · exact ⟨_, _, rfl⟩
  have hgt : (bs.length : Int) - (k : Int) < (many : Int) := by omega
  clear h0 h3 h4
  go_enter Tryz.func75, Tryz.ntmps75
  go_wp2
  go_region
  all_goals
    go_wp2
    go_ret2
    exact ⟨rfl, below_drew w⟩

theorem mid_cell {bs : List UInt8} {k many j : Nat} {x : Value} (hx : (Lib.byteCells ((bs.drop k).take many))[j]? = some x) : ∃ y, bs[k + j]? = some y ∧ x = .int .u8 y.toNat := by
  simp only [Lib.byteCells, List.getElem?_map, Option.map_eq_some_iff] at hx
  obtain ⟨y, h1, rfl⟩ := hx
  rw [List.getElem?_take] at h1
  split at h1
  · rw [List.getElem?_drop] at h1; exact ⟨y, h1, rfl⟩
  · cases h1

set_option maxHeartbeats 4000000 in
theorem take_ok (p : Nat) (A : Nat → Prop) (bs : List UInt8) (k many : Nat) (w : World) (hr : ROk w p A bs k) (hp : ¬ A p) (hl : bs.length ≤ 1000000000000) (hmo : k + many ≤ bs.length) :
    Calls Tryz.prog 75 #[.pointer (some ⟨p, 0, none⟩), .int .i64 many] w fun e w' => ∃ v, e = .returned (.tuple #[v, .int .i64 0]) ∧ BytesIn w' A v ((bs.drop k).take many) ∧ ROk w' p A bs (k + many) ∧ w.grownBy w' (some p) := by
  have HR := hideIt hr
  obtain ⟨h0, hk, v, h1, h2, h3, h4⟩ := hr
  have hf1 := h0 1
  have hgt : ¬ (bs.length : Int) - (k : Int) < (many : Int) := by omega
  have hpl : p < w.heap.size := lt_of_cell (a := ⟨p, 0, none⟩) h1
  have hlen : ((bs.drop k).take many).length = many := by rw [List.length_take, List.length_drop]; omega
  clear h0 h3
  rcases h4 with ⟨rfl, rfl⟩ | ⟨g, cap, rfl, hcap, hcells⟩
  · obtain rfl : k = 0 := by simpa using hk
    obtain rfl : many = 0 := by simpa using hmo
    go_enter Tryz.func75, Tryz.ntmps75
    go_wp2
    go_region
    all_goals
      go_wp2
      go_region
      all_goals
        go_wp2
        go_ret2
        have h5 := HR.out.moved hp (Nat.le_refl _) 0 rfl
        exact ⟨_, rfl, BytesIn.nil _ _, h5.1, h5.2⟩
  · have HCE := hideIt hcells
    have hle : k + many ≤ cap := by omega
    clear hcells
    by_cases hck : cap = k
    · subst hck
      obtain rfl : many = 0 := by omega
      have ebs : bs.length = cap := by omega
      have HEB := hideIt ebs
      clear ebs
      go_enter Tryz.func75, Tryz.ntmps75
      go_wp2
      go_region
      all_goals
        go_wp2
        go_region
        all_goals
          go_wp2
          go_ret2
          have h5 := HR.out.moved hp (Nat.le_trans (Nat.le_of_eq HEB.out.symm) (Nat.le_refl _)) cap rfl
          exact ⟨_, rfl, ⟨some ⟨g, 0, none⟩, 0, by simp, (fun e => nomatch e), fun k x hx => by simp [Lib.byteCells] at hx⟩, h5.1, h5.2⟩
    · go_enter Tryz.func75, Tryz.ntmps75
      go_wp2
      go_region
      all_goals
        go_wp2
        go_region
        all_goals
          go_wp2
          go_ret2
          have h5 := HR.out.moved hp hmo ((k : Int) + (many : Int)) (by simp)
          refine ⟨_, rfl, ⟨some ⟨g, k, none⟩, cap - k, by rw [hlen, Nat.add_sub_cancel_left]; rfl, (fun e => nomatch e), fun j x hx => ?_⟩, h5.1, h5.2⟩
          obtain ⟨y, hy, rfl⟩ := mid_cell hx
          have hAg := (HCE.out _ _ hy).1
          exact ⟨g, k, rfl, hAg, (Kept.of_grown h5.2 hp).cell (a := ⟨g, k + j, none⟩) hAg (HCE.out _ _ hy).2⟩

/-! ### numbers -/
/-- the number that bytes are, the highest first -/
def beVal (l : List UInt8) : Nat := l.foldl (fun n x => n * 256 + x.toNat) 0
theorem beVal_snoc (l : List UInt8) (x : UInt8) : beVal (l ++ [x]) = beVal l * 256 + x.toNat := by simp [beVal]
theorem beVal_take (l : List UInt8) (k : Nat) (x : UInt8) (hx : l[k]? = some x) : beVal (l.take (k + 1)) = beVal (l.take k) * 256 + x.toNat := by
  have hlt : k < l.length := (List.getElem?_eq_some_iff.1 hx).1
  have he : l[k] = x := (List.getElem?_eq_some_iff.1 hx).2
  rw [List.take_succ_eq_append_getElem hlt, he, beVal_snoc]
theorem beVal_lt (l : List UInt8) : beVal l < 256 ^ l.length := by
  induction hn : l.length generalizing l with
  | zero => have := List.eq_nil_of_length_eq_zero hn; subst this; simp [beVal]
  | succ n ih =>
    have hne : l ≠ [] := by intro e; subst e; simp at hn
    have e := List.dropLast_concat_getLast hne
    rw [← e, beVal_snoc]
    have h1 := ih l.dropLast (by simp [hn])
    have h2 : (l.getLast hne).toNat < 256 := UInt8.toNat_lt _
    rw [Nat.pow_succ]; omega
theorem beVal_lt_take (l : List UInt8) (k : Nat) (hk : k ≤ 7) : beVal (l.take k) < 72057594037927936 := by
  have h1 := beVal_lt (l.take k)
  have h2 : (l.take k).length ≤ 7 := by simp; omega
  have h3 : 256 ^ (l.take k).length ≤ 256 ^ 7 := Nat.pow_le_pow_right (by decide) h2
  have : (256 : Nat) ^ 7 = 72057594037927936 := by decide
  omega

theorem or_byte (m b : Nat) (hm : m < 72057594037927936) (hb : b < 256) : Go.bits BinOp.or IntKind.u64 ((m : Int) * 256) (b : Int) = ((m * 256 + b : Nat) : Int) := by
  have e : ((m : Int) * 256) = ((m * 256 : Nat) : Int) := by omega
  rw [e, bits_or_u64_nat _ _ (by omega) (by omega)]
  congr 1
  have h := Nat.shiftLeft_add_eq_or_of_lt (i := 8) (b := b) (by omega) m
  rw [Nat.shiftLeft_eq] at h
  exact h.symm

set_option maxRecDepth 100000 in
set_option maxHeartbeats 4000000 in
theorem hf_ok (p : Nat) (A : Nat → Prop) (bs : List UInt8) (k many : Nat) (w : World) (hr : ROk w p A bs k) (hp : ¬ A p) (hl : bs.length ≤ 1000000000000) (hm : many ≤ 8) (hmo : k + many ≤ bs.length) :
    Calls Tryz.prog 66 #[.pointer (some ⟨p, 0, none⟩), .int .i64 many] w fun e w' => e = .returned (.tuple #[.int .u64 (beVal ((bs.drop k).take many)), .int .i64 0]) ∧ ROk w' p A bs (k + many) ∧ w.grownBy w' (some p) := by
  have HT := hideIt (take_ok p A bs k many w hr hp hl hmo)
  have hlen : ((bs.drop k).take many).length = many := by rw [List.length_take, List.length_drop]; omega
  clear hr hp
  generalize (bs.drop k).take many = l at HT hlen
  subst hlen
  go_enter Tryz.func66, Tryz.ntmps66
  go_wp2_with fail
  refine HT.out.mono ?_
  rintro e w1 ⟨v, rfl, hv, h1, h2⟩
  have HV := hideIt hv
  have H1 := hideIt (And.intro h1 h2)
  obtain ⟨a, cap, rfl, _⟩ := hv.form
  clear hv h1 h2
  go_wp2
  go_loop [8, 19] (fun n i => ∃ j : Nat, j ≤ l.length ∧ i = .int .i64 j ∧ n = .int .u64 (beVal (l.take j))) (fun _ i => l.length - (intOf i).toNat)
  case atStart => exact ⟨0, Nat.zero_le _, rfl, rfl⟩
  case round =>
    obtain ⟨j, hj, rfl, rfl⟩ := hrel
    by_cases hlt : j < l.length
    · obtain ⟨x, hx⟩ : ∃ x, l[j]? = some x := ⟨l[j], by simp [hlt]⟩
      obtain ⟨b, off, rfl, hb, hc⟩ := HV.out.at hx
      have HX := hideIt (beVal_take l j x hx)
      have hbl := beVal_lt_take l j (by omega)
      have hx8 : x.toNat < 256 := UInt8.toNat_lt x
      generalize beVal (l.take j) = m at hbl HX
      clear hx
      go_wp2
      refine ⟨⟨j + 1, by omega, by go_num, ?_⟩, by simp [intOf]; omega⟩
      rw [HX.out, or_byte m x.toNat hbl hx8]
    · have ej : j = l.length := by omega
      have HE : Hid (beVal (l.take j) = beVal l) := by have : beVal (l.take j) = beVal l := by rw [ej, List.take_length]
                                                       exact this
      clear ej
      go_wp2
      go_ret2
      rw [HE.out]
      exact ⟨rfl, H1.out.1, H1.out.2⟩

set_option maxHeartbeats 4000000 in
theorem hf_no (p : Nat) (A : Nat → Prop) (bs : List UInt8) (k many : Nat) (w : World) (hr : ROk w p A bs k) (hl : bs.length ≤ 1000000000000) (hm : many ≤ 8) (hmo : bs.length < k + many) :
    Calls Tryz.prog 66 #[.pointer (some ⟨p, 0, none⟩), .int .i64 many] w fun e w' => e = .returned (.tuple #[.int .u64 0, .int .i64 21]) ∧ Below w.heap.size w w' := by
  have HT := hideIt (take_no p A bs k many w hr hl (by omega) hmo)
  clear hr
  go_enter Tryz.func66, Tryz.ntmps66
  go_wp2_with fail
  refine HT.out.mono ?_
  rintro e w1 ⟨rfl, hb⟩
  go_wp2
  refine wp_loop_rounds 1 ?_
  rw [rounds_succ]
  go_wp2
  go_ret2
  exact ⟨rfl, hb⟩
end Go.Proofs.YtpgahjnjkihmhaaGreatDoor
