/-
  What is proved here: fault's Text, over this program, at errors that package fault made. Conditions: errors.errorType and the library's table of powers of ten lie as they are laid; the text has at most 2^40 bytes, the steps are at most 1000000.
-/
import Derived.Test.YtafhmbgnldmedaaDoorTold
namespace Go.Proofs.YtafhmbgnldmedaaDoor
open Go.RowKit Go.Extern.Stop Go.Stop Go.Extern

/-- what a step tells: where, a blank, the number, a colon, a blank -/
def stepText (x : ByteArray × Int) : List UInt8 := x.1.data.toList ++ ([32] ++ Lib.itoa x.2 ++ [58, 32])
def textL : List (ByteArray × Int) → List UInt8
  | [] => []
  | x :: r => stepText x ++ textL r
theorem textL_append (a b : List (ByteArray × Int)) : textL (a ++ b) = textL a ++ textL b := by
  induction a with
  | nil => rfl
  | cons x r ih => simp [textL, ih]

/-- sl is a slice of the steps l, all of it in blocks below B -/
def Steps (w : World) (B : Nat) (sl : Value) (l : List (ByteArray × Int)) : Prop :=
  ∃ a cap, sl = .slice a l.length cap ∧ ∀ k x, l[k]? = some x → ∃ b off, a = some ⟨b, off, none⟩ ∧ b < B ∧ w.cell? ⟨b, off + k * 2, none⟩ = some (.string x.1) ∧ w.cell? ⟨b, off + k * 2 + 1, none⟩ = some (.int .i64 x.2)
theorem Steps.kept {w w' : World} {B : Nat} {sl : Value} {l : List (ByteArray × Int)} (h : Steps w B sl l) (hb : Below B w w') : Steps w' B sl l := by
  obtain ⟨a, cap, h1, h2⟩ := h
  refine ⟨a, cap, h1, fun k x hx => ?_⟩
  obtain ⟨b, off, e1, e2, e3, e4⟩ := h2 k x hx
  exact ⟨b, off, e1, e2, by rw [hb.cell e2]; exact e3, by rw [hb.cell e2]; exact e4⟩
theorem Steps.up {w : World} {B B' : Nat} {sl : Value} {l : List (ByteArray × Int)} (h : Steps w B sl l) (hb : B ≤ B') : Steps w B' sl l := by
  obtain ⟨a, cap, h1, h2⟩ := h
  refine ⟨a, cap, h1, fun k x hx => ?_⟩
  obtain ⟨b, off, e1, e2, e3⟩ := h2 k x hx
  exact ⟨b, off, e1, by omega, e3⟩
theorem stepCells_get (l : List (ByteArray × Int)) : ∀ k x, l[k]? = some x → (stepCells l)[k * 2]? = some (.string x.1) ∧ (stepCells l)[k * 2 + 1]? = some (.int .i64 x.2) := by
  induction l with
  | nil => intro k x h; simp at h
  | cons y r ih =>
    obtain ⟨s, n⟩ := y
    intro k x h
    cases k with
    | zero => simp at h; subst h; simp [stepCells]
    | succ k =>
      have := ih k x (by simpa using h)
      simpa [stepCells, Nat.succ_mul] using this
theorem add_eq (g k : Nat) : (⟨g, 0, none⟩ : Addr).add k = ⟨g, k, none⟩ := by
  unfold Addr.add; split <;> simp_all
theorem Steps.of_own {w : World} {B : Nat} {sl : Value} {l : List (ByteArray × Int)} (h : w.ownsRow B 66 2 sl l.length (stepCells l)) : Steps w w.heap.size sl l := by
  have hc := h
  obtain ⟨h1, h2⟩ := h
  rcases h2 with ⟨rfl, h3⟩ | ⟨g, cap, cur, rfl, hg, hh, r⟩
  · refine ⟨none, 0, by rw [h3], fun k x hx => ?_⟩
    have : l = [] := List.length_eq_zero_iff.1 h3
    subst this; simp at hx
  · refine ⟨_, cap, rfl, fun k x hx => ⟨g, 0, rfl, ?_, ?_, ?_⟩⟩
    · exact (Array.getElem?_eq_some_iff.1 hh).1
    · have := hc.cells (g := g) rfl _ _ (stepCells_get l k x hx).1
      simpa [add_eq] using this
    · have := hc.cells (g := g) rfl _ _ (stepCells_get l k x hx).2
      simpa [add_eq] using this

theorem isB_kept {T e : TypeId} {B b : Nat} {bs : List Value} {w w' : World} (h : Lib.IsBuilderF T e B b bs w) (hb : Below w.heap.size w w') : Lib.IsBuilderF T e B b bs w' := by
  have one : ∀ p, Lib.BuilderAtF T e B b p bs w → Lib.BuilderAtF T e B b p bs w' := by
    intro p hp
    have hlt := hp.lt
    obtain ⟨h1, v, h2, h3, h4⟩ := hp
    refine ⟨h1, v, by rw [hb.block _ hlt]; exact h2, ?_, h4⟩
    obtain ⟨g1, g2⟩ := h3
    refine ⟨g1, ?_⟩
    rcases g2 with g2 | ⟨g, cap, cur, fz, hv, hg, hh, r⟩
    · exact Or.inl g2
    · refine Or.inr ⟨g, cap, cur, fz, hv, hg, ?_, r⟩
      rw [hb.block g (Array.getElem?_eq_some_iff.1 hh).1]; exact hh
  exact h.imp (one _) (one _)

theorem kept_cell {e : TypeId} {b : Nat} {w w2 : World} {c : Array Value} {t : TypeId} (h : Lib.OthersKept e (some b) (w.alloc (.cells c t)) w2) (hb : b < w.heap.size) (ht : t ≠ e) (i : Nat) : w2.cell? ⟨w.heap.size, i, none⟩ = c[i]? := by
  have h1 : (w.alloc (.cells c t)).heap[w.heap.size]? = some (.cells c t (0, 0)) := heap_alloc_new w _
  have h2 := h w.heap.size _ h1 (by intro e; cases e; omega) (by intro c' fz e; injection e with e1 e2; exact ht e2)
  simp [World.cell?, h2]

theorem textL_take (l : List (ByteArray × Int)) (k : Nat) (x : ByteArray × Int) (hx : l[k]? = some x) : textL (l.take (k + 1)) = textL (l.take k) ++ stepText x := by
  have hlt : k < l.length := (List.getElem?_eq_some_iff.1 hx).1
  have he : l[k] = x := (List.getElem?_eq_some_iff.1 hx).2
  rw [List.take_succ_eq_append_getElem hlt, textL_append, he]; simp [textL]
theorem textL_take_le (l : List (ByteArray × Int)) (k : Nat) : (textL (l.take k)).length ≤ (textL l).length := by
  have : textL l = textL (l.take k) ++ textL (l.drop k) := by rw [← textL_append, List.take_append_drop]
  rw [this]; simp

theorem mid_size (m : List UInt8) : (⟨#[32]⟩ ++ ⟨m.toArray⟩ ++ ⟨#[58, 32]⟩ : ByteArray).size = 1 + m.length + 2 := by
  simp [ByteArray.size_append]; rfl
theorem mid_cells (a : List UInt8) (x : ByteArray × Int) : Lib.byteCells (a ++ stepText x) = Lib.byteCells (a ++ x.1.data.toList) ++ Lib.strCells (⟨#[32]⟩ ++ ⟨(Lib.itoa x.2).toArray⟩ ++ ⟨#[58, 32]⟩) := by
  have e : (⟨#[32]⟩ ++ ⟨(Lib.itoa x.2).toArray⟩ ++ ⟨#[58, 32]⟩ : ByteArray).data.toList = [32] ++ Lib.itoa x.2 ++ [58, 32] := by simp
  rw [Lib.strCells_eq, e, ← Lib.byteCells_append]; simp [stepText]

set_option maxHeartbeats 4000000 in
theorem Text_chain (B : Nat) (l : List (ByteArray × Int)) (v : Value) (n : Int) (hn : fits n) (w : World) (hc : Chain B w n v l) (hg : ET w) (ht : PT w) (hl : l.length ≤ 1000000) (hk : ∀ x ∈ l, fits x.2) (htl : (textL l).length ≤ 1099511627776) :
    Calls Tryd.prog 21 #[v] w fun e w' => e = .returned (.string ⟨(textL l ++ errText n).toArray⟩) ∧ Below w.heap.size w w' := by
  have HU := hideIt (unfold_chain B l v n w hc hg hl)
  obtain ⟨ty, y, rfl⟩ := hc.iface
  have HT := hideIt ht
  have HK := hideIt hk
  have HN := hideIt hn
  have hil := Lib.itoa_length_le n hn.1 hn.2
  clear hc hg ht hk hn
  go_enter Tryd.func21, Tryd.ntmps21
  go_wp2_with fail
  refine HU.out.mono ?_
  rintro e w1 ⟨sl, rfl, ho, hb⟩
  obtain ⟨a, cap, rfl, hst⟩ := Steps.of_own ho
  have HB := hideIt hb
  have HS := hideIt hst
  have HT1 := hideIt (HT.out.kept hb HT.out.lt)
  clear HU HT hb hst ho
  go_wp2
  go_loopw [15] (fun i wr => ∃ k : Nat, k ≤ l.length ∧ i = .int .i64 k ∧ Lib.IsBuilderF 80 5 w1.heap.size w1.heap.size (Lib.byteCells (textL (l.take k))) wr ∧ Below w1.heap.size w1 wr ∧ w1.heap.size < wr.heap.size) (fun i _ => l.length - (intOf i).toNat)
  case atStart =>
    refine ⟨0, Nat.zero_le _, rfl, ?_, (Below.refl _ _).alloc (Nat.le_refl _) _, by simp⟩
    exact Lib.IsBuilderF.of (Lib.fresh_isBuilder 80 5 w1)
  case round =>
    obtain ⟨k, hk, rfl, hI, hnx, hsz⟩ := hrel
    have HI := hideIt hI
    have HX := hideIt hnx
    clear hI hnx
    by_cases hlt : k < l.length
    · obtain ⟨x, hx⟩ : ∃ x, l[k]? = some x := ⟨l[k], by simp [hlt]⟩
      obtain ⟨b, off, rfl, hbb, c0, c1⟩ := HS.out k x hx
      have d0 : wr.cell? ⟨b, off + k * 2, none⟩ = some (.string x.1) := (HX.out.cell hbb).trans c0
      have d1 : wr.cell? ⟨b, off + k * 2 + 1, none⟩ = some (.int .i64 x.2) := (HX.out.cell hbb).trans c1
      have HXX := hideIt hx
      have hfx : fits x.2 := HK.out x (List.mem_of_getElem? hx)
      have hix := Lib.itoa_length_le x.2 hfx.1 hfx.2
      have hlen : (textL (l.take k)).length + (x.1.size + (1 + (Lib.itoa x.2).length + 2)) ≤ 1099511627776 := by
        have h1 := textL_take_le l (k + 1)
        rw [textL_take l k x hx] at h1
        simp [stepText] at h1
        have : x.1.data.size = x.1.size := rfl
        omega
      have HF := hideIt hfx
      clear c0 c1 hx hfx
      go_wp2_with fail
      refine (Tryd.Builder_WriteString_k w1.heap.size w1.heap.size _ x.1 _ (HI.out.alloc _) (by rw [Lib.byteCells_length]; omega) (by simp; omega)).mono ?_
      rintro e w2 ⟨rfl, hB2, b2, k2⟩
      have q1 : w2.cell? ⟨wr.heap.size, 1, none⟩ = some (.int .i64 x.2) := kept_cell k2 hsz (by decide) 1
      have HX2 := hideIt ((HX.out.alloc (by omega) (.cells #[.string x.1, .int .i64 x.2] 66)).trans b2)
      have HT2 := hideIt (HT1.out.kept HX2.out HT1.out.lt)
      have HI2 : Hid (Lib.IsBuilderF 80 5 w1.heap.size w1.heap.size (Lib.byteCells (textL (l.take k) ++ x.1.data.toList)) w2) := by
        rw [Lib.byteCells_append]; exact Or.inr hB2
      have hs2 : wr.heap.size < w2.heap.size := by have := b2.size; simp at this; omega
      clear hB2 b2 k2 d0 d1
      go_wp2_with fail
      refine (Itoa_any x.2 HF.out w2 HT2.out).mono ?_
      rintro e w3 ⟨rfl, b3⟩
      have HI3 := hideIt (isB_kept HI2.out b3)
      have hs3 : w2.heap.size ≤ w3.heap.size := b3.size
      have HX3 := hideIt (HX2.out.trans (b3.mono (by omega)))
      clear b3
      go_wp2_with fail
      refine (Tryd.Builder_WriteString_k w1.heap.size w1.heap.size _ _ w3 HI3.out (by rw [Lib.byteCells_length, mid_size]; simp; have : x.1.data.size = x.1.size := rfl; omega) (by omega)).mono ?_
      rintro e w4 ⟨rfl, hB4, b4, _⟩
      have HI4 : Hid (Lib.IsBuilderF 80 5 w1.heap.size w1.heap.size (Lib.byteCells (textL (l.take (k + 1)))) w4) := by
        rw [textL_take l k x HXX.out, mid_cells]; exact Or.inr hB4
      have HX4 := hideIt (HX3.out.trans b4)
      have hs4 : w1.heap.size < w4.heap.size := by have := b4.size; omega
      clear hB4 b4 q1
      go_wp2
      go_roundw
      case rel => exact ⟨k + 1, by omega, by go_num, HI4.out, HX4.out, hs4⟩
      case measure => simp [intOf]; omega
    · have ek : k = l.length := by omega
      have HI0 : Hid (Lib.IsBuilderF 80 5 w1.heap.size w1.heap.size (Lib.byteCells (textL l)) wr) := by
        have := HI.out; rw [ek, List.take_length] at this; exact this
      clear HI ek
      go_wp2_with fail
      refine (told_errno n HN.out wr (HT1.out.kept HX.out HT1.out.lt)).mono ?_
      rintro e w2 ⟨rfl, b2⟩
      have HI2 := hideIt (isB_kept HI0.out b2)
      have hs2 := b2.size
      have HX2 := hideIt (HX.out.trans (b2.mono (by omega)))
      clear b2
      go_wp2_with fail
      refine (Tryd.Builder_WriteString_k w1.heap.size w1.heap.size _ _ w2 HI2.out (by rw [Lib.byteCells_length]; have : (⟨(errText n).toArray⟩ : ByteArray).size = (errText n).length := rfl; rw [this]; simp [errText]; omega) (by omega)).mono ?_
      rintro e w3 ⟨rfl, hB3, b3, _⟩
      have HI3 : Hid (Lib.IsBuilderF 80 5 w1.heap.size w1.heap.size (Lib.byteCells (textL l ++ errText n)) w3) := by
        rw [Lib.byteCells_append]; exact Or.inr hB3
      have hs3 := b3.size
      have HX3 := hideIt (HX2.out.trans b3)
      clear hB3 b3
      go_wp2_with fail
      refine (Tryd.Builder_String_any_k w1.heap.size w1.heap.size _ w3 HI3.out (by omega)).mono ?_
      rintro e w4 ⟨rfl, _, b4, _⟩
      have HX4 := hideIt (HX3.out.trans b4)
      clear b4
      go_wp2
      go_ret
      exact ⟨rfl, HB.out.trans (HX4.out.mono HB.out.size)⟩

theorem Text_nil (w : World) : Calls Tryd.prog 21 #[.nilIface] w fun e w' => e = .returned (.string ⟨#[]⟩) ∧ Below w.heap.size w w' := by
  go_enter Tryd.func21, Tryd.ntmps21
  go_wp2_with fail
  refine (unfold_nil w).mono ?_
  rintro e w1 ⟨rfl, b1⟩
  have HB := hideIt b1
  clear b1
  go_wp2
  refine wp_loop_rounds 1 ?_
  rw [rounds_succ]
  go_wp2_with fail
  have HI := hideIt (Lib.IsBuilderF.of (Lib.fresh_isBuilder 80 5 w1))
  refine (told_nil _).mono ?_
  rintro e w2 ⟨rfl, b2⟩
  have HI2 := hideIt (isB_kept HI.out b2)
  have hs2 := b2.size
  simp at hs2
  have HX2 := hideIt (((Below.refl _ _).alloc (Nat.le_refl w1.heap.size) _).trans (b2.mono (by simp)))
  clear b2
  go_wp2_with fail
  refine (Tryd.Builder_WriteString_k w1.heap.size w1.heap.size _ _ w2 HI2.out (by decide) (by omega)).mono ?_
  rintro e w3 ⟨rfl, hB3, b3, _⟩
  have HI3 : Hid (Lib.IsBuilderF 80 5 w1.heap.size w1.heap.size (Lib.byteCells []) w3) := Or.inr hB3
  have hs3 := b3.size
  have HX3 := hideIt (HX2.out.trans b3)
  clear hB3 b3
  go_wp2_with fail
  refine (Tryd.Builder_String_any_k w1.heap.size w1.heap.size _ w3 HI3.out (by omega)).mono ?_
  rintro e w4 ⟨rfl, _, b4, _⟩
  have HX4 := hideIt (HX3.out.trans b4)
  clear b4
  go_wp2
  go_ret
  exact ⟨rfl, HB.out.trans (HX4.out.mono HB.out.size)⟩
end Go.Proofs.YtafhmbgnldmedaaDoor
