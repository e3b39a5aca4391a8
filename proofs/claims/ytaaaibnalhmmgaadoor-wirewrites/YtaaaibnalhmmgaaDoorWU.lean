/-
  What is proved here: plain facts on Ops: what each adds, and how much; rows cut.
-/
import Derived.Test.YtaaaibnalhmmgaaDoorWT
import Derived.Test.YtaaaibnalhmmgaaDoorWN
namespace Go.Proofs.YtaaaibnalhmmgaaDoor
open Go.RowKit Go.Extern.Stop Go.Stop Go.Extern

/-- what an Op adds -/
def opO (x : OpD) : Option (List UInt8) :=
  if x.1 % 4 = 0 then some (numB x.2.1) else if x.1 % 4 = 1 then textO (OpD.s x) else if x.1 % 4 = 2 then listO (OpD.l x) else numsO (OpD.m x)
theorem kinds (z : Int) : z % 4 = 0 ∨ z % 4 = 1 ∨ z % 4 = 2 ∨ z % 4 = 3 := by omega
theorem opO_0 {x : OpD} (h : x.1 % 4 = 0) : opO x = some (numB x.2.1) := if_pos h
theorem opO_1 {x : OpD} (h : x.1 % 4 = 1) : opO x = textO (OpD.s x) := by unfold opO; rw [if_neg (by omega), if_pos h]
theorem opO_2 {x : OpD} (h : x.1 % 4 = 2) : opO x = listO (OpD.l x) := by unfold opO; rw [if_neg (by omega), if_neg (by omega), if_pos h]
theorem opO_3 {x : OpD} (h : x.1 % 4 = 3) : opO x = numsO (OpD.m x) := by unfold opO; rw [if_neg (by omega), if_neg (by omega), if_neg (by omega)]

theorem textO_some {s c : List UInt8} (h : textO s = some c) : s.length ≤ 65536 ∧ c = textB s := by
  unfold textO at h; split at h
  · cases h
  · injection h with h; exact ⟨by omega, h.symm⟩
theorem listO_some {l : List (List UInt8)} {c : List UInt8} (h : listO l = some c) : l.length ≤ 1024 ∧ (∀ s ∈ l, s.length ≤ 65536) ∧ c = rowB textB l := by
  unfold listO at h; split at h
  · cases h
  · rename_i hn
    injection h with h
    simp only [Bool.or_eq_true, decide_eq_true_eq, not_or, Bool.not_eq_true] at hn
    exact ⟨by omega, anyLong_not hn.2, h.symm⟩
theorem numsO_some {l : List Int} {c : List UInt8} (h : numsO l = some c) : l.length ≤ 1024 ∧ c = rowB numB l := by
  unfold numsO at h; split at h
  · cases h
  · injection h with h; exact ⟨by omega, h.symm⟩
/-- how much texts take -/
def textsSize (l : List (List UInt8)) : Nat := (l.map fun s => 4 + s.length).sum
theorem textsSize_flat (l : List (List UInt8)) : (l.flatMap textB).length = textsSize l := by
  induction l with
  | nil => rfl
  | cons x r ih => simp only [List.flatMap_cons, List.length_append, textB_length, ih, textsSize, List.map_cons, List.sum_cons]
theorem textsSize_take (l : List (List UInt8)) (k : Nat) (x : List UInt8) (hx : l[k]? = some x) : textsSize (l.take (k + 1)) = textsSize (l.take k) + (4 + x.length) := by
  have hlt : k < l.length := (List.getElem?_eq_some_iff.1 hx).1
  have he : l[k] = x := (List.getElem?_eq_some_iff.1 hx).2
  unfold textsSize
  rw [List.take_succ_eq_append_getElem hlt, he]; simp
theorem nums_flat (l : List Int) : (l.flatMap numB).length = 8 * l.length := by
  induction l with
  | nil => rfl
  | cons x r ih => simp only [List.flatMap_cons, List.length_append, numB_length, ih, List.length_cons]; omega
theorem textsSize_le (l : List (List UInt8)) (h : ∀ s ∈ l, s.length ≤ 65536) : textsSize l ≤ 4 * l.length + lensW l := by
  induction l with
  | nil => simp [textsSize, lensW]
  | cons x r ih =>
    have h1 := ih (fun y hy => h y (by simp [hy]))
    have h2 := h x (by simp)
    simp only [textsSize, lensW, List.map_cons, List.sum_cons, List.length_cons] at h1 ⊢
    omega
theorem textsSize_bound (l : List (List UInt8)) (h : ∀ s ∈ l, s.length ≤ 65536) : textsSize l ≤ l.length * 65540 := by
  rw [← textsSize_flat]; exact flat_len textB 65540 l (fun y hy => by have := h y hy; rw [textB_length]; omega)
theorem opO_size {x : OpD} {c : List UInt8} (h : opO x = some c) (hw : opW x < 400000) : c.length ≤ opW x := by
  unfold opW at hw ⊢
  rcases kinds x.1 with hk | hk | hk | hk
  · rw [opO_0 hk] at h; cases h; rw [numB_length]; omega
  · rw [opO_1 hk] at h; obtain ⟨h1, rfl⟩ := textO_some h; rw [textB_length]; omega
  · rw [opO_2 hk] at h; obtain ⟨h1, h2, rfl⟩ := listO_some h
    have := textsSize_le _ h2
    rw [rowB, List.length_append, be_length, textsSize_flat]; omega
  · rw [opO_3 hk] at h; obtain ⟨h1, rfl⟩ := numsO_some h
    rw [rowB, List.length_append, be_length, nums_flat]; omega
theorem opsW_le_of_take (l : List OpD) (k : Nat) : opsW (l.take k) ≤ opsW l := by
  have : opsW l = opsW (l.take k) + opsW (l.drop k) := by
    unfold opsW
    rw [← List.sum_append, ← List.map_append, List.take_append_drop]
  omega
theorem opW_le (l : List OpD) (k : Nat) (x : OpD) (hx : l[k]? = some x) : opsW (l.take k) + opW x ≤ opsW l := by
  rw [← opsW_take l k x hx]; exact opsW_le_of_take l (k + 1)

theorem wrap_nums (b m : Nat) (h : b ≤ 400000) (h2 : m ≤ 1024) : wrap64 ((b : Int) + 4 + wrap64 (8 * (m : Int))) = (b : Int) + ((4 + 8 * m : Nat) : Int) := by
  have e : wrap64 (8 * (m : Int)) = 8 * (m : Int) := by unfold wrap64; omega
  rw [e]; unfold wrap64; omega
theorem wrap_text (z : Int) (m : Nat) (h0 : 0 ≤ z) (h : z ≤ 200000000) (h2 : m ≤ 65536) : wrap64 (wrap64 (z + 4) + (m : Int)) = z + (4 + (m : Int)) := by
  have e : wrap64 (z + 4) = z + 4 := by unfold wrap64; omega
  rw [e]; unfold wrap64; omega
theorem BytesIn.cut {w : World} {A : Nat → Prop} {a : Option Addr} {n cap : Nat} {l1 l2 : List UInt8} (h : BytesIn w A (.slice a n cap) (l1 ++ l2)) : BytesIn w A (.slice a l1.length cap) l1 := by
  obtain ⟨a', cap', e1, h1, h2⟩ := h
  simp only [Value.slice.injEq] at e1
  obtain ⟨rfl, _, rfl⟩ := e1
  refine ⟨a, cap, rfl, fun e => ?_, fun k x hx => h2 k x ?_⟩
  · have := (h1 e).2.1
    simp only [List.length_append] at this
    have e0 : l1 = [] := List.eq_nil_of_length_eq_zero (by omega)
    subst e0
    exact ⟨(h1 e).1, rfl, rfl⟩
  · rw [Lib.byteCells_append, List.getElem?_append_left (List.getElem?_eq_some_iff.1 hx).1]; exact hx
theorem own_cap {w : World} {B e size n : Nat} {v : Value} {xs : List Value} (h : w.ownsRow B e size v n xs) : ∃ a cap, v = .slice a n cap ∧ n ≤ cap := by
  obtain ⟨_, h2⟩ := h
  rcases h2 with ⟨rfl, rfl⟩ | ⟨g, cap, cur, rfl, _, _, hc, _⟩
  · exact ⟨_, _, rfl, Nat.le_refl _⟩
  · exact ⟨_, _, rfl, hc⟩
end Go.Proofs.YtaaaibnalhmmgaaDoor
