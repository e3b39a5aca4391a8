/-
  What is proved here: the document's own Same and SameNums (package cohortref02), over this program; plain facts on what Ops add one behind the other.
-/
import Derived.Test.YtaaaibnalhmmgaaDoorLKept
namespace Go.Proofs.YtaaaibnalhmmgaaDoor
open Go.RowKit Go.Extern.Stop Go.Stop Go.Extern

set_option maxRecDepth 100000 in
set_option maxHeartbeats 8000000 in
theorem Same02_true (A1 A2 : Nat → Prop) (x y : Value) (l : List (List UInt8)) (w : World) (hx : TextsIn w A1 x l) (hy : TextsIn w A2 y l) (hlen : l.length ≤ 1000000) :
    Calls Tryd.prog 27 #[x, y] w fun e w' => e = .returned (.bool true) ∧ Below w.heap.size w w' := by
  have H1 := hideIt hx
  have H2 := hideIt hy
  obtain ⟨a1, cap1, rfl⟩ := hx.form
  obtain ⟨a2, cap2, rfl⟩ := hy.form
  clear hx hy
  go_enter Tryd.func27, Tryd.ntmps27
  go_wp2
  go_loopw [5] (fun i wr => ∃ k : Nat, k ≤ l.length ∧ i = .int .i64 k ∧ Hid (Below w.heap.size w wr)) (fun i _ => l.length - (intOf i).toNat)
  case atStart => exact ⟨0, Nat.zero_le _, rfl, Below.refl _ _⟩
  case round =>
    obtain ⟨k, hk, rfl, HX⟩ := hrel
    by_cases hlt : k < l.length
    · obtain ⟨z, hz⟩ : ∃ z, l[k]? = some z := ⟨l[k], by simp [hlt]⟩
      obtain ⟨b1, o1, u1, rfl, _, c1, y1⟩ := (H1.out.kept (Kept.of_all HX.out)).at hz
      obtain ⟨b2, o2, u2, rfl, _, c2, y2⟩ := (H2.out.kept (Kept.of_all HX.out)).at hz
      have hst1 := fun m => BytesIn.str (RowIn.kept y1 (Kept.of_all (below_drewN wr m)))
      have hst2 := fun m => BytesIn.str (RowIn.kept y2 (Kept.of_all (below_drewN wr m)))
      obtain ⟨a3, cap3, rfl, _⟩ := y1.form
      obtain ⟨a4, cap4, rfl, _⟩ := y2.form
      clear y1 y2 hz
      go_wp2
      go_quiet (fail)
      have HXq := hideIt (HX.out.trans ((below_drewN wr nq).mono HX.out.size))
      generalize wr.drewN nq = w2 at HXq ⊢
      go_wp2
      exact ⟨⟨k + 1, by omega, by go_num, HXq.out⟩, by simp [intOf]; omega⟩
    · go_wp2
      go_ret
      exact ⟨rfl, HX.out⟩

set_option maxRecDepth 100000 in
set_option maxHeartbeats 8000000 in
theorem SameNums02_true (A1 A2 : Nat → Prop) (x y : Value) (l : List Int) (w : World) (hx : NumsIn w A1 x l) (hy : NumsIn w A2 y l) (hlen : l.length ≤ 1000000) :
    Calls Tryd.prog 29 #[x, y] w fun e w' => e = .returned (.bool true) ∧ Below w.heap.size w w' := by
  have H1 := hideIt hx
  have H2 := hideIt hy
  obtain ⟨a1, cap1, rfl⟩ := hx.form
  obtain ⟨a2, cap2, rfl⟩ := hy.form
  clear hx hy
  go_enter Tryd.func29, Tryd.ntmps29
  go_wp2
  go_loopw [5] (fun i wr => ∃ k : Nat, k ≤ l.length ∧ i = .int .i64 k ∧ Hid (Below w.heap.size w wr)) (fun i _ => l.length - (intOf i).toNat)
  case atStart => exact ⟨0, Nat.zero_le _, rfl, Below.refl _ _⟩
  case round =>
    obtain ⟨k, hk, rfl, HX⟩ := hrel
    by_cases hlt : k < l.length
    · obtain ⟨z, hz⟩ : ∃ z, l[k]? = some z := ⟨l[k], by simp [hlt]⟩
      obtain ⟨b1, o1, rfl, _, c1⟩ := NumsIn.at (RowIn.kept H1.out (Kept.of_all HX.out)) hz
      obtain ⟨b2, o2, rfl, _, c2⟩ := NumsIn.at (RowIn.kept H2.out (Kept.of_all HX.out)) hz
      clear hz
      go_wp2
      go_quiet (fail)
      have HXq := hideIt (HX.out.trans ((below_drewN wr nq).mono HX.out.size))
      generalize wr.drewN nq = w2 at HXq ⊢
      go_wp2
      exact ⟨⟨k + 1, by omega, by go_num, HXq.out⟩, by simp [intOf]; omega⟩
    · go_wp2
      go_ret
      exact ⟨rfl, HX.out⟩

/-! ### Ops, one behind the other -/
def run (l : List OpD) : List UInt8 × Bool := l.foldl (fun st x => put st (opO x)) ([], false)
def opB (x : OpD) : List UInt8 := (opO x).getD []
theorem run_take (l : List OpD) (k : Nat) (x : OpD) (hx : l[k]? = some x) : run (l.take (k + 1)) = put (run (l.take k)) (opO x) := by
  have hlt : k < l.length := (List.getElem?_eq_some_iff.1 hx).1
  have he : l[k] = x := (List.getElem?_eq_some_iff.1 hx).2
  unfold run
  rw [List.take_succ_eq_append_getElem hlt, he, List.foldl_append]; rfl
theorem run_len (l : List OpD) (hw : opsW l < 400000) (k : Nat) : (run (l.take k)).1.length ≤ opsW (l.take k) := by
  induction k with
  | zero => simp [run]
  | succ k ih =>
    by_cases hlt : k < l.length
    · obtain ⟨x, hx⟩ : ∃ x, l[k]? = some x := ⟨l[k], by simp [hlt]⟩
      rw [run_take l k x hx, opsW_take l k x hx]
      have h1 := opW_le l k x hx
      unfold put
      split
      · omega
      · split
        · rename_i c hc
          have := opO_size hc (by omega)
          simp only [List.length_append]; omega
        · simp only; omega
    · rw [List.take_of_length_le (by omega)]
      rw [List.take_of_length_le (by omega)] at ih
      exact ih
/-- where nothing was refused -/
theorem run_good (l : List OpD) (k : Nat) (h : (run (l.take k)).2 = false) : (run (l.take k)).1 = (l.take k).flatMap opB ∧ ∀ j x, j < k → l[j]? = some x → ∃ c, opO x = some c ∧ opB x = c := by
  induction k with
  | zero => exact ⟨rfl, fun j x hj => by omega⟩
  | succ k ih =>
    by_cases hlt : k < l.length
    · obtain ⟨x, hx⟩ : ∃ x, l[k]? = some x := ⟨l[k], by simp [hlt]⟩
      rw [run_take l k x hx] at h ⊢
      unfold put at h ⊢
      split at h
      · rename_i hb; rw [hb] at h; cases h
      · rename_i hb
        have hb2 : (run (l.take k)).2 = false := by simpa using hb
        obtain ⟨i1, i2⟩ := ih hb2
        split at h
        · rename_i c hc
          have hB : opB x = c := by unfold opB; rw [hc]; rfl
          refine ⟨?_, ?_⟩
          · rw [if_neg hb]
            simp only
            have e := flat_take opB l k x hx
            rw [e, i1, hB]
          · intro j y hj hy
            by_cases e : j = k
            · subst e; rw [hx] at hy; cases hy; exact ⟨c, hc, hB⟩
            · exact i2 j y (by omega) hy
        · cases h
    · rw [List.take_of_length_le (by omega)] at h ⊢
      rw [List.take_of_length_le (by omega)] at ih
      obtain ⟨i1, i2⟩ := ih h
      exact ⟨i1, fun j x hj hx => i2 j x (by have := (List.getElem?_eq_some_iff.1 hx).1; omega) hx⟩
theorem flat_split (l : List OpD) (k : Nat) (x : OpD) (hx : l[k]? = some x) : (l.flatMap opB).drop ((l.take k).flatMap opB).length = opB x ++ (l.drop (k + 1)).flatMap opB := by
  have hlt : k < l.length := (List.getElem?_eq_some_iff.1 hx).1
  have he : l[k] = x := (List.getElem?_eq_some_iff.1 hx).2
  have e1 : l = l.take k ++ x :: l.drop (k + 1) := by rw [← he, ← List.drop_eq_getElem_cons hlt, List.take_append_drop]
  have e2 : l.flatMap opB = (l.take k).flatMap opB ++ (opB x ++ (l.drop (k + 1)).flatMap opB) := by
    have h := congrArg (List.flatMap opB) e1
    rw [List.flatMap_append, List.flatMap_cons] at h
    exact h
  rw [e2, List.drop_append_of_le_length (Nat.le_refl _), List.drop_of_length_le (Nat.le_refl _), List.nil_append]
theorem flat_pos (l : List OpD) (k : Nat) (x : OpD) (hx : l[k]? = some x) : ((l.take (k + 1)).flatMap opB).length = ((l.take k).flatMap opB).length + (opB x).length := by
  rw [flat_take opB l k x hx, List.length_append]
theorem step_read {α : Type} {rd : List UInt8 → Except Int (α × Nat)} {d v : α} {s : ByteArray} {bs f r : List UInt8} {k : Nat} (h1 : bs.drop k = f ++ r) (h2 : ∀ r, rd (f ++ r) = .ok (v, f.length)) : stepR d s rd bs (.ok k) = (v, .ok (k + f.length)) := by
  simp only [stepR, h1, h2]
end Go.Proofs.YtaaaibnalhmmgaaDoor
