/-
  What is proved here: is there a piece of the last epoch? ContainsFunc; pieces of a range, written; over this program.
-/
import Derived.Test.YtafhmbgnldmedaaDoorPH
import Derived.Laws.OwnMore
namespace Go.Proofs.YtafhmbgnldmedaaDoor
open Go.RowKit Go.Extern.Stop Go.Stop Go.Extern

set_option maxRecDepth 100000 in
set_option maxHeartbeats 4000000 in
theorem rqMvA_any (x : Pc) (w : World) :
    Calls Tryd.prog 35 #[pcV x] w fun e w' => e = .returned (.bool (decide (1099511627776 ≤ x.2.2))) ∧ Below w.heap.size w w' := by
  unfold pcV
  obtain ⟨W, hW, hwb, _, c0, c1, c2⟩ := room3 w 39 (.string ⟨x.1.toArray⟩) (.int .i64 x.2.1) (.int .i64 x.2.2)
  have HB := hideIt hwb
  clear hwb
  subst hW
  go_enter Tryd.func35, Tryd.ntmps35
  go_wp2
  go_ret
  exact ⟨rfl, HB.out⟩
def anyBig (l : List Pc) : Bool := l.any fun p => decide (1099511627776 ≤ p.2.2)
theorem anyBig_iff {l : List Pc} : anyBig l = true ↔ ∃ p ∈ l, 1099511627776 ≤ p.2.2 := by
  unfold anyBig
  rw [List.any_eq_true]
  simp only [decide_eq_true_eq]
set_option maxRecDepth 100000 in
set_option maxHeartbeats 4000000 in
theorem iFuncP_any (A : Nat → Prop) (lv : Value) (l : List Pc) (w : World) (hs : PcsIn w A lv l) (hl : l.length ≤ maxLen) :
    Calls Tryd.prog 51 #[lv, .func (.func 35) #[] #[]] w fun e w' => ∃ r : Int, e = .returned (.int .i64 r) ∧ decide (0 ≤ r) = anyBig l ∧ Below w.heap.size w w' := by
  have HS := hideIt (hs.mono (A' := (· < w.heap.size)) (fun _ _ h => h))
  obtain ⟨a, cap, rfl⟩ := hs.form
  unfold maxLen at hl
  clear hs
  go_enter Tryd.func51, Tryd.ntmps51
  go_wp2
  go_loopw [8] (fun i wr => ∃ k : Nat, k ≤ l.length ∧ i = .int .i64 k ∧ Hid (anyBig (l.take k) = false) ∧ Hid (Below w.heap.size w wr)) (fun i _ => l.length - (intOf i).toNat)
  case atStart => exact ⟨0, Nat.zero_le _, rfl, rfl, Below.refl _ _⟩
  case round =>
    obtain ⟨k, hk, rfl, HA, HB⟩ := hrel
    by_cases hlt : k < l.length
    · obtain ⟨x, hx⟩ : ∃ x, l[k]? = some x := ⟨l[k], by simp [hlt]⟩
      have HSr : Hid (PcsIn wr (· < w.heap.size) (.slice a l.length cap) l) := RowIn.kept HS.out (Kept.of_below HB.out (fun _ h _ => h))
      obtain ⟨b, off, rfl, hb, c0, c1, c2⟩ := PcsIn.at HSr.out hx
      have HE : Hid (l[k] = x) := (List.getElem?_eq_some_iff.1 hx).2
      have HM := hideIt (rqMvA_any x wr)
      unfold pcV at HM
      clear hx
      go_wp2_with fail
      refine HM.out.mono ?_
      rintro e w2 ⟨rfl, hb2⟩
      have HB2 := hideIt (HB.out.trans (hb2.mono HB.out.size))
      clear hb2 HM
      by_cases hx6 : 1099511627776 ≤ x.2.2
      · rw [decide_eq_true hx6]
        go_wp2
        go_ret
        refine ⟨_, rfl, ?_, HB2.out⟩
        have h1 : anyBig l = true := List.any_eq_true.2 ⟨x, by rw [← HE.out]; exact List.getElem_mem hlt, decide_eq_true hx6⟩
        rw [h1]; simp
      · rw [decide_eq_false hx6]
        go_wp2
        go_roundw
        case rel =>
          refine ⟨k + 1, by omega, by go_num, ?_, HB2⟩
          have h1 : anyBig (l.take (k + 1)) = false := by
            unfold anyBig
            rw [List.take_succ_eq_append_getElem hlt, List.any_append, HE.out]
            have := HA.out
            unfold anyBig at this
            rw [this]; simp; omega
          exact h1
        case measure => simp [intOf]; omega
    · have ek : k = l.length := by omega
      have HA2 : Hid (anyBig l = false) := by
        have := HA.out; rw [ek, List.take_length] at this; exact this
      clear ek HA
      go_wp2
      go_ret
      exact ⟨_, rfl, by rw [HA2.out]; rfl, HB.out⟩
theorem cFuncP_any (A : Nat → Prop) (lv : Value) (l : List Pc) (w : World) (hs : PcsIn w A lv l) (hl : l.length ≤ maxLen) :
    Calls Tryd.prog 34 #[lv, .func (.func 35) #[] #[]] w fun e w' => e = .returned (.bool (anyBig l)) ∧ Below w.heap.size w w' := by
  have HI := hideIt (iFuncP_any A lv l w hs hl)
  obtain ⟨a, cap, rfl⟩ := hs.form
  clear hs
  go_enter Tryd.func34, Tryd.ntmps34
  go_wp2_with fail
  refine HI.out.mono ?_
  rintro e w' ⟨r, rfl, hr, hb⟩
  have HR := hideIt (And.intro hr hb)
  clear hr hb
  go_wp2
  go_ret
  exact ⟨by rw [← HR.out.1]; rfl, HR.out.2⟩
/-- some pieces of a slice -/
theorem PcsIn.sub {w : World} {A : Nat → Prop} {g off cap a b : Nat} {l : List Pc} (h : PcsIn w A (.slice (some ⟨g, off, none⟩) l.length cap) l) (hb : b ≤ l.length) : PcsIn w A (.slice (some ⟨g, off + a * 3, none⟩) (b - a) (cap - a)) ((l.drop a).take (b - a)) := by
  have hl : ((l.drop a).take (b - a)).length = b - a := by rw [List.length_take, List.length_drop]; omega
  refine ⟨some ⟨g, off + a * 3, none⟩, cap - a, by rw [hl], (fun e => nomatch e), fun k x hx => ?_⟩
  obtain ⟨a', cap', e1, _, h2⟩ := h
  simp only [Value.slice.injEq] at e1
  obtain ⟨rfl, _, rfl⟩ := e1
  rw [pcsCells_take, pcsCells_drop] at hx
  have hk := (List.getElem?_eq_some_iff.1 hx).1
  rw [List.length_take] at hk
  rw [List.getElem?_take_of_lt (by omega), List.getElem?_drop] at hx
  obtain ⟨b', off', r1, r2, r3⟩ := h2 _ _ hx
  cases r1
  exact ⟨g, off + a * 3, rfl, r2, by rw [Nat.add_assoc]; exact r3⟩
theorem pcsCells_at3 {l : List Pc} {a : Nat} {o : Pc} (ho : l[a]? = some o) (v n : Int) : pcsCells (l.set a (o.1, v, n)) = ((pcsCells l).set (a * 3 + 1) (.int .i64 v)).set (a * 3 + 2) (.int .i64 n) := by
  induction l generalizing a with
  | nil => simp at ho
  | cons x r ih =>
    cases a with
    | zero =>
      simp at ho; subst ho
      rfl
    | succ a =>
      have h1 : pcsCells (x :: r) = .string ⟨x.1.toArray⟩ :: .int .i64 x.2.1 :: .int .i64 x.2.2 :: pcsCells r := rfl
      have h2 : pcsCells (x :: r.set a (o.1, v, n)) = .string ⟨x.1.toArray⟩ :: .int .i64 x.2.1 :: .int .i64 x.2.2 :: pcsCells (r.set a (o.1, v, n)) := rfl
      rw [List.set_cons_succ, h2, h1, ih (by simpa using ho), show (a + 1) * 3 + 1 = (a * 3 + 1) + 1 + 1 + 1 by omega, show (a + 1) * 3 + 2 = (a * 3 + 2) + 1 + 1 + 1 by omega]
      simp only [List.set_cons_succ]
end Go.Proofs.YtafhmbgnldmedaaDoor
