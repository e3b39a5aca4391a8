/-
  What is proved here: wire's Writer: Num, Text, List, Nums and Bytes, over this program.
-/
import Derived.Test.YtmhbfplaglipnaaGreatDoorWD
namespace Go.Proofs.YtmhbfplaglipnaaGreatDoor
open Go.RowKit Go.Extern.Stop Go.Stop Go.Extern

/-- what is added: its bytes, or nothing where that is too much -/
def put (st : List UInt8 × Bool) (c : Option (List UInt8)) : List UInt8 × Bool :=
  if st.2 then st else match c with | some c => (st.1 ++ c, false) | none => (st.1, true)
/-- a Writer at p in a state -/
def WSt (w : World) (p : Nat) (A : Nat → Prop) (st : List UInt8 × Bool) : Prop := if st.2 then WBad w p A st.1 else WOk w p A st.1
theorem WSt.kept {w w' : World} {p : Nat} {A : Nat → Prop} {st : List UInt8 × Bool} (h : WSt w p A st) (hp : w'.heap[p]? = w.heap[p]?) (hk : Kept A w w') : WSt w' p A st := by
  unfold WSt at *
  split
  · rename_i h1; rw [if_pos h1] at h; exact h.kept hp hk
  · rename_i h1; rw [if_neg h1] at h; exact h.kept hp hk
theorem WSt.lt {w : World} {p : Nat} {A : Nat → Prop} {st : List UInt8 × Bool} (h : WSt w p A st) : p < w.heap.size := by
  unfold WSt at h
  split at h
  · obtain ⟨v, h1, _⟩ := h; exact lt_of_cell (a := ⟨p, 2, none⟩) h1
  · obtain ⟨_, q, cs, h1, _⟩ := h; exact lt_of_cell (a := ⟨p, 0, none⟩) h1

theorem kept_below {A : Nat → Prop} {w w' : World} {p : Nat} {st : List UInt8 × Bool} (h : WSt w p A st) (hb : Below w.heap.size w w') : WSt w' p A st := h.kept (hb.block p h.lt) (Kept.of_all hb)

theorem add_st (p : Nat) (A : Nat → Prop) (st : List UInt8 × Bool) (c : List UInt8) (v : Value) (w : World) (hw : WSt w p A st) (hv : BytesIn w A v c) (hA : ∀ k, w.heap.size ≤ k → A k) (hp : ¬ A p) (hl : st.1.length + c.length ≤ 1000000000000) :
    Calls Tryz.prog 88 #[.pointer (some ⟨p, 0, none⟩), v] w fun e w' => e = .returned (.tuple #[]) ∧ WSt w' p A (put st (some c)) ∧ w.grownBy w' (some p) := by
  obtain ⟨bs, bad⟩ := st
  cases bad
  · refine (add_ok p A bs c v w hw hv hA hp hl).mono ?_
    rintro e w' ⟨he, h1, h2⟩
    exact ⟨he, h1, h2⟩
  · refine (add_bad p A bs v w hw).mono ?_
    rintro e w' ⟨he, rfl⟩
    exact ⟨he, hw, grown_refl _ _⟩
theorem refuse_st (p : Nat) (A : Nat → Prop) (st : List UInt8 × Bool) (w : World) (hw : WSt w p A st) (hA : ∀ k, w.heap.size ≤ k → A k) :
    Calls Tryz.prog 87 #[.pointer (some ⟨p, 0, none⟩)] w fun e w' => e = .returned (.tuple #[]) ∧ WSt w' p A (put st none) ∧ w.grownBy w' (some p) := by
  obtain ⟨bs, bad⟩ := st
  cases bad
  · refine (refuse_ok p A bs w hw hA).mono ?_
    rintro e w' ⟨he, h1, h2⟩
    exact ⟨he, h1, h2⟩
  · refine (refuse_bad p A bs w hw).mono ?_
    rintro e w' ⟨he, rfl⟩
    exact ⟨he, hw, grown_refl _ _⟩

set_option maxHeartbeats 4000000 in
theorem wNum_any (p : Nat) (A : Nat → Prop) (st : List UInt8 × Bool) (n : Int) (w : World) (hw : WSt w p A st) (hA : ∀ k, w.heap.size ≤ k → A k) (hp : ¬ A p) (hl : st.1.length ≤ 100000000000) :
    Calls Tryz.prog 71 #[.pointer (some ⟨p, 0, none⟩), .int .i64 n] w fun e w' => e = .returned (.tuple #[]) ∧ WSt w' p A (put st (some (numB n))) ∧ w.grownBy w' (some p) := by
  have H1 := hideIt (aNum_any w.heap.size (.slice none 0 0) [] n w (World.ownsRow_nil _ _ _ _) (Nat.le_refl _) (by simp))
  have HW := hideIt hw
  have HP := hideIt hp
  have HA := hideIt hA
  clear hw hp hA
  go_enter Tryz.func71, Tryz.ntmps71
  go_wp2_with fail
  refine H1.out.mono ?_
  rintro e w1 ⟨v, rfl, ho, hb⟩
  have HB := hideIt hb
  have HV := hideIt (RowIn.of_own ho (fun k hk => HA.out k hk))
  have hs := hb.size
  clear ho hb H1
  go_wp2_with fail
  refine (add_st p A st (numB n) v w1 (kept_below HW.out HB.out) HV.out (fun k hk => HA.out k (by omega)) HP.out (by rw [numB_length]; omega)).mono ?_
  rintro e w2 ⟨rfl, h1, h2⟩
  have H2 := hideIt (And.intro h1 (grown_trans (grown_below HB.out _) h2))
  clear h1 h2
  go_wp2
  go_end0
  exact ⟨rfl, H2.out.1, H2.out.2⟩

/-- what a text adds -/
def textO (s : List UInt8) : Option (List UInt8) := if 65536 < s.length then none else some (textB s)

set_option maxHeartbeats 4000000 in
theorem wText_any (p : Nat) (A A2 : Nat → Prop) (st : List UInt8 × Bool) (sv : Value) (s : List UInt8) (w : World) (hw : WSt w p A st) (hs : BytesIn w A2 sv s) (hsl : s.length ≤ maxLen) (hA : ∀ k, w.heap.size ≤ k → A k) (hp : ¬ A p) (hl : st.1.length ≤ 100000000000) :
    Calls Tryz.prog 70 #[.pointer (some ⟨p, 0, none⟩), sv] w fun e w' => e = .returned (.tuple #[]) ∧ WSt w' p A (put st (textO s)) ∧ w.grownBy w' (some p) := by
  have HS := hideIt (hs.mono (A' := (· < w.heap.size)) (fun _ _ h => h))
  have HW := hideIt hw
  have HP := hideIt hp
  have HA := hideIt hA
  obtain ⟨a, cap, rfl, _⟩ := hs.form
  clear hw hp hA hs
  by_cases h6 : 65536 < s.length
  · have HO : Hid (textO s = none) := if_pos h6
    go_enter Tryz.func70, Tryz.ntmps70
    go_wp2_with fail
    refine (tooLong_any a s.length cap w hsl).mono ?_
    rintro e w1 ⟨rfl, rfl⟩
    rw [decide_eq_true h6]
    go_wp2_with fail
    refine (refuse_st p A st w1 HW.out HA.out).mono ?_
    rintro e w2 ⟨rfl, h1, h2⟩
    have H2 := hideIt (And.intro h1 h2)
    clear h1 h2
    go_wp2
    refine bodyPost_ret (results_none rfl _ _ _) rfl ?_
    rw [HO.out]
    exact ⟨rfl, H2.out.1, H2.out.2⟩
  · have HO : Hid (textO s = some (textB s)) := if_neg h6
    go_enter Tryz.func70, Tryz.ntmps70
    go_wp2_with fail
    refine (tooLong_any a s.length cap w hsl).mono ?_
    rintro e w1 ⟨rfl, rfl⟩
    rw [decide_eq_false h6]
    go_wp2_with fail
    refine (aText_any w1.heap.size (.slice none 0 0) [] _ s w1 HS.out (by omega) (World.ownsRow_nil _ _ _ _) (Nat.le_refl _) (by simp)).mono ?_
    rintro e w2 ⟨v, rfl, ho, hb⟩
    have HB := hideIt hb
    have HV := hideIt (RowIn.of_own ho (fun k hk => HA.out k hk))
    have hs := hb.size
    clear ho hb
    go_wp2_with fail
    refine (add_st p A st (textB s) v w2 (kept_below HW.out HB.out) HV.out (fun k hk => HA.out k (by omega)) HP.out (by rw [textB_length]; omega)).mono ?_
    rintro e w3 ⟨rfl, h1, h2⟩
    have H2 := hideIt (And.intro h1 (grown_trans (grown_below HB.out _) h2))
    clear h1 h2
    go_wp2
    go_end0
    rw [HO.out]
    exact ⟨rfl, H2.out.1, H2.out.2⟩

/-- what a list of texts adds -/
def listO (l : List (List UInt8)) : Option (List UInt8) := if decide (1024 < l.length) || anyLong l then none else some (rowB textB l)
theorem anyLong_not {l : List (List UInt8)} (h : anyLong l = false) : ∀ s ∈ l, s.length ≤ 65536 := by
  intro s hs
  have := List.any_eq_false.1 h s hs
  simpa using this

/-- what numbers add -/
def numsO (l : List Int) : Option (List UInt8) := if 1024 < l.length then none else some (rowB numB l)

end Go.Proofs.YtmhbfplaglipnaaGreatDoor
