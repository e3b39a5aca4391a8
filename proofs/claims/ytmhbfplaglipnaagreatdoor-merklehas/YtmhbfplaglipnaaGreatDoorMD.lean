/-
  What is proved here: are entries right; over this program.
-/
import Derived.Test.YtmhbfplaglipnaaGreatDoorMC
import Derived.WalkLawsBesides
namespace Go.Proofs.YtmhbfplaglipnaaGreatDoor
open Go.RowKit Go.Extern.Stop Go.Stop Go.Extern

/-- byte by byte, a is below b -/
def kLt (a b : List UInt8) : Prop := Op.bytesLess a b = true
theorem kLt_irrefl : ∀ a, ¬ kLt a a
  | [] => by simp [kLt, Op.bytesLess]
  | x :: a => by
    have := kLt_irrefl a
    simp [kLt, Op.bytesLess] at this ⊢
    exact this
theorem kLt_trans : ∀ {a b c}, kLt a b → kLt b c → kLt a c
  | [], [], _, h, _ => by simp [kLt, Op.bytesLess] at h
  | [], _ :: _, [], _, h => by simp [kLt, Op.bytesLess] at h
  | [], _ :: _, _ :: _, _, _ => by simp [kLt, Op.bytesLess]
  | _ :: _, [], _, h, _ => by simp [kLt, Op.bytesLess] at h
  | _ :: _, _ :: _, [], _, h => by simp [kLt, Op.bytesLess] at h
  | x :: a, y :: b, z :: c, h1, h2 => by
    simp only [kLt, Op.bytesLess, Bool.or_eq_true, decide_eq_true_eq, Bool.and_eq_true, beq_iff_eq] at h1 h2 ⊢
    rcases h1 with h1 | ⟨rfl, h1⟩
    · rcases h2 with h2 | ⟨rfl, h2⟩
      · exact Or.inl (UInt8.lt_trans h1 h2)
      · exact Or.inl h1
    · rcases h2 with h2 | ⟨rfl, h2⟩
      · exact Or.inl h2
      · exact Or.inr ⟨rfl, kLt_trans (a := a) (b := b) (c := c) h1 h2⟩
theorem kLt_total : ∀ {a b}, a ≠ b → kLt a b ∨ kLt b a
  | [], [], h => absurd rfl h
  | [], _ :: _, _ => Or.inl (by simp [kLt, Op.bytesLess])
  | _ :: _, [], _ => Or.inr (by simp [kLt, Op.bytesLess])
  | x :: a, y :: b, h => by
    simp only [kLt, Op.bytesLess, Bool.or_eq_true, decide_eq_true_eq, Bool.and_eq_true, beq_iff_eq]
    by_cases e : x = y
    · subst e
      have hne : a ≠ b := fun e => h (by rw [e])
      rcases kLt_total hne with h1 | h1
      · exact Or.inl (Or.inr ⟨rfl, h1⟩)
      · exact Or.inr (Or.inr ⟨rfl, h1⟩)
    · rcases UInt8.lt_or_lt_of_ne e with h1 | h1
      · exact Or.inl (Or.inl h1)
      · exact Or.inr (Or.inl h1)
theorem kLt_asymm {a b : List UInt8} (h : kLt a b) : ¬ kLt b a := fun h2 => kLt_irrefl _ (kLt_trans h h2)
theorem leq_iff (a b : List UInt8) : (Op.bytesLess a b || a == b) = !(Op.bytesLess b a) := by
  by_cases h : kLt b a
  · have h1 : Op.bytesLess a b = false := by simpa [kLt] using kLt_asymm h
    have h2 : (a == b) = false := by
      simp only [beq_eq_false_iff_ne]
      rintro rfl; exact kLt_irrefl _ h
    rw [h1, h2, show Op.bytesLess b a = true from h]; rfl
  · have h1 : Op.bytesLess b a = false := by simpa [kLt] using h
    rw [h1]
    by_cases e : a = b
    · simp [e]
    · rcases kLt_total e with h2 | h2
      · rw [show Op.bytesLess a b = true from h2]; rfl
      · exact absurd h2 h

/-- the first k entries are right -/
def RightTo (l : List Ent) (k : Nat) : Prop :=
  ∀ j, j < k → ∀ e, l[j]? = some e → e.1.length ≤ 16 ∧ e.2.1.length ≤ 64 ∧ ∀ j', j = j' + 1 → ∀ e', l[j']? = some e' → kLt e'.1 e.1
def Right (l : List Ent) : Prop := l.length ≤ 1024 ∧ RightTo l l.length
theorem rightTo_snoc {l : List Ent} {k : Nat} {e : Ent} (he : l[k]? = some e) : RightTo l (k + 1) ↔ RightTo l k ∧ (e.1.length ≤ 16 ∧ e.2.1.length ≤ 64 ∧ ∀ j', k = j' + 1 → ∀ e', l[j']? = some e' → kLt e'.1 e.1) := by
  constructor
  · intro h
    exact ⟨fun j hj => h j (by omega), h k (by omega) e he⟩
  · rintro ⟨h1, h2⟩ j hj x hx
    by_cases e2 : j = k
    · subst e2
      rw [he] at hx; cases hx
      exact h2
    · exact h1 j (by omega) x hx
theorem right_not {l : List Ent} {k : Nat} (hk : k ≤ l.length) (h : ¬ RightTo l k) : ¬ Right l := fun hr => h (fun j hj => hr.2 j (by omega))

/-- what right answers -/
def RightPost (w : World) (l : List Ent) (e : Ending) (w' : World) : Prop := ∃ b : Bool, e = .returned (.bool b) ∧ (b = true ↔ Right l) ∧ Below w.heap.size w w'
theorem RightPost.no {w w' : World} {l : List Ent} (h : ¬ Right l) (hb : Below w.heap.size w w') : RightPost w l (.returned (.bool false)) w' := ⟨false, rfl, ⟨fun h => (nomatch h), fun h2 => absurd h2 h⟩, hb⟩
theorem RightPost.yes {w w' : World} {l : List Ent} (h : Right l) (hb : Below w.heap.size w w') : RightPost w l (.returned (.bool true)) w' := ⟨true, rfl, ⟨fun _ => h, fun _ => rfl⟩, hb⟩

set_option maxRecDepth 100000 in
set_option maxHeartbeats 8000000 in
theorem mright_any (w : World) (A : Nat → Prop) (v : Value) (l : List Ent) (hv : EntsIn w A v l) (hl : l.length ≤ maxLen) :
    Calls Tryz.prog 22 #[v] w (RightPost w l) := by
  have HV := hideIt (hv.mono (A' := (· < w.heap.size)) (fun _ _ h => h))
  obtain ⟨a, cap, rfl⟩ := hv.form
  clear hv
  unfold maxLen at hl
  by_cases h1 : (1024 : Int) < (l.length : Int)
  · go_enter Tryz.func22, Tryz.ntmps22
    go_wp2
    go_ret
    exact .no (fun h => by have := h.1; omega) (Below.refl _ _)
  · go_enter Tryz.func22, Tryz.ntmps22
    go_wp2
    go_loopw [10] (fun i wr => ∃ k : Nat, k ≤ l.length ∧ i = .int .i64 k ∧ Hid (RightTo l k) ∧ Hid (Below w.heap.size w wr)) (fun i _ => l.length - (intOf i).toNat)
    case atStart => exact ⟨0, Nat.zero_le _, rfl, hideIt (fun j hj => by omega), Below.refl _ _⟩
    case round =>
      obtain ⟨k, hk, rfl, HR, HB⟩ := hrel
      have hsz := HB.out.size
      by_cases hlt : k < l.length
      · obtain ⟨x, hx⟩ : ∃ x, l[k]? = some x := ⟨l[k], by simp [hlt]⟩
        have HVr : Hid (EntsIn wr (· < w.heap.size) (.slice a l.length cap) l) := RowIn.kept HV.out (Kept.of_below HB.out (fun _ h _ => h))
        obtain ⟨b, off, rfl, hb, c0, c1, c2⟩ := EntsIn.at HVr.out hx
        have HS := hideIt (rightTo_snoc hx)
        obtain ⟨W, hW, hwb, hws, d0, d1, _⟩ := room3 wr 42 (.string ⟨x.1.toArray⟩) (.string ⟨x.2.1.toArray⟩) (.int .i64 x.2.2)
        have HBW := hideIt (HB.out.trans (hwb.mono hsz))
        have HVW : Hid (EntsIn W (· < w.heap.size) (.slice (some ⟨b, off, none⟩) l.length cap) l) := RowIn.kept HVr.out (Kept.of_all hwb)
        go_wp2_with fail
        rw [← hW]
        clear hW hwb hws c0 c1 c2 HVr hb
        by_cases k1 : (16 : Int) < (x.1.length : Int)
        · have HN : Hid (¬ Right l) := hideIt (right_not (k := k + 1) (by omega) (fun h => by have := (HS.out.1 h).2.1; omega))
          go_quiet (fail)
          have HB2 := hideIt (HBW.out.trans ((below_drewN W nq).mono HBW.out.size))
          go_wp2
          go_ret
          exact .no HN.out HB2.out
        by_cases k2 : (64 : Int) < (x.2.1.length : Int)
        · have HN : Hid (¬ Right l) := hideIt (right_not (k := k + 1) (by omega) (fun h => by have := (HS.out.1 h).2.2.1; omega))
          go_quiet (fail)
          have HB2 := hideIt (HBW.out.trans ((below_drewN W nq).mono HBW.out.size))
          go_wp2
          go_ret
          exact .no HN.out HB2.out
        cases k with
        | zero =>
          have HN : Hid (RightTo l 1) := hideIt (HS.out.2 ⟨HR.out, by omega, by omega, fun j' h => by omega⟩)
          go_quiet (fail)
          have HB2 := hideIt (HBW.out.trans ((below_drewN W nq).mono HBW.out.size))
          go_wp2
          exact ⟨⟨1, by omega, by go_num, HN, HB2.out⟩, by simp [intOf]; omega⟩
        | succ k =>
          obtain ⟨y, hy⟩ : ∃ y, l[k]? = some y := ⟨l[k], by simp [show k < l.length by omega]⟩
          obtain ⟨b', off', hbb, _, p0, _, _⟩ := EntsIn.at HVW.out hy
          cases hbb
          have HY := hideIt hy
          have k3 : (k : Int) < (l.length : Int) := by omega
          have k4 : 0 < (k : Int) + 1 := by omega
          by_cases k6 : kLt y.1 x.1
          · have HN : Hid (RightTo l (k + 1 + 1)) := hideIt (HS.out.2 ⟨HR.out, by omega, by omega, fun j' h e' he' => by
              obtain rfl : k = j' := by omega
              rw [HY.out] at he'; cases he'; exact k6⟩)
            have q1 : Op.bytesLess x.1 y.1 = false := by simpa [kLt] using kLt_asymm k6
            have q2 : (x.1 == y.1) = false := by
              simp only [beq_eq_false_iff_ne]
              intro e; rw [e] at k6; exact kLt_irrefl _ k6
            clear hy k6
            go_quiet (fail)
            have HB2 := hideIt (HBW.out.trans ((below_drewN W nq).mono HBW.out.size))
            go_wp2
            exact ⟨⟨k + 1 + 1, by omega, by go_num, HN, HB2.out⟩, by simp [intOf]; omega⟩
          · have HN : Hid (¬ Right l) := hideIt (right_not (k := k + 1 + 1) (by omega) (fun h => k6 ((HS.out.1 h).2.2.2 k rfl y HY.out)))
            have q1 : Op.bytesLess y.1 x.1 = false := by simpa [kLt] using k6
            have q2 : (Op.bytesLess x.1 y.1 || x.1 == y.1) = true := by rw [leq_iff, q1]; rfl
            clear hy k6 q1
            go_quiet (fail)
            have HB2 := hideIt (HBW.out.trans ((below_drewN W nq).mono HBW.out.size))
            go_wp2
            go_ret
            exact .no HN.out HB2.out
      · have HN : Hid (Right l) := hideIt ⟨by omega, by have := HR.out; rw [show k = l.length by omega] at this; exact this⟩
        go_wp2
        go_ret
        exact .yes HN.out HB.out
end Go.Proofs.YtmhbfplaglipnaaGreatDoor
