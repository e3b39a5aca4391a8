/-
  What is proved here: route's isShard, isRange, wrong, mayBe; over this program.
-/
import Derived.Test.YtafhmbgnldmedaaDoorPC
import Derived.BigQuiet
namespace Go.Proofs.YtafhmbgnldmedaaDoor
open Go.RowKit Go.Extern.Stop Go.Stop Go.Extern

def shardB (s : Int) : Bool := decide (0 ≤ s) && decide (s < 4)
theorem shardB_iff {s : Int} : shardB s = true ↔ IsShard s := by unfold shardB IsShard; simp
theorem rqisShard_any (s : Int) (w : World) : Calls Tryd.prog 32 #[.int .i64 s] w fun e w' => e = .returned (.bool (shardB s)) ∧ w' = w := by
  by_cases h1 : (0 : Int) ≤ s
  · have hb : shardB s = decide (s < 4) := by unfold shardB; rw [decide_eq_true h1]; rfl
    rw [hb]
    go_enter Tryd.func32, Tryd.ntmps32
    go_wp2
    go_ret
    exact ⟨rfl, rfl⟩
  · have hb : shardB s = false := by unfold shardB; rw [decide_eq_false h1]; rfl
    rw [hb]
    go_enter Tryd.func32, Tryd.ntmps32
    go_wp2
    go_ret
    exact ⟨rfl, rfl⟩
def rangeB (fk tk : List UInt8) : Bool := decide (fk.length ≤ 16) && (tk == [] || (Op.bytesLess fk tk && decide (tk.length ≤ 16)))
theorem rangeB_iff {fk tk : List UInt8} : rangeB fk tk = true ↔ IsRange fk tk := by
  unfold rangeB IsRange kLt
  simp
set_option maxHeartbeats 4000000 in
theorem rqisRange_any (fk tk : List UInt8) (w : World) : Calls Tryd.prog 28 #[.string ⟨fk.toArray⟩, .string ⟨tk.toArray⟩] w fun e w' => e = .returned (.bool (rangeB fk tk)) ∧ w' = w := by
  have q1 := leq_iff tk fk
  obtain ⟨b, hb⟩ : ∃ b, b = rangeB fk tk := ⟨_, rfl⟩
  rw [← hb]
  unfold rangeB at hb
  by_cases h1 : (fk.length : Int) ≤ 16
  case neg =>
    rw [decide_eq_false (show ¬ fk.length ≤ 16 by omega)] at hb
    simp at hb
    subst hb
    go_enter Tryd.func28, Tryd.ntmps28
    go_wp2
    go_ret
    exact ⟨rfl, rfl⟩
  rw [decide_eq_true (show fk.length ≤ 16 by omega)] at hb
  cases h2 : (tk == []) with
  | true =>
    rw [h2] at hb
    simp at hb
    subst hb
    go_enter Tryd.func28, Tryd.ntmps28
    go_wp2
    go_ret
    exact ⟨rfl, rfl⟩
  | false =>
    rw [h2] at hb
    cases h3 : Op.bytesLess fk tk with
    | false =>
      rw [h3] at hb q1
      simp at hb
      subst hb
      go_enter Tryd.func28, Tryd.ntmps28
      go_wp2
      go_ret
      exact ⟨rfl, rfl⟩
    | true =>
      rw [h3] at hb q1
      by_cases h4 : (tk.length : Int) ≤ 16
      · rw [decide_eq_true (show tk.length ≤ 16 by omega)] at hb
        simp at hb
        subst hb
        go_enter Tryd.func28, Tryd.ntmps28
        go_wp2
        go_ret
        exact ⟨rfl, rfl⟩
      · rw [decide_eq_false (show ¬ tk.length ≤ 16 by omega)] at hb
        simp at hb
        subst hb
        go_enter Tryd.func28, Tryd.ntmps28
        go_wp2
        go_ret
        exact ⟨rfl, rfl⟩
theorem wrap_one (w : World) (n : Int) (s : ByteArray) (k : Int) : Calls Tryd.prog 46 #[.iface 32 (.int .i64 n), .string s, .int .i64 k] w fun e w' => ∃ er, e = .returned er ∧ One w' (w.heap.size ≤ ·) er n s k ∧ Below w.heap.size w w' := by
  refine (Wrap_some 32 (.int .i64 n) s k w).mono ?_
  rintro e w' ⟨rfl, rfl⟩
  refine ⟨_, rfl, ⟨w.heap.size, rfl, Nat.le_refl _, ?_, ?_, ?_⟩, (Below.refl _ _).alloc (Nat.le_refl _) _⟩
  · rw [World.cell?_alloc_at _ _ _ _ rfl]; rfl
  · rw [World.cell?_alloc_at _ _ _ _ rfl]; rfl
  · rw [World.cell?_alloc_at _ _ _ _ rfl]; rfl
def routeS : ByteArray := ⟨#[114, 111, 117, 116, 101]⟩
set_option maxRecDepth 100000 in
set_option maxHeartbeats 4000000 in
theorem rqwrong_any (w : World) (n k : Int) (hn : (n == 0) = false) :
    Calls Tryd.prog 23 #[.int .i64 n, .int .i64 k] w fun e w' => ∃ er, e = .returned er ∧ One w' (w.heap.size ≤ ·) er n routeS k ∧ Below w.heap.size w w' := by
  have HO := hideIt (fun w => Of_err n hn w)
  have HWR := hideIt (fun (W : World) => wrap_one W n routeS k)
  unfold routeS at HWR
  clear hn
  go_enter Tryd.func23, Tryd.ntmps23
  go_wp2_with (first
    | (go_at_call 47; refine (HO.out _).mono ?_; rintro e w1 ⟨rfl, rfl⟩)
    | (go_at_call 46; refine (HWR.out _).mono ?_; rintro e w3 ⟨er, rfl, ho, hb⟩
       have HR := hideIt (And.intro ho hb)
       clear ho hb))
  go_ret
  exact ⟨er, rfl, HR.out.1, HR.out.2⟩

/-- what mayBe answers -/
def MayPost (w : World) (l : List Pc) (i : Nat) (e : Ending) (w' : World) : Prop := ∃ b : Bool, e = .returned (.bool b) ∧ (b = true ↔ MayAt l i) ∧ Below w.heap.size w w'
theorem MayPost.no {w w' : World} {l : List Pc} {i : Nat} (h : ¬ MayAt l i) (hb : Below w.heap.size w w') : MayPost w l i (.returned (.bool false)) w' := ⟨false, rfl, ⟨fun h => (by cases h), fun h2 => absurd h2 h⟩, hb⟩
theorem MayPost.yes {w w' : World} {l : List Pc} {i : Nat} (h : MayAt l i) (hb : Below w.heap.size w w') : MayPost w l i (.returned (.bool true)) w' := ⟨true, rfl, ⟨fun _ => h, fun _ => rfl⟩, hb⟩
theorem may_zero {l : List Pc} {x : Pc} (hx : l[0]? = some x) : MayAt l 0 ↔ x.1 = [] ∧ PcOk x := by
  constructor
  · intro h
    have := h x hx
    exact ⟨this.1 rfl, this.2.2⟩
  · rintro ⟨h1, h2⟩ y hy
    rw [hx] at hy; cases hy
    exact ⟨fun _ => h1, fun j q e => by omega, h2⟩
theorem may_succ {l : List Pc} {j : Nat} {x y : Pc} (hx : l[j + 1]? = some x) (hy : l[j]? = some y) : MayAt l (j + 1) ↔ kLt y.1 x.1 ∧ PcOk x := by
  constructor
  · intro h
    have := h x hx
    exact ⟨this.2.1 j y rfl hy, this.2.2⟩
  · rintro ⟨h1, h2⟩ z hz
    rw [hx] at hz; cases hz
    refine ⟨fun e => by omega, fun k q e hq => ?_, h2⟩
    obtain rfl : j = k := by omega
    rw [hy] at hq; cases hq; exact h1
set_option maxRecDepth 100000 in
set_option maxHeartbeats 8000000 in
theorem rqmayBe_any (w : World) (A : Nat → Prop) (v : Value) (l : List Pc) (i : Nat) (x : Pc) (hv : PcsIn w A v l) (hx : l[i]? = some x) (hl : l.length ≤ 100000) :
    Calls Tryd.prog 24 #[v, .int .i64 i] w (MayPost w l i) := by
  have HV := hideIt (hv.mono (A' := (· < w.heap.size)) (fun _ _ h => h))
  obtain ⟨a, cap, rfl⟩ := hv.form
  have hil : (i : Int) < (l.length : Int) := by have := (List.getElem?_eq_some_iff.1 hx).1; omega
  obtain ⟨b, off, rfl, hb, c0, c1, c2⟩ := PcsIn.at HV.out hx
  obtain ⟨W, hW, hwb, hws, d0, d1, d2⟩ := room3 w 39 (.string ⟨x.1.toArray⟩) (.int .i64 x.2.1) (.int .i64 x.2.2)
  have HBW := hideIt hwb
  have HVW : Hid (PcsIn W (· < w.heap.size) (.slice (some ⟨b, off, none⟩) l.length cap) l) := RowIn.kept HV.out (Kept.of_all hwb)
  have e0 := (hwb.cell (lt_of_cell c0)).trans c0
  have e1 := (hwb.cell (lt_of_cell c1)).trans c1
  have e2 := (hwb.cell (lt_of_cell c2)).trans c2
  have HX := hideIt hx
  clear hv hwb hws hb hx
  by_cases hi0 : i = 0
  · subst hi0
    have HI := hideIt (may_zero HX.out)
    simp only [Nat.zero_mul, Nat.add_zero] at c0 c1 c2 e0 e1 e2
    rw [show ((0 : Nat) : Int) = 0 from rfl] at hil ⊢
    cases hx1 : (x.1 == []) with
    | false =>
      have HN : Hid (¬ MayAt l 0) := hideIt (fun h => by rw [(HI.out.1 h).1] at hx1; simp at hx1)
      go_enter Tryd.func24, Tryd.ntmps24
      go_wp2_with fail
      rw [← hW]
      clear hW
      go_quiet (fail)
      have HB8 := hideIt (HBW.out.trans ((below_drewN W nq).mono HBW.out.size))
      go_wp2
      go_ret
      exact .no HN.out HB8.out
    | true =>
      have HPRE : Hid (x.1 = []) := hideIt (by simpa using hx1)
      go_enter Tryd.func24, Tryd.ntmps24
      go_wp2_with fail
      rw [← hW]
      clear hW
      go_quiet (fail)
      have HB2 := hideIt (HBW.out.trans ((below_drewN W nq).mono HBW.out.size))
      obtain ⟨sb, hsb⟩ : ∃ sb, sb = shardB x.2.1 := ⟨_, rfl⟩
      have HSB := hideIt hsb
      have HSC := hideIt (fun w : World => rqisShard_any x.2.1 w)
      rw [← hsb] at HSC
      clear hsb
      by_cases h1 : (x.1.length : Int) ≤ 16
      case neg =>
        have HN : Hid (¬ MayAt l 0) := hideIt (fun h => by have := (HI.out.1 h).2.1; omega)
        have h1d : decide ((x.1.length : Int) ≤ 16) = false := decide_eq_false h1
        go_wp2_with (go_at_call 32; refine (HSC.out _).mono ?_; rintro e w4 ⟨rfl, rfl⟩)
        go_ret
        exact .no HN.out HB2.out
      cases sb with
      | false =>
        have HN : Hid (¬ MayAt l 0) := hideIt (fun h => by have h2 := shardB_iff.2 ⟨(HI.out.1 h).2.2.1, (HI.out.1 h).2.2.2.1⟩; rw [← HSB.out] at h2; cases h2)
        have h1d : decide ((x.1.length : Int) ≤ 16) = true := decide_eq_true h1
        go_wp2_with (go_at_call 32; refine (HSC.out _).mono ?_; rintro e w4 ⟨rfl, rfl⟩)
        go_ret
        exact .no HN.out HB2.out
      | true =>
      by_cases h2 : (1 : Int) ≤ x.2.2
      case neg =>
        have HN : Hid (¬ MayAt l 0) := hideIt (fun h => by have := (HI.out.1 h).2.2.2.2.1; omega)
        have h1d : decide ((x.1.length : Int) ≤ 16) = true := decide_eq_true h1
        have h2d : decide ((1 : Int) ≤ x.2.2) = false := decide_eq_false h2
        go_wp2_with (go_at_call 32; refine (HSC.out _).mono ?_; rintro e w4 ⟨rfl, rfl⟩)
        go_ret
        exact .no HN.out HB2.out
      by_cases h3 : x.2.2 ≤ 1099511627776
      case neg =>
        have HN : Hid (¬ MayAt l 0) := hideIt (fun h => by have := (HI.out.1 h).2.2.2.2.2; omega)
        have h1d : decide ((x.1.length : Int) ≤ 16) = true := decide_eq_true h1
        have h2d : decide ((1 : Int) ≤ x.2.2) = true := decide_eq_true h2
        have h3d : decide (x.2.2 ≤ 1099511627776) = false := decide_eq_false h3
        go_wp2_with (go_at_call 32; refine (HSC.out _).mono ?_; rintro e w4 ⟨rfl, rfl⟩)
        go_ret
        exact .no HN.out HB2.out
      have HN : Hid (MayAt l 0) := hideIt (HI.out.2 ⟨HPRE.out, by omega, (shardB_iff.1 HSB.out.symm).1, (shardB_iff.1 HSB.out.symm).2, h2, h3⟩)
      have h1d : decide ((x.1.length : Int) ≤ 16) = true := decide_eq_true h1
      have h2d : decide ((1 : Int) ≤ x.2.2) = true := decide_eq_true h2
      have h3d : decide (x.2.2 ≤ 1099511627776) = true := decide_eq_true h3
      go_wp2_with (go_at_call 32; refine (HSC.out _).mono ?_; rintro e w4 ⟨rfl, rfl⟩)
      go_ret
      exact .yes HN.out HB2.out
  · obtain ⟨j, rfl⟩ : ∃ j, i = j + 1 := ⟨i - 1, by omega⟩
    obtain ⟨y, hy⟩ : ∃ y, l[j]? = some y := ⟨l[j]'(by omega), by simp [show j < l.length by omega]⟩
    have HI := hideIt (may_succ HX.out hy)
    obtain ⟨b', off', hbb, _, p0, _, _⟩ := PcsIn.at HVW.out hy
    cases hbb
    have k3 : (j : Int) < (l.length : Int) := by omega
    have k4 : decide (0 < (j : Int) + 1) = true := decide_eq_true (by omega)
    have k5 : IntKind.i64.wrap (j : Int) = (j : Int) := by simp [IntKind.wrap, IntKind.bits, IntKind.signed]; omega
    have k7 : (((j : Int) + 1) == 0) = false := by simp only [beq_eq_false_iff_ne]; omega
    have q2 := leq_iff x.1 y.1
    clear hy hi0
    by_cases k6 : kLt y.1 x.1
    · have HPRE := hideIt k6
      have q1 : Op.bytesLess y.1 x.1 = true := k6
      rw [q1] at q2
      clear k6
      go_enter Tryd.func24, Tryd.ntmps24
      go_wp2_with fail
      rw [← hW]
      clear hW
      go_quiet (fail)
      have HB2 := hideIt (HBW.out.trans ((below_drewN W nq).mono HBW.out.size))
      obtain ⟨sb, hsb⟩ : ∃ sb, sb = shardB x.2.1 := ⟨_, rfl⟩
      have HSB := hideIt hsb
      have HSC := hideIt (fun w : World => rqisShard_any x.2.1 w)
      rw [← hsb] at HSC
      clear hsb
      by_cases h1 : (x.1.length : Int) ≤ 16
      case neg =>
        have HN : Hid (¬ MayAt l (j + 1)) := hideIt (fun h => by have := (HI.out.1 h).2.1; omega)
        have h1d : decide ((x.1.length : Int) ≤ 16) = false := decide_eq_false h1
        go_wp2_with (go_at_call 32; refine (HSC.out _).mono ?_; rintro e w4 ⟨rfl, rfl⟩)
        go_ret
        exact .no HN.out HB2.out
      cases sb with
      | false =>
        have HN : Hid (¬ MayAt l (j + 1)) := hideIt (fun h => by have h2 := shardB_iff.2 ⟨(HI.out.1 h).2.2.1, (HI.out.1 h).2.2.2.1⟩; rw [← HSB.out] at h2; cases h2)
        have h1d : decide ((x.1.length : Int) ≤ 16) = true := decide_eq_true h1
        go_wp2_with (go_at_call 32; refine (HSC.out _).mono ?_; rintro e w4 ⟨rfl, rfl⟩)
        go_ret
        exact .no HN.out HB2.out
      | true =>
      by_cases h2 : (1 : Int) ≤ x.2.2
      case neg =>
        have HN : Hid (¬ MayAt l (j + 1)) := hideIt (fun h => by have := (HI.out.1 h).2.2.2.2.1; omega)
        have h1d : decide ((x.1.length : Int) ≤ 16) = true := decide_eq_true h1
        have h2d : decide ((1 : Int) ≤ x.2.2) = false := decide_eq_false h2
        go_wp2_with (go_at_call 32; refine (HSC.out _).mono ?_; rintro e w4 ⟨rfl, rfl⟩)
        go_ret
        exact .no HN.out HB2.out
      by_cases h3 : x.2.2 ≤ 1099511627776
      case neg =>
        have HN : Hid (¬ MayAt l (j + 1)) := hideIt (fun h => by have := (HI.out.1 h).2.2.2.2.2; omega)
        have h1d : decide ((x.1.length : Int) ≤ 16) = true := decide_eq_true h1
        have h2d : decide ((1 : Int) ≤ x.2.2) = true := decide_eq_true h2
        have h3d : decide (x.2.2 ≤ 1099511627776) = false := decide_eq_false h3
        go_wp2_with (go_at_call 32; refine (HSC.out _).mono ?_; rintro e w4 ⟨rfl, rfl⟩)
        go_ret
        exact .no HN.out HB2.out
      have HN : Hid (MayAt l (j + 1)) := hideIt (HI.out.2 ⟨HPRE.out, by omega, (shardB_iff.1 HSB.out.symm).1, (shardB_iff.1 HSB.out.symm).2, h2, h3⟩)
      have h1d : decide ((x.1.length : Int) ≤ 16) = true := decide_eq_true h1
      have h2d : decide ((1 : Int) ≤ x.2.2) = true := decide_eq_true h2
      have h3d : decide (x.2.2 ≤ 1099511627776) = true := decide_eq_true h3
      go_wp2_with (go_at_call 32; refine (HSC.out _).mono ?_; rintro e w4 ⟨rfl, rfl⟩)
      go_ret
      exact .yes HN.out HB2.out
    · have HN : Hid (¬ MayAt l (j + 1)) := hideIt (fun h => k6 (HI.out.1 h).1)
      have q1 : Op.bytesLess y.1 x.1 = false := bl_false k6
      rw [q1] at q2
      clear k6
      go_enter Tryd.func24, Tryd.ntmps24
      go_wp2_with fail
      rw [← hW]
      clear hW
      go_quiet (fail)
      have HB8 := hideIt (HBW.out.trans ((below_drewN W nq).mono HBW.out.size))
      go_wp2
      go_ret
      exact .no HN.out HB8.out
end Go.Proofs.YtafhmbgnldmedaaDoor
