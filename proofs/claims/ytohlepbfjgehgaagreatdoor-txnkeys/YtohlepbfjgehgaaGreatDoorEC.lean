/-
  What is proved here: which entries a store may have; its errors; a new one; over this program.
-/
import Derived.Test.YtohlepbfjgehgaaGreatDoorEB
import Derived.Test.YtohlepbfjgehgaaGreatDoorJ1
namespace Go.Proofs.YtohlepbfjgehgaaGreatDoor
open Go.RowKit Go.Extern.Stop Go.Stop Go.Extern

/-- the first k entries may be a store's -/
def FitTo (l : List Ent) (k : Nat) : Prop :=
  ∀ j, j < k → ∀ e, l[j]? = some e → e.1.length ≤ 16 ∧ e.2.1.length ≤ 64 ∧ 1 ≤ e.2.2 ∧ ∀ j', j = j' + 1 → ∀ e', l[j']? = some e' → kLt e'.1 e.1
/-- they may be a store's -/
def Fit (l : List Ent) : Prop := l.length ≤ 128 ∧ FitTo l l.length
theorem fitTo_snoc {l : List Ent} {k : Nat} {e : Ent} (he : l[k]? = some e) : FitTo l (k + 1) ↔ FitTo l k ∧ (e.1.length ≤ 16 ∧ e.2.1.length ≤ 64 ∧ 1 ≤ e.2.2 ∧ ∀ j', k = j' + 1 → ∀ e', l[j']? = some e' → kLt e'.1 e.1) := by
  constructor
  · intro h
    exact ⟨fun j hj => h j (by omega), h k (by omega) e he⟩
  · rintro ⟨h1, h2⟩ j hj x hx
    by_cases e2 : j = k
    · subst e2
      rw [he] at hx; cases hx
      exact h2
    · exact h1 j (by omega) x hx
theorem fit_not {l : List Ent} {k : Nat} (hk : k ≤ l.length) (h : ¬ FitTo l k) : ¬ Fit l := fun hr => h (fun j hj => hr.2 j (by omega))
theorem Fit.rising {l : List Ent} (h : Fit l) : Rising l := by
  intro i j a b hij ha hb
  induction j generalizing b with
  | zero => omega
  | succ j ih =>
    have hjl : j + 1 < l.length := (List.getElem?_eq_some_iff.1 hb).1
    have hc : l[j]? = some l[j] := List.getElem?_eq_getElem (by omega)
    have h1 := (h.2 (j + 1) hjl b hb).2.2.2 j rfl _ hc
    by_cases e : i = j
    · subst e; rw [ha] at hc; cases hc; exact h1
    · exact kLt_trans (ih _ (by omega) hc) h1

/-- what long answers -/
def longB (k v : List UInt8) : Bool := decide (16 < k.length) || decide (64 < v.length)
theorem longB_false {k v : List UInt8} : longB k v = false ↔ k.length ≤ 16 ∧ v.length ≤ 64 := by
  unfold longB
  simp only [Bool.or_eq_false_iff, decide_eq_false_iff_not]; omega
theorem stlong_any (w : World) (k v : List UInt8) :
    Calls Tryz.prog 84 #[.string ⟨k.toArray⟩, .string ⟨v.toArray⟩] w fun e w' => e = .returned (.bool (longB k v)) ∧ Below w.heap.size w w' := by
  by_cases h1 : (16 : Int) < (k.length : Int)
  · have hb : longB k v = true := by unfold longB; rw [decide_eq_true (by omega)]; rfl
    rw [hb]
    go_enter Tryz.func84, Tryz.ntmps84
    go_wp2
    go_ret
    exact ⟨rfl, Below.refl _ _⟩
  · by_cases h2 : (64 : Int) < (v.length : Int)
    · have hb : longB k v = true := by unfold longB; rw [decide_eq_true (show 64 < v.length by omega)]; simp
      rw [hb]
      go_enter Tryz.func84, Tryz.ntmps84
      go_wp2
      go_ret
      exact ⟨rfl, Below.refl _ _⟩
    · have hb : longB k v = false := longB_false.2 ⟨by omega, by omega⟩
      rw [hb]
      go_enter Tryz.func84, Tryz.ntmps84
      go_wp2
      go_ret
      exact ⟨rfl, Below.refl _ _⟩
/-- what right answers -/
def FitPost (w : World) (l : List Ent) (e : Ending) (w' : World) : Prop := ∃ b : Bool, e = .returned (.bool b) ∧ (b = true ↔ Fit l) ∧ Below w.heap.size w w'
theorem FitPost.no {w w' : World} {l : List Ent} (h : ¬ Fit l) (hb : Below w.heap.size w w') : FitPost w l (.returned (.bool false)) w' := ⟨false, rfl, ⟨fun h => (nomatch h), fun h2 => absurd h2 h⟩, hb⟩
theorem FitPost.yes {w w' : World} {l : List Ent} (h : Fit l) (hb : Below w.heap.size w w') : FitPost w l (.returned (.bool true)) w' := ⟨true, rfl, ⟨fun _ => h, fun _ => rfl⟩, hb⟩

set_option maxRecDepth 100000 in
set_option maxHeartbeats 8000000 in
theorem stright_any (w : World) (A : Nat → Prop) (v : Value) (l : List Ent) (hv : EntsIn w A v l) (hl : l.length ≤ maxLen) :
    Calls Tryz.prog 48 #[v] w (FitPost w l) := by
  have HV := hideIt (hv.mono (A' := (· < w.heap.size)) (fun _ _ h => h))
  obtain ⟨a, cap, rfl⟩ := hv.form
  clear hv
  unfold maxLen at hl
  by_cases h1 : (128 : Int) < (l.length : Int)
  · go_enter Tryz.func48, Tryz.ntmps48
    go_wp2
    go_ret
    exact .no (fun h => by have := h.1; omega) (Below.refl _ _)
  · go_enter Tryz.func48, Tryz.ntmps48
    go_wp2
    go_loopw [10] (fun i wr => ∃ k : Nat, k ≤ l.length ∧ i = .int .i64 k ∧ Hid (FitTo l k) ∧ Hid (Below w.heap.size w wr)) (fun i _ => l.length - (intOf i).toNat)
    case atStart => exact ⟨0, Nat.zero_le _, rfl, hideIt (fun j hj => by omega), Below.refl _ _⟩
    case round =>
      obtain ⟨k, hk, rfl, HR, HB⟩ := hrel
      have hsz := HB.out.size
      by_cases hlt : k < l.length
      · obtain ⟨x, hx⟩ : ∃ x, l[k]? = some x := ⟨l[k], by simp [hlt]⟩
        have HVr : Hid (EntsIn wr (· < w.heap.size) (.slice a l.length cap) l) := RowIn.kept HV.out (Kept.of_below HB.out (fun _ h _ => h))
        obtain ⟨b, off, rfl, hb, c0, c1, c2⟩ := EntsIn.at HVr.out hx
        have HS := hideIt (fitTo_snoc hx)
        obtain ⟨W, hW, hwb, hws, d0, d1, d2⟩ := room3 wr 42 (.string ⟨x.1.toArray⟩) (.string ⟨x.2.1.toArray⟩) (.int .i64 x.2.2)
        have HBW := hideIt (HB.out.trans (hwb.mono hsz))
        have HVW : Hid (EntsIn W (· < w.heap.size) (.slice (some ⟨b, off, none⟩) l.length cap) l) := RowIn.kept HVr.out (Kept.of_all hwb)
        obtain ⟨lb, hlb⟩ : ∃ lb, lb = longB x.1 x.2.1 := ⟨_, rfl⟩
        have HLB := hideIt hlb
        go_wp2_with fail
        rw [← hW]
        clear hW hwb hws c0 c1 c2 HVr hb hlb
        cases lb with
        | true =>
          have HN : Hid (¬ Fit l) := hideIt (fit_not (k := k + 1) (by omega) (fun h => by
            have h1 := (HS.out.1 h).2
            have h2 := longB_false.2 ⟨h1.1, h1.2.1⟩
            rw [← HLB.out] at h2; cases h2))
          refine wp_region_quiet_grow (by kernel_rfl) (by kernel_rfl) ?_
          intro ι _ f hf hn
          have r0 := fun i => ((hf i).cell (lt_of_cell d0)).trans d0
          have r1 := fun i => ((hf i).cell (lt_of_cell d1)).trans d1
          have r2 := fun i => ((hf i).cell (lt_of_cell d2)).trans d2
          have HSF := hideIt (fun i => HBW.out.trans ((hf i).mono HBW.out.size))
          have HNN := hideIt hn
          have HA1 := hideIt (fun i => (by have h := stlong_any (f i) x.1 x.2.1; rw [← HLB.out] at h; exact h : Calls _ _ _ (f i) fun e w' => e = .returned (.bool true) ∧ Below (f i).heap.size (f i) w'))
          clear hf hn d0 d1 d2
          repeat (go_big_quiet_step ((go_at_call 84; exact Calls.grow HNN.out (HA1.out _))))
          refine wpQuiet_nil ?_
          rintro w8 ⟨i, rfl⟩
          have HB8 := hideIt (HSF.out i)
          clear HSF HA1 HNN
          generalize f i = w8 at HB8 ⊢
          go_wp2
          go_ret
          exact .no HN.out HB8.out
        | false =>
          have HLL := hideIt (longB_false.1 HLB.out.symm)
          by_cases hv1 : x.2.2 < 1
          · have HN : Hid (¬ Fit l) := hideIt (fit_not (k := k + 1) (by omega) (fun h => by have h1 := (HS.out.1 h).2.2.2.1; omega))
            have hv2 : decide (x.2.2 < 1) = true := decide_eq_true hv1
            refine wp_region_quiet_grow (by kernel_rfl) (by kernel_rfl) ?_
            intro ι _ f hf hn
            have r0 := fun i => ((hf i).cell (lt_of_cell d0)).trans d0
            have r1 := fun i => ((hf i).cell (lt_of_cell d1)).trans d1
            have r2 := fun i => ((hf i).cell (lt_of_cell d2)).trans d2
            have HSF := hideIt (fun i => HBW.out.trans ((hf i).mono HBW.out.size))
            have HNN := hideIt hn
            have HA1 := hideIt (fun i => (by have h := stlong_any (f i) x.1 x.2.1; rw [← HLB.out] at h; exact h : Calls _ _ _ (f i) fun e w' => e = .returned (.bool false) ∧ Below (f i).heap.size (f i) w'))
            clear hf hn d0 d1 d2
            repeat (go_big_quiet_step ((go_at_call 84; exact Calls.grow HNN.out (HA1.out _))))
            refine wpQuiet_nil ?_
            rintro w8 ⟨i, rfl⟩
            have HB8 := hideIt (HSF.out i)
            clear HSF HA1 HNN
            generalize f i = w8 at HB8 ⊢
            go_wp2
            go_ret
            exact .no HN.out HB8.out
          · have HV1 := hideIt hv1
            have hv2 : decide (x.2.2 < 1) = false := decide_eq_false hv1
            clear hv1
            by_cases hk0 : k = 0
            · subst hk0
              have HN : Hid (FitTo l 1) := hideIt (HS.out.2 ⟨HR.out, HLL.out.1, HLL.out.2, by have := HV1.out; omega, fun j' h => by omega⟩)
              refine wp_region_quiet_grow (by kernel_rfl) (by kernel_rfl) ?_
              intro ι _ f hf hn
              have r0 := fun i => ((hf i).cell (lt_of_cell d0)).trans d0
              have r1 := fun i => ((hf i).cell (lt_of_cell d1)).trans d1
              have r2 := fun i => ((hf i).cell (lt_of_cell d2)).trans d2
              have HSF := hideIt (fun i => HBW.out.trans ((hf i).mono HBW.out.size))
              have HNN := hideIt hn
              have HA1 := hideIt (fun i => (by have h := stlong_any (f i) x.1 x.2.1; rw [← HLB.out] at h; exact h : Calls _ _ _ (f i) fun e w' => e = .returned (.bool false) ∧ Below (f i).heap.size (f i) w'))
              clear hf hn d0 d1 d2
              repeat (go_big_quiet_step ((go_at_call 84; exact Calls.grow HNN.out (HA1.out _))))
              refine wpQuiet_nil ?_
              rintro w8 ⟨i, rfl⟩
              have HB8 := hideIt (HSF.out i)
              clear HSF HA1 HNN
              generalize f i = w8 at HB8 ⊢
              go_wp2
              exact ⟨⟨1, by omega, by go_num, HN, HB8⟩, by simp [intOf]; omega⟩
            · obtain ⟨j, rfl⟩ : ∃ j, k = j + 1 := ⟨k - 1, by omega⟩
              obtain ⟨y, hy⟩ : ∃ y, l[j]? = some y := ⟨l[j], by simp [show j < l.length by omega]⟩
              obtain ⟨b', off', hbb, _, p0, _, _⟩ := EntsIn.at HVW.out hy
              cases hbb
              have HY := hideIt hy
              have k3 : (j : Int) < (l.length : Int) := by omega
              have k4 : decide (0 < (j : Int) + 1) = true := decide_eq_true (by omega)
              have k5 : IntKind.i64.wrap (j : Int) = (j : Int) := by simp [IntKind.wrap, IntKind.bits, IntKind.signed]; omega
              clear hy hk0
              by_cases k6 : kLt y.1 x.1
              · have HN : Hid (FitTo l (j + 1 + 1)) := hideIt (HS.out.2 ⟨HR.out, HLL.out.1, HLL.out.2, by have := HV1.out; omega, fun j' h e' he' => by
                  obtain rfl : j = j' := by omega
                  rw [HY.out] at he'; cases he'; exact k6⟩)
                have q1 : Op.bytesLess x.1 y.1 = false := by simpa [kLt] using kLt_asymm k6
                have q2 : (x.1 == y.1) = false := by
                  simp only [beq_eq_false_iff_ne]
                  intro e; rw [e] at k6; exact kLt_irrefl _ k6
                clear k6
                refine wp_region_quiet_grow (by kernel_rfl) (by kernel_rfl) ?_
                intro ι _ f hf hn
                have r0 := fun i => ((hf i).cell (lt_of_cell d0)).trans d0
                have r1 := fun i => ((hf i).cell (lt_of_cell d1)).trans d1
                have r2 := fun i => ((hf i).cell (lt_of_cell d2)).trans d2
                have r3 := fun i => ((hf i).cell (lt_of_cell p0)).trans p0
                have HSF := hideIt (fun i => HBW.out.trans ((hf i).mono HBW.out.size))
                have HNN := hideIt hn
                have HA1 := hideIt (fun i => (by have h := stlong_any (f i) x.1 x.2.1; rw [← HLB.out] at h; exact h : Calls _ _ _ (f i) fun e w' => e = .returned (.bool false) ∧ Below (f i).heap.size (f i) w'))
                clear hf hn d0 d1 d2 p0
                repeat (go_big_quiet_step ((go_at_call 84; exact Calls.grow HNN.out (HA1.out _))))
                refine wpQuiet_nil ?_
                rintro w8 ⟨i, rfl⟩
                have HB8 := hideIt (HSF.out i)
                clear HSF HA1 HNN
                generalize f i = w8 at HB8 ⊢
                go_wp2
                exact ⟨⟨j + 1 + 1, by omega, by go_num, HN, HB8⟩, by simp [intOf]; omega⟩
              · have HN : Hid (¬ Fit l) := hideIt (fit_not (k := j + 1 + 1) (by omega) (fun h => k6 ((HS.out.1 h).2.2.2.2 j rfl y HY.out)))
                have q1 : Op.bytesLess y.1 x.1 = false := by simpa [kLt] using k6
                have q2 : (Op.bytesLess x.1 y.1 || x.1 == y.1) = true := by rw [leq_iff, q1]; rfl
                clear k6 q1
                refine wp_region_quiet_grow (by kernel_rfl) (by kernel_rfl) ?_
                intro ι _ f hf hn
                have r0 := fun i => ((hf i).cell (lt_of_cell d0)).trans d0
                have r1 := fun i => ((hf i).cell (lt_of_cell d1)).trans d1
                have r2 := fun i => ((hf i).cell (lt_of_cell d2)).trans d2
                have r3 := fun i => ((hf i).cell (lt_of_cell p0)).trans p0
                have HSF := hideIt (fun i => HBW.out.trans ((hf i).mono HBW.out.size))
                have HNN := hideIt hn
                have HA1 := hideIt (fun i => (by have h := stlong_any (f i) x.1 x.2.1; rw [← HLB.out] at h; exact h : Calls _ _ _ (f i) fun e w' => e = .returned (.bool false) ∧ Below (f i).heap.size (f i) w'))
                clear hf hn d0 d1 d2 p0
                repeat (go_big_quiet_step ((go_at_call 84; exact Calls.grow HNN.out (HA1.out _))))
                refine wpQuiet_nil ?_
                rintro w8 ⟨i, rfl⟩
                have HB8 := hideIt (HSF.out i)
                clear HSF HA1 HNN
                generalize f i = w8 at HB8 ⊢
                go_wp2
                go_ret
                exact .no HN.out HB8.out
      · have HN : Hid (Fit l) := hideIt ⟨by omega, by have := HR.out; rw [show k = l.length by omega] at this; exact this⟩
        go_wp2
        go_ret
        exact .yes HN.out HB.out
end Go.Proofs.YtohlepbfjgehgaaGreatDoor
