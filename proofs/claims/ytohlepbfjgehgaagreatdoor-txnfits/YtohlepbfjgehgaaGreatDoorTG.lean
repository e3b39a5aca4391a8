/-
  What is proved here: is a transaction right; over this program.
-/
import Derived.Test.YtohlepbfjgehgaaGreatDoorTF
namespace Go.Proofs.YtohlepbfjgehgaaGreatDoor
open Go.RowKit Go.Extern.Stop Go.Stop Go.Extern

def okR (x : Rd) : Bool := decide (0 ≤ x.2) && decide (x.2 ≤ 1099511627776)
def okW (x : Wr) : Bool := decide ((x.2.length : Int) ≤ 64)
set_option maxRecDepth 100000 in
set_option maxHeartbeats 4000000 in
theorem txriA_any (x : Rd) (w : World) : Calls Tryz.prog 75 #[rdV x] w fun e w' => e = .returned (.bool (okR x)) ∧ Below w.heap.size w w' := by
  unfold rdV
  obtain ⟨W, hW, hwb, _, c0, c1⟩ := room2 w 54 (.string ⟨x.1.toArray⟩) (.int .i64 x.2)
  have HB := hideIt hwb
  obtain ⟨n, hn⟩ : ∃ n, n = x.2 := ⟨_, rfl⟩
  have HE : Hid (okR x = (decide (0 ≤ n) && decide (n ≤ 1099511627776))) := hideIt (by unfold okR; rw [hn])
  rw [← hn] at hW c1 ⊢
  clear hwb hn
  subst hW
  by_cases h1 : 0 ≤ n
  · have h2 : ¬ n < 0 := by omega
    rw [decide_eq_true h1, Bool.true_and] at HE
    go_enter Tryz.func75, Tryz.ntmps75
    go_wp2
    go_ret
    exact ⟨by rw [HE.out]; rfl, HB.out⟩
  · have h2 : n < 0 := by omega
    rw [decide_eq_false h1, Bool.false_and] at HE
    go_enter Tryz.func75, Tryz.ntmps75
    go_wp2
    go_ret
    exact ⟨by rw [HE.out]; rfl, HB.out⟩
set_option maxRecDepth 100000 in
set_option maxHeartbeats 4000000 in
theorem txriB_any (x : Wr) (w : World) : Calls Tryz.prog 77 #[wrV x] w fun e w' => e = .returned (.bool (okW x)) ∧ Below w.heap.size w w' := by
  unfold wrV
  obtain ⟨W, hW, hwb, _, c0, c1⟩ := room2 w 48 (.string ⟨x.1.toArray⟩) (.string ⟨x.2.toArray⟩)
  have HB := hideIt hwb
  clear hwb
  subst hW
  go_enter Tryz.func77, Tryz.ntmps77
  go_wp2
  go_ret
  exact ⟨by unfold okW; simp, HB.out⟩

/-- is the one at k short enough, above the one ahead, and else right? -/
def atR (l : List Rd) (k : Nat) : Bool := match l[k]? with
  | none => true
  | some x => !(decide ((16 : Int) < (x.1.length : Int))) && ((match k with | 0 => true | j + 1 => match l[j]? with | some y => Op.bytesLess y.1 x.1 | none => true) && okR x)
def allR (l : List Rd) : Bool := !(decide ((8 : Int) < (l.length : Int))) && (List.range l.length).all (atR l)
theorem allR_no {l : List Rd} {k : Nat} (hk : k < l.length) (h : atR l k = false) : allR l = false := by
  unfold allR
  rw [Bool.and_eq_false_iff]
  right
  rw [List.all_eq_false]
  exact ⟨k, List.mem_range.2 hk, by simp [h]⟩
theorem allR_take {l : List Rd} {k : Nat} (h : (List.range k).all (atR l) = true) (hk : atR l k = true) : (List.range (k + 1)).all (atR l) = true := by
  rw [List.range_succ, List.all_append, h, Bool.true_and]
  simpa using hk
set_option maxRecDepth 100000 in
set_option maxHeartbeats 32000000 in
theorem txarR_any (w : World) (A : Nat → Prop) (v : Value) (l : List Rd) (hv : RdsIn w A v l) (hl : l.length ≤ maxLen) :
    Calls Tryz.prog 74 #[v, .func (.func 29) #[] #[], .func (.func 75) #[] #[]] w fun e w' => e = .returned (.bool (allR l)) ∧ Below w.heap.size w w' := by
  have HV := hideIt (RowIn.lt hv)
  unfold maxLen at hl
  obtain ⟨a, cap, rfl⟩ := RdsIn.form hv
  clear hv
  by_cases h8 : (8 : Int) < (l.length : Int)
  · have HE : Hid (allR l = false) := hideIt (by unfold allR; rw [decide_eq_true h8]; rfl)
    go_enter Tryz.func74, Tryz.ntmps74
    go_wp2
    go_ret
    exact ⟨by rw [HE.out]; rfl, Below.refl _ _⟩
  · go_enter Tryz.func74, Tryz.ntmps74
    go_wp2
    go_loopw [14] (fun i wr => ∃ k : Nat, k ≤ l.length ∧ i = .int .i64 k ∧ Hid ((List.range k).all (atR l) = true) ∧ Hid (Below w.heap.size w wr)) (fun i _ => l.length - (intOf i).toNat)
    case atStart => exact ⟨0, Nat.zero_le _, rfl, rfl, Below.refl _ _⟩
    case round =>
      obtain ⟨k, hk, rfl, HN, HB⟩ := hrel
      by_cases hlt : k < l.length
      · obtain ⟨x, hx⟩ : ∃ x, l[k]? = some x := ⟨l[k], by simp [hlt]⟩
        have HVr := hideIt (RowIn.low HV.out HB.out)
        obtain ⟨b, off, ha, _, c0, c1⟩ := RdsIn.at HVr.out hx
        have HX := hideIt hx
        obtain ⟨W, hW, hwb, hws, e0, e1⟩ := room2 wr 54 (.string ⟨x.1.toArray⟩) (.int .i64 x.2)
        have HBW : Hid (Below w.heap.size w W) := hideIt (HB.out.trans (hwb.mono HB.out.size))
        have HVW := hideIt (RowIn.low HV.out HBW.out)
        obtain ⟨rest, hrest⟩ : ∃ r, okR x = r := ⟨_, rfl⟩
        have HR := hideIt hrest
        have HK1 := hideIt (txreadKey_any x)
        have HK2 := hideIt (txriA_any x)
        rw [hrest] at HK2
        unfold rdV at HK1 HK2
        clear hx HVr hwb hrest
        subst ha
        by_cases h16 : (16 : Int) < (x.1.length : Int)
        · have HE : Hid (allR l = false) := hideIt (allR_no hlt (by unfold atR; rw [HX.out]; simp only [decide_eq_true h16]; rfl))
          have hd16 : decide ((16 : Int) < (x.1.length : Int)) = true := decide_eq_true h16
          go_wp2_with fail
          rw [← hW]
          clear hW c0 c1
          refine wp_region_quiet_grow (by kernel_rfl) (by kernel_rfl) ?_
          intro ι _ f hf hn
          have s0 := fun i => ((hf i).cell (lt_of_cell e0)).trans e0
          have s1 := fun i => ((hf i).cell (lt_of_cell e1)).trans e1
          have HSF := hideIt hf
          have HNN := hideIt hn
          clear hf hn e0 e1
          repeat (go_big_quiet_step (first | (go_at_call 29; exact Calls.grow HNN.out (HK1.out _)) | (go_at_call 75; exact Calls.grow HNN.out (HK2.out _))))
          refine wpQuiet_nil ?_
          rintro w7 ⟨i, rfl⟩
          have HB7 := hideIt (HBW.out.trans ((HSF.out i).mono HBW.out.size))
          go_wp2
          go_ret
          exact ⟨by rw [HE.out]; rfl, HB7.out⟩
        · have hd16 : decide ((16 : Int) < (x.1.length : Int)) = false := decide_eq_false h16
          cases k with
          | zero =>
            rw [Nat.zero_mul, Nat.add_zero] at c0 c1
            have HAT : Hid (atR l 0 = rest) := hideIt (by unfold atR; rw [HX.out]; simp only [hd16, Bool.not_false, Bool.true_and]; exact HR.out)
            cases rest with
            | false =>
              have HE : Hid (allR l = false) := hideIt (allR_no hlt HAT.out)
              go_wp2_with fail
              rw [← hW]
              clear hW c0 c1
              refine wp_region_quiet_grow (by kernel_rfl) (by kernel_rfl) ?_
              intro ι _ f hf hn
              have s0 := fun i => ((hf i).cell (lt_of_cell e0)).trans e0
              have s1 := fun i => ((hf i).cell (lt_of_cell e1)).trans e1
              have HSF := hideIt hf
              have HNN := hideIt hn
              clear hf hn e0 e1
              repeat (go_big_quiet_step (first | (go_at_call 29; exact Calls.grow HNN.out (HK1.out _)) | (go_at_call 75; exact Calls.grow HNN.out (HK2.out _))))
              refine wpQuiet_nil ?_
              rintro w7 ⟨i, rfl⟩
              have HB7 := hideIt (HBW.out.trans ((HSF.out i).mono HBW.out.size))
              go_wp2
              go_ret
              exact ⟨by rw [HE.out]; rfl, HB7.out⟩
            | true =>
              have HN2 : Hid ((List.range (0 + 1)).all (atR l) = true) := hideIt (allR_take HN.out HAT.out)
              go_wp2_with fail
              rw [← hW]
              clear hW c0 c1
              refine wp_region_quiet_grow (by kernel_rfl) (by kernel_rfl) ?_
              intro ι _ f hf hn
              have s0 := fun i => ((hf i).cell (lt_of_cell e0)).trans e0
              have s1 := fun i => ((hf i).cell (lt_of_cell e1)).trans e1
              have HSF := hideIt hf
              have HNN := hideIt hn
              clear hf hn e0 e1
              repeat (go_big_quiet_step (first | (go_at_call 29; exact Calls.grow HNN.out (HK1.out _)) | (go_at_call 75; exact Calls.grow HNN.out (HK2.out _))))
              refine wpQuiet_nil ?_
              rintro w7 ⟨i, rfl⟩
              have HB7 := hideIt (HBW.out.trans ((HSF.out i).mono HBW.out.size))
              go_wp2
              go_roundw
              case rel => exact ⟨0 + 1, by omega, by go_num, HN2.out, HB7.out⟩
              case measure => simp [intOf]; omega
          | succ j =>
            obtain ⟨y, hy⟩ : ∃ y, l[j]? = some y := ⟨l[j]'(by omega), by simp [show j < l.length by omega]⟩
            obtain ⟨b', off', hb', _, p0, p1⟩ := RdsIn.at HVW.out hy
            simp only [Option.some.injEq, Addr.mk.injEq, and_true] at hb'
            obtain ⟨rfl, rfl⟩ := hb'
            have HK3 := hideIt (txreadKey_any y)
            unfold rdV at HK3
            have hleq := leq_iff x.1 y.1
            obtain ⟨ls, hls⟩ : ∃ r, Op.bytesLess y.1 x.1 = r := ⟨_, rfl⟩
            rw [hls] at hleq
            have HAT : Hid (atR l (j + 1) = (ls && rest)) := hideIt (by unfold atR; rw [HX.out]; simp only [hd16, Bool.not_false, Bool.true_and, hy, hls, HR.out])
            have hj1 : IntKind.i64.wrap (((j : Nat) : Int) + 1 - 1) = (j : Int) := by simp [IntKind.wrap, IntKind.bits, IntKind.signed]; omega
            clear hy hls
            cases ls with
            | false =>
              have HE : Hid (allR l = false) := hideIt (allR_no hlt HAT.out)
              go_wp2_with fail
              rw [← hW]
              clear hW c0 c1
              refine wp_region_quiet_grow (by kernel_rfl) (by kernel_rfl) ?_
              intro ι _ f hf hn
              have s0 := fun i => ((hf i).cell (lt_of_cell e0)).trans e0
              have s1 := fun i => ((hf i).cell (lt_of_cell e1)).trans e1
              have t0 := fun i => ((hf i).cell (lt_of_cell p0)).trans p0
              have t1 := fun i => ((hf i).cell (lt_of_cell p1)).trans p1
              have HSF := hideIt hf
              have HNN := hideIt hn
              clear hf hn e0 e1 p0 p1
              repeat (go_big_quiet_step (first | (go_at_call 29; exact Calls.grow HNN.out (HK1.out _)) | (go_at_call 29; exact Calls.grow HNN.out (HK3.out _)) | (go_at_call 75; exact Calls.grow HNN.out (HK2.out _))))
              refine wpQuiet_nil ?_
              rintro w7 ⟨i, rfl⟩
              have HB7 := hideIt (HBW.out.trans ((HSF.out i).mono HBW.out.size))
              go_wp2
              go_ret
              exact ⟨by rw [HE.out]; rfl, HB7.out⟩
            | true =>
              cases rest with
              | false =>
                have HE : Hid (allR l = false) := hideIt (allR_no hlt HAT.out)
                go_wp2_with fail
                rw [← hW]
                clear hW c0 c1
                refine wp_region_quiet_grow (by kernel_rfl) (by kernel_rfl) ?_
                intro ι _ f hf hn
                have s0 := fun i => ((hf i).cell (lt_of_cell e0)).trans e0
                have s1 := fun i => ((hf i).cell (lt_of_cell e1)).trans e1
                have t0 := fun i => ((hf i).cell (lt_of_cell p0)).trans p0
                have t1 := fun i => ((hf i).cell (lt_of_cell p1)).trans p1
                have HSF := hideIt hf
                have HNN := hideIt hn
                clear hf hn e0 e1 p0 p1
                repeat (go_big_quiet_step (first | (go_at_call 29; exact Calls.grow HNN.out (HK1.out _)) | (go_at_call 29; exact Calls.grow HNN.out (HK3.out _)) | (go_at_call 75; exact Calls.grow HNN.out (HK2.out _))))
                refine wpQuiet_nil ?_
                rintro w7 ⟨i, rfl⟩
                have HB7 := hideIt (HBW.out.trans ((HSF.out i).mono HBW.out.size))
                go_wp2
                go_ret
                exact ⟨by rw [HE.out]; rfl, HB7.out⟩
              | true =>
                have HN2 : Hid ((List.range (j + 1 + 1)).all (atR l) = true) := hideIt (allR_take HN.out HAT.out)
                go_wp2_with fail
                rw [← hW]
                clear hW c0 c1
                refine wp_region_quiet_grow (by kernel_rfl) (by kernel_rfl) ?_
                intro ι _ f hf hn
                have s0 := fun i => ((hf i).cell (lt_of_cell e0)).trans e0
                have s1 := fun i => ((hf i).cell (lt_of_cell e1)).trans e1
                have t0 := fun i => ((hf i).cell (lt_of_cell p0)).trans p0
                have t1 := fun i => ((hf i).cell (lt_of_cell p1)).trans p1
                have HSF := hideIt hf
                have HNN := hideIt hn
                clear hf hn e0 e1 p0 p1
                repeat (go_big_quiet_step (first | (go_at_call 29; exact Calls.grow HNN.out (HK1.out _)) | (go_at_call 29; exact Calls.grow HNN.out (HK3.out _)) | (go_at_call 75; exact Calls.grow HNN.out (HK2.out _))))
                refine wpQuiet_nil ?_
                rintro w7 ⟨i, rfl⟩
                have HB7 := hideIt (HBW.out.trans ((HSF.out i).mono HBW.out.size))
                go_wp2
                go_roundw
                case rel => exact ⟨j + 1 + 1, by omega, by go_num, HN2.out, HB7.out⟩
                case measure => simp [intOf]; omega
      · have HE : Hid (allR l = true) := hideIt (by
          unfold allR
          have := HN.out
          rw [show k = l.length by omega] at this
          rw [this, decide_eq_false (show ¬ (8 : Int) < (l.length : Int) by omega)]; rfl)
        go_wp2
        go_ret
        exact ⟨by rw [HE.out]; rfl, HB.out⟩
/-- is the one at k short enough, above the one ahead, and else right? -/
def atW (l : List Wr) (k : Nat) : Bool := match l[k]? with
  | none => true
  | some x => !(decide ((16 : Int) < (x.1.length : Int))) && ((match k with | 0 => true | j + 1 => match l[j]? with | some y => Op.bytesLess y.1 x.1 | none => true) && okW x)
def allW (l : List Wr) : Bool := !(decide ((8 : Int) < (l.length : Int))) && (List.range l.length).all (atW l)
theorem allW_no {l : List Wr} {k : Nat} (hk : k < l.length) (h : atW l k = false) : allW l = false := by
  unfold allW
  rw [Bool.and_eq_false_iff]
  right
  rw [List.all_eq_false]
  exact ⟨k, List.mem_range.2 hk, by simp [h]⟩
theorem allW_take {l : List Wr} {k : Nat} (h : (List.range k).all (atW l) = true) (hk : atW l k = true) : (List.range (k + 1)).all (atW l) = true := by
  rw [List.range_succ, List.all_append, h, Bool.true_and]
  simpa using hk
set_option maxRecDepth 100000 in
set_option maxHeartbeats 32000000 in
theorem txarW_any (w : World) (A : Nat → Prop) (v : Value) (l : List Wr) (hv : WrsIn w A v l) (hl : l.length ≤ maxLen) :
    Calls Tryz.prog 76 #[v, .func (.func 32) #[] #[], .func (.func 77) #[] #[]] w fun e w' => e = .returned (.bool (allW l)) ∧ Below w.heap.size w w' := by
  have HV := hideIt (RowIn.lt hv)
  unfold maxLen at hl
  obtain ⟨a, cap, rfl⟩ := WrsIn.form hv
  clear hv
  by_cases h8 : (8 : Int) < (l.length : Int)
  · have HE : Hid (allW l = false) := hideIt (by unfold allW; rw [decide_eq_true h8]; rfl)
    go_enter Tryz.func76, Tryz.ntmps76
    go_wp2
    go_ret
    exact ⟨by rw [HE.out]; rfl, Below.refl _ _⟩
  · go_enter Tryz.func76, Tryz.ntmps76
    go_wp2
    go_loopw [14] (fun i wr => ∃ k : Nat, k ≤ l.length ∧ i = .int .i64 k ∧ Hid ((List.range k).all (atW l) = true) ∧ Hid (Below w.heap.size w wr)) (fun i _ => l.length - (intOf i).toNat)
    case atStart => exact ⟨0, Nat.zero_le _, rfl, rfl, Below.refl _ _⟩
    case round =>
      obtain ⟨k, hk, rfl, HN, HB⟩ := hrel
      by_cases hlt : k < l.length
      · obtain ⟨x, hx⟩ : ∃ x, l[k]? = some x := ⟨l[k], by simp [hlt]⟩
        have HVr := hideIt (RowIn.low HV.out HB.out)
        obtain ⟨b, off, ha, _, c0, c1⟩ := WrsIn.at HVr.out hx
        have HX := hideIt hx
        obtain ⟨W, hW, hwb, hws, e0, e1⟩ := room2 wr 48 (.string ⟨x.1.toArray⟩) (.string ⟨(x.2).toArray⟩)
        have HBW : Hid (Below w.heap.size w W) := hideIt (HB.out.trans (hwb.mono HB.out.size))
        have HVW := hideIt (RowIn.low HV.out HBW.out)
        obtain ⟨rest, hrest⟩ : ∃ r, okW x = r := ⟨_, rfl⟩
        have HR := hideIt hrest
        have HK1 := hideIt (txwriteKey_any x)
        have HK2 := hideIt (txriB_any x)
        rw [hrest] at HK2
        unfold wrV at HK1 HK2
        clear hx HVr hwb hrest
        subst ha
        by_cases h16 : (16 : Int) < (x.1.length : Int)
        · have HE : Hid (allW l = false) := hideIt (allW_no hlt (by unfold atW; rw [HX.out]; simp only [decide_eq_true h16]; rfl))
          have hd16 : decide ((16 : Int) < (x.1.length : Int)) = true := decide_eq_true h16
          go_wp2_with fail
          rw [← hW]
          clear hW c0 c1
          refine wp_region_quiet_grow (by kernel_rfl) (by kernel_rfl) ?_
          intro ι _ f hf hn
          have s0 := fun i => ((hf i).cell (lt_of_cell e0)).trans e0
          have s1 := fun i => ((hf i).cell (lt_of_cell e1)).trans e1
          have HSF := hideIt hf
          have HNN := hideIt hn
          clear hf hn e0 e1
          repeat (go_big_quiet_step (first | (go_at_call 32; exact Calls.grow HNN.out (HK1.out _)) | (go_at_call 77; exact Calls.grow HNN.out (HK2.out _))))
          refine wpQuiet_nil ?_
          rintro w7 ⟨i, rfl⟩
          have HB7 := hideIt (HBW.out.trans ((HSF.out i).mono HBW.out.size))
          go_wp2
          go_ret
          exact ⟨by rw [HE.out]; rfl, HB7.out⟩
        · have hd16 : decide ((16 : Int) < (x.1.length : Int)) = false := decide_eq_false h16
          cases k with
          | zero =>
            rw [Nat.zero_mul, Nat.add_zero] at c0 c1
            have HAT : Hid (atW l 0 = rest) := hideIt (by unfold atW; rw [HX.out]; simp only [hd16, Bool.not_false, Bool.true_and]; exact HR.out)
            cases rest with
            | false =>
              have HE : Hid (allW l = false) := hideIt (allW_no hlt HAT.out)
              go_wp2_with fail
              rw [← hW]
              clear hW c0 c1
              refine wp_region_quiet_grow (by kernel_rfl) (by kernel_rfl) ?_
              intro ι _ f hf hn
              have s0 := fun i => ((hf i).cell (lt_of_cell e0)).trans e0
              have s1 := fun i => ((hf i).cell (lt_of_cell e1)).trans e1
              have HSF := hideIt hf
              have HNN := hideIt hn
              clear hf hn e0 e1
              repeat (go_big_quiet_step (first | (go_at_call 32; exact Calls.grow HNN.out (HK1.out _)) | (go_at_call 77; exact Calls.grow HNN.out (HK2.out _))))
              refine wpQuiet_nil ?_
              rintro w7 ⟨i, rfl⟩
              have HB7 := hideIt (HBW.out.trans ((HSF.out i).mono HBW.out.size))
              go_wp2
              go_ret
              exact ⟨by rw [HE.out]; rfl, HB7.out⟩
            | true =>
              have HN2 : Hid ((List.range (0 + 1)).all (atW l) = true) := hideIt (allW_take HN.out HAT.out)
              go_wp2_with fail
              rw [← hW]
              clear hW c0 c1
              refine wp_region_quiet_grow (by kernel_rfl) (by kernel_rfl) ?_
              intro ι _ f hf hn
              have s0 := fun i => ((hf i).cell (lt_of_cell e0)).trans e0
              have s1 := fun i => ((hf i).cell (lt_of_cell e1)).trans e1
              have HSF := hideIt hf
              have HNN := hideIt hn
              clear hf hn e0 e1
              repeat (go_big_quiet_step (first | (go_at_call 32; exact Calls.grow HNN.out (HK1.out _)) | (go_at_call 77; exact Calls.grow HNN.out (HK2.out _))))
              refine wpQuiet_nil ?_
              rintro w7 ⟨i, rfl⟩
              have HB7 := hideIt (HBW.out.trans ((HSF.out i).mono HBW.out.size))
              go_wp2
              go_roundw
              case rel => exact ⟨0 + 1, by omega, by go_num, HN2.out, HB7.out⟩
              case measure => simp [intOf]; omega
          | succ j =>
            obtain ⟨y, hy⟩ : ∃ y, l[j]? = some y := ⟨l[j]'(by omega), by simp [show j < l.length by omega]⟩
            obtain ⟨b', off', hb', _, p0, p1⟩ := WrsIn.at HVW.out hy
            simp only [Option.some.injEq, Addr.mk.injEq, and_true] at hb'
            obtain ⟨rfl, rfl⟩ := hb'
            have HK3 := hideIt (txwriteKey_any y)
            unfold wrV at HK3
            have hleq := leq_iff x.1 y.1
            obtain ⟨ls, hls⟩ : ∃ r, Op.bytesLess y.1 x.1 = r := ⟨_, rfl⟩
            rw [hls] at hleq
            have HAT : Hid (atW l (j + 1) = (ls && rest)) := hideIt (by unfold atW; rw [HX.out]; simp only [hd16, Bool.not_false, Bool.true_and, hy, hls, HR.out])
            have hj1 : IntKind.i64.wrap (((j : Nat) : Int) + 1 - 1) = (j : Int) := by simp [IntKind.wrap, IntKind.bits, IntKind.signed]; omega
            clear hy hls
            cases ls with
            | false =>
              have HE : Hid (allW l = false) := hideIt (allW_no hlt HAT.out)
              go_wp2_with fail
              rw [← hW]
              clear hW c0 c1
              refine wp_region_quiet_grow (by kernel_rfl) (by kernel_rfl) ?_
              intro ι _ f hf hn
              have s0 := fun i => ((hf i).cell (lt_of_cell e0)).trans e0
              have s1 := fun i => ((hf i).cell (lt_of_cell e1)).trans e1
              have t0 := fun i => ((hf i).cell (lt_of_cell p0)).trans p0
              have t1 := fun i => ((hf i).cell (lt_of_cell p1)).trans p1
              have HSF := hideIt hf
              have HNN := hideIt hn
              clear hf hn e0 e1 p0 p1
              repeat (go_big_quiet_step (first | (go_at_call 32; exact Calls.grow HNN.out (HK1.out _)) | (go_at_call 32; exact Calls.grow HNN.out (HK3.out _)) | (go_at_call 77; exact Calls.grow HNN.out (HK2.out _))))
              refine wpQuiet_nil ?_
              rintro w7 ⟨i, rfl⟩
              have HB7 := hideIt (HBW.out.trans ((HSF.out i).mono HBW.out.size))
              go_wp2
              go_ret
              exact ⟨by rw [HE.out]; rfl, HB7.out⟩
            | true =>
              cases rest with
              | false =>
                have HE : Hid (allW l = false) := hideIt (allW_no hlt HAT.out)
                go_wp2_with fail
                rw [← hW]
                clear hW c0 c1
                refine wp_region_quiet_grow (by kernel_rfl) (by kernel_rfl) ?_
                intro ι _ f hf hn
                have s0 := fun i => ((hf i).cell (lt_of_cell e0)).trans e0
                have s1 := fun i => ((hf i).cell (lt_of_cell e1)).trans e1
                have t0 := fun i => ((hf i).cell (lt_of_cell p0)).trans p0
                have t1 := fun i => ((hf i).cell (lt_of_cell p1)).trans p1
                have HSF := hideIt hf
                have HNN := hideIt hn
                clear hf hn e0 e1 p0 p1
                repeat (go_big_quiet_step (first | (go_at_call 32; exact Calls.grow HNN.out (HK1.out _)) | (go_at_call 32; exact Calls.grow HNN.out (HK3.out _)) | (go_at_call 77; exact Calls.grow HNN.out (HK2.out _))))
                refine wpQuiet_nil ?_
                rintro w7 ⟨i, rfl⟩
                have HB7 := hideIt (HBW.out.trans ((HSF.out i).mono HBW.out.size))
                go_wp2
                go_ret
                exact ⟨by rw [HE.out]; rfl, HB7.out⟩
              | true =>
                have HN2 : Hid ((List.range (j + 1 + 1)).all (atW l) = true) := hideIt (allW_take HN.out HAT.out)
                go_wp2_with fail
                rw [← hW]
                clear hW c0 c1
                refine wp_region_quiet_grow (by kernel_rfl) (by kernel_rfl) ?_
                intro ι _ f hf hn
                have s0 := fun i => ((hf i).cell (lt_of_cell e0)).trans e0
                have s1 := fun i => ((hf i).cell (lt_of_cell e1)).trans e1
                have t0 := fun i => ((hf i).cell (lt_of_cell p0)).trans p0
                have t1 := fun i => ((hf i).cell (lt_of_cell p1)).trans p1
                have HSF := hideIt hf
                have HNN := hideIt hn
                clear hf hn e0 e1 p0 p1
                repeat (go_big_quiet_step (first | (go_at_call 32; exact Calls.grow HNN.out (HK1.out _)) | (go_at_call 32; exact Calls.grow HNN.out (HK3.out _)) | (go_at_call 77; exact Calls.grow HNN.out (HK2.out _))))
                refine wpQuiet_nil ?_
                rintro w7 ⟨i, rfl⟩
                have HB7 := hideIt (HBW.out.trans ((HSF.out i).mono HBW.out.size))
                go_wp2
                go_roundw
                case rel => exact ⟨j + 1 + 1, by omega, by go_num, HN2.out, HB7.out⟩
                case measure => simp [intOf]; omega
      · have HE : Hid (allW l = true) := hideIt (by
          unfold allW
          have := HN.out
          rw [show k = l.length by omega] at this
          rw [this, decide_eq_false (show ¬ (8 : Int) < (l.length : Int) by omega)]; rfl)
        go_wp2
        go_ret
        exact ⟨by rw [HE.out]; rfl, HB.out⟩
end Go.Proofs.YtohlepbfjgehgaaGreatDoor
