/-
  What is proved here: merkle's shaped: has a proof a proof's form; over this program.
-/
import Derived.Test.YtmhbfplaglipnaaGreatDoorMQ
import Derived.Test.YtmhbfplaglipnaaGreatDoorML
namespace Go.Proofs.YtmhbfplaglipnaaGreatDoor
open Go.RowKit Go.Extern.Stop Go.Stop Go.Extern

theorem mshapedA_any (d : Int) (w : World) : Calls Tryz.prog 52 #[.int .i64 d] w fun e w' => e = .returned (.bool (decide (d < 0))) ∧ w' = w := by
  go_enter Tryz.func52, Tryz.ntmps52
  go_wp2
  go_ret
  exact ⟨rfl, rfl⟩
/-- is a number below 0? -/
def anyNeg (l : List Int) : Bool := l.any fun d => decide (d < 0)
theorem anyNeg_not {l : List Int} : anyNeg l = false ↔ ∀ d ∈ l, 0 ≤ d := by
  unfold anyNeg
  rw [List.any_eq_false]
  constructor
  · intro h d hd
    have := h d hd
    simpa using this
  · intro h d hd
    have := h d hd
    simpa using this

set_option maxRecDepth 100000 in
set_option maxHeartbeats 4000000 in
theorem iFuncI_any (A : Nat → Prop) (lv : Value) (l : List Int) (w : World) (hs : NumsIn w A lv l) (hl : l.length ≤ maxLen) :
    Calls Tryz.prog 78 #[lv, .func (.func 52) #[] #[]] w fun e w' => ∃ r : Int, e = .returned (.int .i64 r) ∧ decide (0 ≤ r) = anyNeg l ∧ w' = w := by
  have HS := hideIt hs
  obtain ⟨a, cap, rfl⟩ := hs.form
  unfold maxLen at hl
  clear hs
  go_enter Tryz.func78, Tryz.ntmps78
  go_wp2
  go_loop [8] (fun i => ∃ k : Nat, k ≤ l.length ∧ i = .int .i64 k ∧ Hid (anyNeg (l.take k) = false)) (fun i => l.length - (intOf i).toNat)
  case atStart => exact ⟨0, Nat.zero_le _, rfl, rfl⟩
  case round =>
    obtain ⟨k, hk, rfl, HA⟩ := hrel
    by_cases hlt : k < l.length
    · obtain ⟨x, hx⟩ : ∃ x, l[k]? = some x := ⟨l[k], by simp [hlt]⟩
      obtain ⟨b, off, rfl, hb, hc⟩ := HS.out.at hx
      have HE : Hid (l[k] = x) := (List.getElem?_eq_some_iff.1 hx).2
      clear hx
      go_wp2_with fail
      refine (mshapedA_any x w).mono ?_
      rintro e w2 ⟨rfl, rfl⟩
      by_cases hx6 : x < 0
      · rw [decide_eq_true hx6]
        go_wp2
        go_ret
        refine ⟨_, rfl, ?_, rfl⟩
        have h1 : anyNeg l = true := List.any_eq_true.2 ⟨x, by rw [← HE.out]; exact List.getElem_mem hlt, decide_eq_true hx6⟩
        rw [h1]; simp
      · rw [decide_eq_false hx6]
        go_wp2
        go_round
        case rel =>
          refine ⟨k + 1, by omega, by go_num, ?_⟩
          have h1 : anyNeg (l.take (k + 1)) = false := by
            unfold anyNeg
            rw [List.take_succ_eq_append_getElem hlt, List.any_append, HE.out]
            have := HA.out
            unfold anyNeg at this
            rw [this]; simp; omega
          exact h1
        case measure => simp [intOf]; omega
    · have ek : k = l.length := by omega
      have HA2 : Hid (anyNeg l = false) := by
        have := HA.out; rw [ek, List.take_length] at this; exact this
      clear ek HA
      go_wp2
      go_ret
      exact ⟨_, rfl, by rw [HA2.out]; rfl, rfl⟩
set_option maxHeartbeats 4000000 in
theorem cFuncI_any (A : Nat → Prop) (lv : Value) (l : List Int) (w : World) (hs : NumsIn w A lv l) (hl : l.length ≤ maxLen) :
    Calls Tryz.prog 51 #[lv, .func (.func 52) #[] #[]] w fun e w' => e = .returned (.bool (anyNeg l)) ∧ w' = w := by
  have HI := hideIt (iFuncI_any A lv l w hs hl)
  obtain ⟨a, cap, rfl⟩ := hs.form
  clear hs hl
  go_enter Tryz.func51, Tryz.ntmps51
  go_wp2_with fail
  refine HI.out.mono ?_
  rintro e w2 ⟨r, rfl, hr, rfl⟩
  have HR := hideIt hr
  clear hr
  go_wp2
  go_ret
  exact ⟨by rw [← HR.out]; rfl, rfl⟩

/-- has a proof a proof's form? -/
def Shaped (N F : Int) (L : List Ent) (Bs : List Int) : Prop :=
  (0 ≤ N ∧ N ≤ 1024) ∧ Right L ∧ (0 ≤ F ∧ F ≤ N - L.length) ∧ Bs.length = cntN F.toNat L.length 0 N.toNat ∧ anyNeg Bs = false
/-- what shaped answers -/
def ShapedPost (w : World) (N F : Int) (L : List Ent) (Bs : List Int) (e : Ending) (w' : World) : Prop := ∃ b : Bool, e = .returned (.bool b) ∧ (b = true ↔ Shaped N F L Bs) ∧ Below w.heap.size w w'
theorem ShapedPost.no {w w' : World} {N F : Int} {L : List Ent} {Bs : List Int} (h : ¬ Shaped N F L Bs) (hb : Below w.heap.size w w') : ShapedPost w N F L Bs (.returned (.bool false)) w' := ⟨false, rfl, ⟨fun h => (nomatch h), fun h2 => absurd h2 h⟩, hb⟩
theorem ShapedPost.yes {w w' : World} {N F : Int} {L : List Ent} {Bs : List Int} (h : Shaped N F L Bs) (hb : Below w.heap.size w w') : ShapedPost w N F L Bs (.returned (.bool true)) w' := ⟨true, rfl, ⟨fun _ => h, fun _ => rfl⟩, hb⟩

set_option maxRecDepth 100000 in
set_option maxHeartbeats 8000000 in
theorem mshaped_any (w : World) (A A2 : Nat → Prop) (N F : Int) (vl vb : Value) (L : List Ent) (Bs : List Int) (hv : EntsIn w A vl L) (hb : NumsIn w A2 vb Bs) (hl : L.length ≤ maxLen) (hbl : Bs.length ≤ maxLen) (hN : fits N) (hF : fits F) :
    Calls Tryz.prog 26 #[.agg #[.int .i64 N, .int .i64 F, vl, vb]] w (ShapedPost w N F L Bs) := by
  have HV := hideIt (And.intro hv hb)
  have HX := hideIt (And.intro hl (And.intro hbl (And.intro hN hF)))
  obtain ⟨al, cl, rfl⟩ := hv.form
  obtain ⟨ab, cb, rfl⟩ := NumsIn.form hb
  have hb0 : Below w.heap.size w (w.alloc (.cells #[.int .i64 N, .int .i64 F, .slice al L.length cl, .slice ab Bs.length cb] 25)) := (Below.refl _ _).alloc (Nat.le_refl _) _
  have HB0 := hideIt hb0
  clear hv hb hb0 hl hbl hN hF
  by_cases n1 : N < 0
  · go_enter Tryz.func26, Tryz.ntmps26
    go_wp2
    go_ret
    exact .no (fun h => by have := h.1; omega) HB0.out
  by_cases n2 : 1024 < N
  · go_enter Tryz.func26, Tryz.ntmps26
    go_wp2
    go_ret
    exact .no (fun h => by have := h.1; omega) HB0.out
  obtain ⟨W, hW, hwb, hws, hc4, _⟩ := room4 w 25 (.int .i64 N) (.int .i64 F) (.slice al L.length cl) (.slice ab Bs.length cb)
  have HC := hideIt hc4
  have HR := hideIt (mright_any W A (.slice al L.length cl) L (RowIn.kept (RowIn.mono (A' := fun k => A k) HV.out.1 (fun _ h _ => h)) (Kept.of_all hwb)) HX.out.1)
  have HWB := hideIt hwb
  clear hwb hws hc4
  go_enter Tryz.func26, Tryz.ntmps26
  go_wp2_with fail
  rw [← hW]
  clear hW
  refine HR.out.mono ?_
  rintro e w1 ⟨b, rfl, hbR, hbl⟩
  have HBR := hideIt hbR
  have HB1 := hideIt (HWB.out.trans (hbl.mono HWB.out.size))
  have c0 := (hbl.cell (lt_of_cell HC.out.1)).trans HC.out.1
  have c1 := (hbl.cell (lt_of_cell HC.out.2.1)).trans HC.out.2.1
  have c2 := (hbl.cell (lt_of_cell HC.out.2.2.1)).trans HC.out.2.2.1
  have c3 := (hbl.cell (lt_of_cell HC.out.2.2.2)).trans HC.out.2.2.2
  clear hbR hbl HR
  cases b with
  | false =>
    have HNO : Hid (¬ Right L) := hideIt (fun h => by have := HBR.out.2 h; cases this)
    go_wp2
    go_ret
    exact .no (fun h => HNO.out h.2.1) HB1.out
  | true =>
    have HRT : Hid (Right L) := hideIt (HBR.out.1 rfl)
    have hL := HRT.out.1
    by_cases f1 : F < 0
    · go_wp2
      go_ret
      exact .no (fun h => by have := h.2.2.1; omega) HB1.out
    by_cases f2 : N - (L.length : Int) < F
    · go_wp2
      go_ret
      exact .no (fun h => by have := h.2.2.1; omega) HB1.out
    obtain ⟨N', hN'⟩ : ∃ N' : Nat, N = N' := ⟨N.toNat, by omega⟩
    obtain ⟨F', hF'⟩ : ∃ F' : Nat, F = F' := ⟨F.toNat, by omega⟩
    subst hN' hF'
    have HBN : Hid (Bs.length ≤ maxLen ∧ (F' + L.length ≤ N' ∧ N' ≤ 1024)) := hideIt ⟨HX.out.2.1, by omega, by omega⟩
    have HMB := hideIt (fun w => (mmanyB_any w N' F' L.length al cl ab Bs.length cb (by omega) (by omega)).mono (R' := fun e w' => e = .returned (.int .i64 ((cntN F' L.length 0 N' : Nat) : Int)) ∧ Below w.heap.size w w') (fun e w' h => ⟨h.1, h.2.2⟩))
    have HNV : Hid (NumsIn w1 A2 (.slice ab Bs.length cb) Bs) := hideIt (RowIn.kept (RowIn.mono (A' := fun k => A2 k) HV.out.2 (fun _ h _ => h)) (Kept.of_all HB1.out))
    have HCF := hideIt (fun w (h : NumsIn w A2 (.slice ab Bs.length cb) Bs) => (cFuncI_any A2 _ Bs w h HBN.out.1).mono (R' := fun e w' => e = .returned (.bool (anyNeg Bs)) ∧ Below w.heap.size w w') (fun e w' h => ⟨h.1, by rw [h.2]; exact Below.refl _ _⟩))
    obtain ⟨C, hC⟩ : ∃ C, C = cntN F' L.length 0 N' := ⟨_, rfl⟩
    rw [← hC] at HMB
    have HCC := hideIt hC
    clear hC
    go_wp2_with fail
    clear n1 n2 f1 f2 hL
    by_cases hcnt : Bs.length = C
    · have HCE : Hid (Bs.length = cntN F' L.length 0 N') := hideIt (hcnt.trans HCC.out)
      rw [← hcnt] at HMB
      clear hcnt HCC
      obtain ⟨bn, hbn⟩ : ∃ bn, bn = anyNeg Bs := ⟨_, rfl⟩
      rw [← hbn] at HCF
      have HBNN := hideIt hbn
      clear hbn
      refine wp_region_quiet_grow (by kernel_rfl) (by kernel_rfl) ?_
      intro ι _ f hf hn
      have q0 := fun i => ((hf i).cell (lt_of_cell c0)).trans c0
      have q1 := fun i => ((hf i).cell (lt_of_cell c1)).trans c1
      have q2 := fun i => ((hf i).cell (lt_of_cell c2)).trans c2
      have q3 := fun i => ((hf i).cell (lt_of_cell c3)).trans c3
      have HFF := hideIt hf
      have HNN := hideIt hn
      have HNI := hideIt (fun i => HCF.out (f i) (RowIn.kept HNV.out (Kept.of_all (hf i))))
      clear hf hn
      repeat (go_big_quiet_step (first | (go_at_call 50; exact Calls.grow HNN.out (HMB.out _)) | (go_at_call 51; exact Calls.grow HNN.out (HNI.out _))))
      refine wpQuiet_nil ?_
      rintro w8 ⟨i, rfl⟩
      have HB8 := hideIt (HB1.out.trans ((HFF.out i).mono HB1.out.size))
      clear q0 q1 q2 q3 HFF HNN HNI HMB HCF
      generalize f i = w8 at HB8 ⊢
      go_wp2
      go_ret
      cases bn with
      | false => exact .yes ⟨⟨by have := HBN.out.2; omega, by have := HBN.out.2; omega⟩, HRT.out, ⟨by omega, by have := HBN.out.2; omega⟩, HCE.out, HBNN.out.symm⟩ HB8.out
      | true => exact .no (fun h => by have := h.2.2.2.2; rw [← HBNN.out] at this; cases this) HB8.out
    · have HCE : Hid (¬ Bs.length = cntN F' L.length 0 N') := hideIt (fun h => hcnt (h.trans HCC.out.symm))
      have hcf : ((Bs.length : Int) == (C : Int)) = false := by simp only [beq_eq_false_iff_ne, ne_eq]; omega
      clear hcnt HCC
      refine wp_region_quiet_grow (by kernel_rfl) (by kernel_rfl) ?_
      intro ι _ f hf hn
      have q0 := fun i => ((hf i).cell (lt_of_cell c0)).trans c0
      have q1 := fun i => ((hf i).cell (lt_of_cell c1)).trans c1
      have q2 := fun i => ((hf i).cell (lt_of_cell c2)).trans c2
      have q3 := fun i => ((hf i).cell (lt_of_cell c3)).trans c3
      have HFF := hideIt hf
      have HNN := hideIt hn
      clear hf hn
      repeat (go_big_quiet_step ((go_at_call 50; exact Calls.grow HNN.out (HMB.out _))))
      refine wpQuiet_nil ?_
      rintro w8 ⟨i, rfl⟩
      have HB8 := hideIt (HB1.out.trans ((HFF.out i).mono HB1.out.size))
      clear q0 q1 q2 q3 HFF HNN HMB HCF
      generalize f i = w8 at HB8 ⊢
      go_wp2
      go_ret
      exact .no (fun h => HCE.out h.2.2.2.1) HB8.out
end Go.Proofs.YtmhbfplaglipnaaGreatDoor
