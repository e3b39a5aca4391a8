/-
  What is proved here: wire's appendRow (of texts and of numbers) and the search for a text that is too long, over this program.
-/
import Derived.Test.YtaaaibnalhmmgaaDoorWB
namespace Go.Proofs.YtaaaibnalhmmgaaDoor
open Go.RowKit Go.Extern.Stop Go.Stop Go.Extern

set_option maxRecDepth 100000 in
set_option maxHeartbeats 4000000 in
theorem aRowT_any (lv : Value) (l : List (List UInt8)) (w : World) (hs : TextsIn w (· < w.heap.size) lv l) (hl : l.length ≤ 1024) (hx : ∀ s ∈ l, s.length ≤ 65536) :
    Calls Tryd.prog 44 #[lv, .func (.func 40) #[] #[]] w fun e w' => ∃ v', e = .returned v' ∧ w'.ownsRow w.heap.size 5 1 v' (rowB textB l).length (Lib.byteCells (rowB textB l)) ∧ Below w.heap.size w w' := by
  have HH := hideIt (HF_any w.heap.size (.slice none 0 0) [] l.length 4 w (by omega) (by decide) (World.ownsRow_nil _ _ _ _) (Nat.le_refl _) (by simp))
  have HS := hideIt hs
  have HX := hideIt hx
  obtain ⟨a, cap, rfl⟩ := hs.form
  clear hs hx
  go_enter Tryd.func44, Tryd.ntmps44
  go_wp2_with fail
  refine HH.out.mono ?_
  rintro e w1 ⟨v1, rfl, h1, h2⟩
  have HO1 := hideIt h1
  have HB1 := hideIt h2
  clear h1 h2 HH
  go_wp2
  go_loopw [5, 14] (fun s i wr => ∃ k : Nat, k ≤ l.length ∧ i = .int .i64 k ∧ Hid (wr.ownsRow w.heap.size 5 1 s (be 4 l.length ++ (l.take k).flatMap textB).length (Lib.byteCells (be 4 l.length ++ (l.take k).flatMap textB))) ∧ Hid (Below w.heap.size w wr)) (fun _ i _ => l.length - (intOf i).toNat)
  case atStart => exact ⟨0, Nat.zero_le _, rfl, by simpa using HO1, HB1.out⟩
  case round =>
    obtain ⟨k, hk, rfl, HW, HB⟩ := hrel
    by_cases hlt : k < l.length
    · obtain ⟨x, hx⟩ : ∃ x, l[k]? = some x := ⟨l[k], by simp [hlt]⟩
      obtain ⟨b, off, u, rfl, hb, hc, hby⟩ := (HS.out.kept (Kept.of_below HB.out (fun _ h _ => h))).at hx
      have HY := hideIt hby
      have HT := hideIt (flat_take textB l k x hx)
      have hlen := flat_len textB 65540 (l.take k) (fun y hy => by
        have := HX.out y (List.mem_of_mem_take hy)
        rw [textB_length]; omega)
      have hxl : x.length ≤ 65536 := HX.out x (List.mem_of_getElem? hx)
      have htk : (l.take k).length ≤ 1024 := by simp; omega
      have HLN : Hid ((be 4 l.length ++ (l.take k).flatMap textB).length ≤ 130000000000000) := by
        have h3 : (l.take k).length * 65540 ≤ 1024 * 65540 := Nat.mul_le_mul_right _ htk
        have h4 : (be 4 l.length ++ (l.take k).flatMap textB).length ≤ 130000000000000 := by rw [List.length_append, be_length]; omega
        exact h4
      have hsz := HB.out.size
      clear hby hx hlen htk
      go_wp2_with fail
      refine (aText_any w.heap.size _ _ _ x wr HY.out hxl HW.out hsz HLN.out).mono ?_
      rintro e w2 ⟨v2, rfl, h1, h2⟩
      have HO2 := hideIt h1
      have HB2 := hideIt (HB.out.trans h2)
      clear h1 h2
      go_wp2
      go_roundw
      case rel => exact ⟨k + 1, by omega, by go_num, by rw [HT.out, ← List.append_assoc]; exact HO2, HB2.out⟩
      case measure => simp [intOf]; omega
    · have ek : k = l.length := by omega
      have HW2 : Hid (wr.ownsRow w.heap.size 5 1 u5 (rowB textB l).length (Lib.byteCells (rowB textB l))) := by
        have := HW.out; rw [ek, List.take_length] at this; exact this
      clear ek HW
      go_wp2
      go_ret
      exact ⟨_, rfl, HW2.out, HB.out⟩

set_option maxRecDepth 100000 in
set_option maxHeartbeats 4000000 in
theorem aRowN_any (lv : Value) (l : List Int) (w : World) (hs : NumsIn w (· < w.heap.size) lv l) (hl : l.length ≤ 1024) :
    Calls Tryd.prog 45 #[lv, .func (.func 36) #[] #[]] w fun e w' => ∃ v', e = .returned v' ∧ w'.ownsRow w.heap.size 5 1 v' (rowB numB l).length (Lib.byteCells (rowB numB l)) ∧ Below w.heap.size w w' := by
  have HH := hideIt (HF_any w.heap.size (.slice none 0 0) [] l.length 4 w (by omega) (by decide) (World.ownsRow_nil _ _ _ _) (Nat.le_refl _) (by simp))
  have HS := hideIt hs
  obtain ⟨a, cap, rfl⟩ := hs.form
  clear hs
  go_enter Tryd.func45, Tryd.ntmps45
  go_wp2_with fail
  refine HH.out.mono ?_
  rintro e w1 ⟨v1, rfl, h1, h2⟩
  have HO1 := hideIt h1
  have HB1 := hideIt h2
  clear h1 h2 HH
  go_wp2
  go_loopw [5, 14] (fun s i wr => ∃ k : Nat, k ≤ l.length ∧ i = .int .i64 k ∧ Hid (wr.ownsRow w.heap.size 5 1 s (be 4 l.length ++ (l.take k).flatMap numB).length (Lib.byteCells (be 4 l.length ++ (l.take k).flatMap numB))) ∧ Hid (Below w.heap.size w wr)) (fun _ i _ => l.length - (intOf i).toNat)
  case atStart => exact ⟨0, Nat.zero_le _, rfl, by simpa using HO1, HB1.out⟩
  case round =>
    obtain ⟨k, hk, rfl, HW, HB⟩ := hrel
    by_cases hlt : k < l.length
    · obtain ⟨x, hx⟩ : ∃ x, l[k]? = some x := ⟨l[k], by simp [hlt]⟩
      obtain ⟨b, off, rfl, hb, hc⟩ := NumsIn.at (RowIn.kept HS.out (Kept.of_below HB.out (fun _ h _ => h))) hx
      have HT := hideIt (flat_take numB l k x hx)
      have hlen := flat_len numB 8 (l.take k) (fun y _ => by rw [numB_length]; omega)
      have htk : (l.take k).length ≤ 1024 := by simp; omega
      have HLN : Hid ((be 4 l.length ++ (l.take k).flatMap numB).length ≤ 140000000000000) := by
        have h4 : (be 4 l.length ++ (l.take k).flatMap numB).length ≤ 140000000000000 := by rw [List.length_append, be_length]; omega
        exact h4
      have hsz := HB.out.size
      clear hx hlen htk
      go_wp2_with fail
      refine (aNum_any w.heap.size _ _ x wr HW.out hsz HLN.out).mono ?_
      rintro e w2 ⟨v2, rfl, h1, h2⟩
      have HO2 := hideIt h1
      have HB2 := hideIt (HB.out.trans h2)
      clear h1 h2
      go_wp2
      go_roundw
      case rel => exact ⟨k + 1, by omega, by go_num, by rw [HT.out, ← List.append_assoc]; exact HO2, HB2.out⟩
      case measure => simp [intOf]; omega
    · have ek : k = l.length := by omega
      have HW2 : Hid (wr.ownsRow w.heap.size 5 1 u5 (rowB numB l).length (Lib.byteCells (rowB numB l))) := by
        have := HW.out; rw [ek, List.take_length] at this; exact this
      clear ek HW
      go_wp2
      go_ret
      exact ⟨_, rfl, HW2.out, HB.out⟩

/-- is a text too long? -/
def anyLong (l : List (List UInt8)) : Bool := l.any fun s => decide (65536 < s.length)

set_option maxRecDepth 100000 in
set_option maxHeartbeats 4000000 in
theorem iFunc_any (A : Nat → Prop) (lv : Value) (l : List (List UInt8)) (w : World) (hs : TextsIn w A lv l) (hl : l.length ≤ maxLen) (hx : ∀ s ∈ l, s.length ≤ maxLen) :
    Calls Tryd.prog 71 #[lv, .func (.func 38) #[] #[]] w fun e w' => ∃ r : Int, e = .returned (.int .i64 r) ∧ decide (0 ≤ r) = anyLong l ∧ w' = w := by
  have HS := hideIt hs
  have HX := hideIt hx
  obtain ⟨a, cap, rfl⟩ := hs.form
  unfold maxLen at hl
  clear hs hx
  go_enter Tryd.func71, Tryd.ntmps71
  go_wp2
  go_loop [8] (fun i => ∃ k : Nat, k ≤ l.length ∧ i = .int .i64 k ∧ Hid (anyLong (l.take k) = false)) (fun i => l.length - (intOf i).toNat)
  case atStart => exact ⟨0, Nat.zero_le _, rfl, rfl⟩
  case round =>
    obtain ⟨k, hk, rfl, HA⟩ := hrel
    by_cases hlt : k < l.length
    · obtain ⟨x, hx⟩ : ∃ x, l[k]? = some x := ⟨l[k], by simp [hlt]⟩
      obtain ⟨b, off, u, rfl, hb, hc, hby⟩ := HS.out.at hx
      obtain ⟨a2, cap2, rfl, _⟩ := hby.form
      have HE : Hid (l[k] = x) := (List.getElem?_eq_some_iff.1 hx).2
      have hxm := HX.out x (List.mem_of_getElem? hx)
      clear hby hx
      go_wp2_with fail
      refine (tooLong_any a2 x.length cap2 w hxm).mono ?_
      rintro e w2 ⟨rfl, rfl⟩
      by_cases hx6 : 65536 < x.length
      · rw [decide_eq_true hx6]
        go_wp2
        go_ret
        refine ⟨_, rfl, ?_, rfl⟩
        have h1 : anyLong l = true := List.any_eq_true.2 ⟨x, by rw [← HE.out]; exact List.getElem_mem hlt, decide_eq_true hx6⟩
        rw [h1]; simp
      · rw [decide_eq_false hx6]
        go_wp2
        go_round
        case rel =>
          refine ⟨k + 1, by omega, by go_num, ?_⟩
          have h1 : anyLong (l.take (k + 1)) = false := by
            unfold anyLong
            rw [List.take_succ_eq_append_getElem hlt, List.any_append, HE.out]
            have := HA.out
            unfold anyLong at this
            rw [this]; simp; omega
          exact h1
        case measure => simp [intOf]; omega
    · have ek : k = l.length := by omega
      have HA2 : Hid (anyLong l = false) := by
        have := HA.out; rw [ek, List.take_length] at this; exact this
      clear ek HA
      go_wp2
      go_ret
      exact ⟨_, rfl, by rw [HA2.out]; rfl, rfl⟩

set_option maxHeartbeats 4000000 in
theorem cFunc_any (A : Nat → Prop) (lv : Value) (l : List (List UInt8)) (w : World) (hs : TextsIn w A lv l) (hl : l.length ≤ maxLen) (hx : ∀ s ∈ l, s.length ≤ maxLen) :
    Calls Tryd.prog 43 #[lv, .func (.func 38) #[] #[]] w fun e w' => e = .returned (.bool (anyLong l)) ∧ w' = w := by
  have HI := hideIt (iFunc_any A lv l w hs hl hx)
  obtain ⟨a, cap, rfl⟩ := hs.form
  clear hs hl hx
  go_enter Tryd.func43, Tryd.ntmps43
  go_wp2_with fail
  refine HI.out.mono ?_
  rintro e w2 ⟨r, rfl, hr, rfl⟩
  have HR := hideIt hr
  clear hr
  go_wp2
  go_ret
  exact ⟨by rw [← HR.out]; rfl, rfl⟩
end Go.Proofs.YtaaaibnalhmmgaaDoor
