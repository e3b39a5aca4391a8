/-
  What is proved here: wire's appendRow (of texts and of numbers) and the search for a text that is too long, over this program.
-/
import Derived.Test.YtpgahjnjkihmhaaGreatDoorWB
namespace Go.Proofs.YtpgahjnjkihmhaaGreatDoor
open Go.RowKit Go.Extern.Stop Go.Stop Go.Extern

set_option maxRecDepth 100000 in
set_option maxHeartbeats 4000000 in
theorem aRowN_any (lv : Value) (l : List Int) (w : World) (hs : NumsIn w (· < w.heap.size) lv l) (hl : l.length ≤ 1024) :
    Calls Tryz.prog 44 #[lv, .func (.func 42) #[] #[]] w fun e w' => ∃ v', e = .returned v' ∧ w'.ownsRow w.heap.size 5 1 v' (rowB numB l).length (Lib.byteCells (rowB numB l)) ∧ Below w.heap.size w w' := by
  have HH := hideIt (HF_any w.heap.size (.slice none 0 0) [] l.length 4 w (by omega) (by decide) (World.ownsRow_nil _ _ _ _) (Nat.le_refl _) (by simp))
  have HS := hideIt hs
  obtain ⟨a, cap, rfl⟩ := hs.form
  clear hs
  go_enter Tryz.func44, Tryz.ntmps44
  go_wp2_with fail
  refine HH.out.mono ?_
  rintro e w1 ⟨v1, rfl, h1, h2⟩
  have HO1 := hideIt h1
  have HB1 := hideIt h2
  clear h1 h2 HH
  go_wp2
  go_loopw [5, 14] (fun s i wr => ∃ k : Nat, k ≤ l.length ∧ i = .int .i64 k ∧ Hid (wr.ownsRow w.heap.size 5 1 s (be 4 l.length ++ (l.take k).flatMap numB).length (Lib.byteCells (be 4 l.length ++ (l.take k).flatMap numB))) ∧ Hid (Below w.heap.size w wr)) (fun _ i _ => l.length - (intOf i).toNat)
  case atStart => exact ⟨0, Nat.zero_le _, rfl, by simpa using HO1, HB1.out⟩
  case round =>
    obtain ⟨k, hk, rfl, HW, HB⟩ := hrel
    by_cases hlt : k < l.length
    · obtain ⟨x, hx⟩ : ∃ x, l[k]? = some x := ⟨l[k], by simp [hlt]⟩
      obtain ⟨b, off, rfl, hb, hc⟩ := NumsIn.at (RowIn.kept HS.out (Kept.of_below HB.out (fun _ h _ => h))) hx
      have HT := hideIt (flat_take numB l k x hx)
      have hlen := flat_len numB 8 (l.take k) (fun y _ => by rw [numB_length]; omega)
      have htk : (l.take k).length ≤ 1024 := by simp; omega
      have HLN : Hid ((be 4 l.length ++ (l.take k).flatMap numB).length ≤ 140000000000000) := by
        have h4 : (be 4 l.length ++ (l.take k).flatMap numB).length ≤ 140000000000000 := by rw [List.length_append, be_length]; omega
        exact h4
      have hsz := HB.out.size
      clear hx hlen htk
      go_wp2_with fail
      refine (aNum_any w.heap.size _ _ x wr HW.out hsz HLN.out).mono ?_
      rintro e w2 ⟨v2, rfl, h1, h2⟩
      have HO2 := hideIt h1
      have HB2 := hideIt (HB.out.trans h2)
      clear h1 h2
      go_wp2
      go_roundw
      case rel => exact ⟨k + 1, by omega, by go_num, by rw [HT.out, ← List.append_assoc]; exact HO2, HB2.out⟩
      case measure => simp [intOf]; omega
    · have ek : k = l.length := by omega
      have HW2 : Hid (wr.ownsRow w.heap.size 5 1 u5 (rowB numB l).length (Lib.byteCells (rowB numB l))) := by
        have := HW.out; rw [ek, List.take_length] at this; exact this
      clear ek HW
      go_wp2
      go_ret
      exact ⟨_, rfl, HW2.out, HB.out⟩

/-- is a text too long? -/
def anyLong (l : List (List UInt8)) : Bool := l.any fun s => decide (65536 < s.length)

end Go.Proofs.YtpgahjnjkihmhaaGreatDoor
