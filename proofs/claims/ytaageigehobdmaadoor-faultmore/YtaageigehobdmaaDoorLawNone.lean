/-
  What is proved here: the statement's function cohortlaw01.FaultNone returns true, over this program. Conditions: the steps lie in memory as slices of them do; the library's variables lie as they are laid.
-/
import Derived.Test.YtaageigehobdmaaDoorGreat
import Derived.Deep.RegionWith
namespace Go.Proofs.YtaageigehobdmaaDoor
open Go.RowKit Go.Extern.Stop Go.Stop Go.Extern

theorem below_drew (w : World) : Below w.heap.size w w.drew := (Below.refl _ _).drew

theorem is_nil_any (f : Int) (w : World) : Calls Tryd.prog 17 #[.nilIface, .int .i64 f] w fun e w' => e = .returned (.bool (f == 0)) ∧ Below w.heap.size w w' := by
  by_cases hf : f = 0
  · subst hf; exact FIs_ok_nil w
  · have h0 : (f == 0) = false := by simpa using hf
    rw [h0]; exact FIs_nil f w h0

set_option maxHeartbeats 8000000 in
theorem law_none (B : Nat) (sl : Value) (l : List (ByteArray × Int)) (n : Int) (w : World) (hs : Steps w B sl l) (hB : B ≤ w.heap.size) (hlen : l.length ≤ maxLen) (hsz : ∀ x ∈ l, x.1.size ≤ maxLen) (hg : ET w) (ht : PT w) :
    Calls Tryd.prog 6 #[sl, .int .i64 n] w fun e w' => e = .returned (.bool true) ∧ Below w.heap.size w w' := by
  have HH := hideIt (head_true w hg ht)
  have HS := hideIt hs
  have HZ := hideIt (And.intro hlen hsz)
  have HE := hideIt (And.intro hg ht)
  obtain ⟨a, cap, rfl, hs0⟩ := hs
  clear hs0
  unfold maxLen at hlen
  clear hsz hg ht
  go_enter Tryd.func6, Tryd.ntmps6
  go_wp2_with fail
  refine HH.out.mono ?_
  rintro e w1 ⟨rfl, b1⟩
  have HB1 := hideIt b1
  have HS1 := hideIt ((HS.out.kept (b1.mono hB)).up (Nat.le_trans hB b1.size))
  have HE1 := hideIt (And.intro (HE.out.1.kept b1 HE.out.1.lt) (HE.out.2.kept b1 HE.out.2.lt))
  clear b1 HH HS HE
  go_wp2_with fail
  refine (great_any _ _ l w1 HS1.out HZ.out.1 HZ.out.2).mono ?_
  rintro e w2 ⟨⟨g, rfl, _⟩, rfl⟩
  cases g
  · go_wp2_with fail
    refine (Of_ok w2).mono ?_
    rintro e w3 ⟨rfl, rfl⟩
    go_wp2
    go_loopw [6, 7] (fun v i wr => ∃ k : Nat, k ≤ l.length ∧ v = .nilIface ∧ i = .int .i64 k ∧ Below w3.heap.size w3 wr) (fun _ i _ => l.length - (intOf i).toNat)
    case atStart => exact ⟨0, Nat.zero_le _, rfl, rfl, Below.refl _ _⟩
    case round =>
      obtain ⟨k, hk, rfl, rfl, hnx⟩ := hrel
      have HX := hideIt hnx
      clear hnx
      by_cases hlt : k < l.length
      · obtain ⟨x, hx⟩ : ∃ x, l[k]? = some x := ⟨l[k], by simp [hlt]⟩
        obtain ⟨a', cap', e1, hst⟩ := HS1.out.kept HX.out
        cases e1
        obtain ⟨b, off, rfl, hbb, c0, c1⟩ := hst k x hx
        clear hst hx
        go_wp2
        go_region_with (go_at_call 11; refine (Wrap_nil _ _ _).mono ?_; rintro e w4 ⟨rfl, rfl⟩)
        all_goals go_wp2
        all_goals exact ⟨⟨k + 1, by omega, rfl, by go_num, HX.out.drew⟩, by simp [intOf]; omega⟩
      · go_wp2_with fail
        refine (Trail_nil wr).mono ?_
        rintro e w4 ⟨rfl, b4⟩
        have HB4 := hideIt (HX.out.trans (b4.mono HX.out.size))
        clear b4
        go_wp2_with fail
        refine (Text_nil w4).mono ?_
        rintro e w5 ⟨rfl, b5⟩
        have HB5 := hideIt (HB4.out.trans (b5.mono HB4.out.size))
        clear b5
        go_wp2_with fail
        refine (Code_nil w5).mono ?_
        rintro e w6 ⟨rfl, b6⟩
        have HB6 := hideIt (HB5.out.trans (b6.mono HB5.out.size))
        clear b6
        go_wp2_with fail
        refine (is_nil_any n w6).mono ?_
        rintro e w7 ⟨rfl, b7⟩
        have HB7 := hideIt (HB6.out.trans (b7.mono HB6.out.size))
        clear b7
        go_wp2
        go_ret
        exact ⟨by simp, HB1.out.trans (HB7.out.mono HB1.out.size)⟩
  · go_wp2
    go_ret
    exact ⟨rfl, HB1.out⟩
end Go.Proofs.YtaageigehobdmaaDoor
