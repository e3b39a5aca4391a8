/-
  What is proved here: the statement's function cohortlaw01.FaultIs returns true, over this program. Conditions: the steps lie in memory as slices of them do; the library's variables lie as they are laid.
-/
import Derived.Test.YtaageigehobdmaaDoorLawNone
namespace Go.Proofs.YtaageigehobdmaaDoor
open Go.RowKit Go.Extern.Stop Go.Stop Go.Extern

theorem beq_zero_comm (f : Int) : (0 == f) = (f == 0) := BEq.comm

theorem take_rev {l : List (ByteArray × Int)} {k : Nat} {x : ByteArray × Int} (hx : l[k]? = some x) : (l.take (k + 1)).reverse = x :: (l.take k).reverse := by
  have hlt : k < l.length := (List.getElem?_eq_some_iff.1 hx).1
  have he : l[k] = x := (List.getElem?_eq_some_iff.1 hx).2
  rw [List.take_succ_eq_append_getElem hlt, he]; simp

set_option maxHeartbeats 8000000 in
theorem law_is_zero (B : Nat) (sl : Value) (l : List (ByteArray × Int)) (f : Int) (w : World) (hs : Steps w B sl l) (hB : B ≤ w.heap.size) (hlen : l.length ≤ maxLen) (hsz : ∀ x ∈ l, x.1.size ≤ maxLen) (hg : ET w) (ht : PT w) :
    Calls Tryd.prog 4 #[.int .i64 0, .int .i64 f, sl] w fun e w' => e = .returned (.bool true) ∧ Below w.heap.size w w' := by
  have HH := hideIt (head_true w hg ht)
  have HS := hideIt hs
  have HZ := hideIt (And.intro hlen hsz)
  have HE := hideIt (And.intro hg ht)
  obtain ⟨a, cap, rfl, hs0⟩ := hs
  clear hs0
  unfold maxLen at hlen
  clear hsz hg ht
  go_enter Tryd.func4, Tryd.ntmps4
  go_wp2_with fail
  refine HH.out.mono ?_
  rintro e w1 ⟨rfl, b1⟩
  have HB1 := hideIt b1
  have HS1 := hideIt ((HS.out.kept (b1.mono hB)).up (Nat.le_trans hB b1.size))
  clear b1 HH HS HE
  go_wp2_with fail
  refine (great_any _ _ l w1 HS1.out HZ.out.1 HZ.out.2).mono ?_
  rintro e w2 ⟨⟨g, rfl, _⟩, rfl⟩
  cases g
  · go_wp2_with fail
    refine (Of_ok w2).mono ?_
    rintro e w3 ⟨rfl, rfl⟩
    go_wp2
    go_loopw [8, 9] (fun v i wr => ∃ k : Nat, k ≤ l.length ∧ v = .nilIface ∧ i = .int .i64 k ∧ Below w3.heap.size w3 wr) (fun _ i _ => l.length - (intOf i).toNat)
    case atStart => exact ⟨0, Nat.zero_le _, rfl, rfl, Below.refl _ _⟩
    case round =>
      obtain ⟨k, hk, rfl, rfl, hnx⟩ := hrel
      have HX := hideIt hnx
      clear hnx
      by_cases hlt : k < l.length
      · obtain ⟨x, hx⟩ : ∃ x, l[k]? = some x := ⟨l[k], by simp [hlt]⟩
        obtain ⟨a', cap', e1, hst⟩ := HS1.out.kept HX.out
        cases e1
        obtain ⟨b, off, rfl, hbb, c0, c1⟩ := hst k x hx
        clear hst hx
        go_wp2
        go_region_with (go_at_call 11; refine (Wrap_nil _ _ _).mono ?_; rintro e w4 ⟨rfl, rfl⟩)
        all_goals go_wp2
        all_goals exact ⟨⟨k + 1, by omega, rfl, by go_num, HX.out.drew⟩, by simp [intOf]; omega⟩
      · go_wp2_with fail
        refine (is_nil_any f wr).mono ?_
        rintro e w4 ⟨rfl, b4⟩
        have HB4 := hideIt (HX.out.trans (b4.mono HX.out.size))
        clear b4
        have hc := beq_zero_comm f
        obtain ⟨bf, hbf⟩ : ∃ b, b = (f == 0) := ⟨_, rfl⟩
        rw [← hbf] at hc ⊢
        have HF := hideIt hbf
        clear hbf
        cases bf
        all_goals
          go_wp2_with fail
          refine (FIs_ok_nil w4).mono ?_
          rintro e w5 ⟨rfl, b5⟩
          have HB5 := hideIt (HB4.out.trans (b5.mono HB4.out.size))
          clear b5
          go_wp2_with fail
          refine (Wrap_nil _ _ w5).mono ?_
          rintro e w6 ⟨rfl, rfl⟩
          go_wp2_with fail
          refine (is_nil_any f w6).mono ?_
          rintro e w7 ⟨he, b7⟩
          rw [← HF.out] at he
          subst he
          have HB7 := hideIt (HB5.out.trans (b7.mono HB5.out.size))
          clear b7
          go_wp2
          go_ret
          exact ⟨rfl, HB1.out.trans (HB7.out.mono HB1.out.size)⟩
  · go_wp2
    go_ret
    exact ⟨rfl, HB1.out⟩

set_option maxHeartbeats 8000000 in
theorem law_is_some (B : Nat) (sl : Value) (l : List (ByteArray × Int)) (n f : Int) (hn : (n == 0) = false) (w : World) (hs : Steps w B sl l) (hB : B ≤ w.heap.size) (hlen : l.length ≤ maxLen) (hsz : ∀ x ∈ l, x.1.size ≤ maxLen) (hg : ET w) (ht : PT w) :
    Calls Tryd.prog 4 #[.int .i64 n, .int .i64 f, sl] w fun e w' => e = .returned (.bool true) ∧ Below w.heap.size w w' := by
  have HH := hideIt (head_true w hg ht)
  have HS := hideIt hs
  have HZ := hideIt (And.intro hlen hsz)
  have HE := hideIt (And.intro hg ht)
  have HN := hideIt hn
  obtain ⟨a, cap, rfl, hs0⟩ := hs
  clear hs0
  unfold maxLen at hlen
  clear hsz hg ht hn
  go_enter Tryd.func4, Tryd.ntmps4
  go_wp2_with fail
  refine HH.out.mono ?_
  rintro e w1 ⟨rfl, b1⟩
  have HB1 := hideIt b1
  have HS1 := hideIt ((HS.out.kept (b1.mono hB)).up (Nat.le_trans hB b1.size))
  have HA1 := hideIt (At.num n (HE.out.1.kept b1 HE.out.1.lt) (HE.out.2.kept b1 HE.out.2.lt))
  clear b1 HH HS HE
  go_wp2_with fail
  refine (great_any _ _ l w1 HS1.out HZ.out.1 HZ.out.2).mono ?_
  rintro e w2 ⟨⟨g, rfl, _⟩, rfl⟩
  cases g
  · go_wp2_with fail
    refine (Of_err n HN.out w2).mono ?_
    rintro e w3 ⟨rfl, rfl⟩
    go_wp2
    go_loopw [8, 9] (fun v i wr => ∃ (k : Nat) (ty : TypeId) (y : Value), k ≤ l.length ∧ v = .iface ty y ∧ i = .int .i64 k ∧ Hid (At w3 n (.iface ty y) (l.take k).reverse wr)) (fun _ i _ => l.length - (intOf i).toNat)
    case atStart => exact ⟨0, _, _, Nat.zero_le _, rfl, rfl, HA1.out⟩
    case round =>
      obtain ⟨k, ty, y, hk, rfl, rfl, HX⟩ := hrel
      by_cases hlt : k < l.length
      · obtain ⟨x, hx⟩ : ∃ x, l[k]? = some x := ⟨l[k], by simp [hlt]⟩
        obtain ⟨a', cap', e1, hst⟩ := HS1.out.kept HX.out.b
        cases e1
        obtain ⟨b, off, rfl, hbb, c0, c1⟩ := hst k x hx
        have HR := hideIt (take_rev hx)
        have HXd := hideIt (HX.out.next (below_drew wr))
        clear hst hx
        go_wp2
        go_region_with (go_at_call 11; refine (HXd.out.wrap _ _).mono ?_; rintro e w4 ⟨ty2, y2, rfl, HX4, _⟩)
        all_goals go_wp2
        all_goals exact ⟨⟨k + 1, ty2, y2, by omega, rfl, by go_num, by rw [HR.out]; exact HX4⟩, by simp [intOf]; omega⟩
      · obtain ⟨bf, hbf⟩ : ∃ b, b = (n == f) := ⟨_, rfl⟩
        have HF := hideIt hbf
        have hc : (n == f) = bf := hbf.symm
        clear hbf
        cases bf
        all_goals
          go_wp2_with fail
          refine (HX.out.is f HN.out).mono ?_
          rintro e w4 ⟨he, H4, _⟩
          rw [← HF.out] at he
          subst he
          go_wp2_with fail
          refine (H4.out.is n HN.out).mono ?_
          rintro e w5 ⟨he, H5, _⟩
          rw [beq_self_eq_true] at he
          subst he
          go_wp2_with fail
          refine (H5.out.wrap _ _).mono ?_
          rintro e w6 ⟨ty2, y2, rfl, H6, _⟩
          go_wp2_with fail
          refine (H6.out.is f HN.out).mono ?_
          rintro e w7 ⟨he, H7, _⟩
          rw [← HF.out] at he
          subst he
          go_wp2
          go_ret
          exact ⟨rfl, HB1.out.trans (H7.out.b.mono HB1.out.size)⟩
  · go_wp2
    go_ret
    exact ⟨rfl, HB1.out⟩

theorem law_is (B : Nat) (sl : Value) (l : List (ByteArray × Int)) (n f : Int) (w : World) (hs : Steps w B sl l) (hB : B ≤ w.heap.size) (hlen : l.length ≤ maxLen) (hsz : ∀ x ∈ l, x.1.size ≤ maxLen) (hg : ET w) (ht : PT w) :
    Calls Tryd.prog 4 #[.int .i64 n, .int .i64 f, sl] w fun e w' => e = .returned (.bool true) ∧ Below w.heap.size w w' := by
  by_cases hn : n = 0
  · subst hn; exact law_is_zero B sl l f w hs hB hlen hsz hg ht
  · exact law_is_some B sl l n f (by simpa using hn) w hs hB hlen hsz hg ht
end Go.Proofs.YtaageigehobdmaaDoor
