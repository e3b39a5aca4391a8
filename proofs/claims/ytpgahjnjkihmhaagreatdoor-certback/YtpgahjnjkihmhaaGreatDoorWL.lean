/-
  What is proved here: wire's Reader: Num, Int, Text, List, Nums and End, over this program.
-/
import Derived.Test.YtpgahjnjkihmhaaGreatDoorWK
namespace Go.Proofs.YtpgahjnjkihmhaaGreatDoor
open Go.RowKit Go.Extern.Stop Go.Stop Go.Extern

def rdInt (most : Int) (r : List UInt8) : Except Int (Int × Nat) :=
  match rdNum r with
  | .error e => .error e
  | .ok (n, c) => if n < 0 then .error 23 else if most < n then .error 2 else .ok (n, c)

set_option maxHeartbeats 4000000 in
theorem nums1_any (p : Nat) (q : Addr) (A A2 : Nat → Prop) (bs : List UInt8) (k : Nat) (w : World) (hr : ROk w p A bs k) (hp : ¬ A p) (hA : ∀ k, w.heap.size ≤ k → A2 k) (hl : bs.length ≤ 1000000000000) (hq : w.cell? q = some (.pointer (some ⟨p, 0, none⟩))) :
    Calls Tryz.prog 51 #[.pointer (some q)] w (HowPost w p A bs k (rdRow rdNum (bs.drop k)) (isNums A2)) := by
  have HR := hideIt (rowN_any p A A2 bs k w hr hp hA hl)
  have hm := hmf
  clear hr hp hA
  generalize rdRow rdNum (bs.drop k) = R at HR ⊢
  go_enter Tryz.func51, Tryz.ntmps51
  go_wp2_with fail
  refine HR.out.mono ?_
  intro e w1 hpost
  match R, hpost with
  | .error n, ⟨hg, hn, v, k', he, hrk⟩ =>
    subst he
    have H1 := hideIt (And.intro hg (And.intro hn hrk))
    clear hg hn hrk
    go_wp2
    go_ret2
    exact ⟨H1.out.1, H1.out.2.1, _, k', rfl, H1.out.2.2⟩
  | .ok (x, c), ⟨hg, v, he, hv, hrk⟩ =>
    subst he
    have H1 := hideIt (And.intro hg (And.intro hv hrk))
    clear hg hv hrk
    go_wp2
    go_ret2
    exact ⟨H1.out.1, _, rfl, H1.out.2.1, H1.out.2.2⟩

set_option maxHeartbeats 4000000 in
theorem int1_any (p : Nat) (q q2 : Addr) (A : Nat → Prop) (most : Int) (bs : List UInt8) (k : Nat) (w : World) (hr : ROk w p A bs k) (hp : ¬ A p) (hl : bs.length ≤ 1000000000000) (hq : w.cell? q = some (.pointer (some ⟨p, 0, none⟩))) (hq2 : w.cell? q2 = some (.int .i64 most)) (hne : q2.block ≠ p) :
    Calls Tryz.prog 48 #[.pointer (some q), .pointer (some q2)] w (HowPost w p A bs k (rdInt most (bs.drop k)) isInt) := by
  have HR := hideIt (num_any p A bs k w hr hp hl)
  have HQ := hideIt hq2
  have HE : Hid (rdInt most (bs.drop k) = match rdNum (bs.drop k) with | .error e => .error e | .ok (n, c) => if n < 0 then .error 23 else if most < n then .error 2 else .ok (n, c)) := rfl
  generalize rdInt most (bs.drop k) = RI at HE
  generalize rdNum (bs.drop k) = R at HE HR
  clear hr hp hq2
  match R with
  | .error n =>
    have HE2 : Hid (RI = .error n) := HE.out
    go_enter Tryz.func48, Tryz.ntmps48
    go_wp2_with fail
    refine HR.out.mono ?_
    rintro e w1 ⟨hg, hn, v, k', rfl, hrk⟩
    have H1 := hideIt (And.intro hg (And.intro hn hrk))
    clear hg hrk
    go_wp2
    go_ret2
    unfold HowPost
    rw [HE2.out]
    exact ⟨H1.out.1, H1.out.2.1, _, k', rfl, H1.out.2.2⟩
  | .ok (x, c) =>
    have HE2 : Hid (RI = if x < 0 then .error 23 else if most < x then .error 2 else .ok (x, c)) := HE.out
    by_cases h0 : x < 0
    · go_enter Tryz.func48, Tryz.ntmps48
      go_wp2_with fail
      refine HR.out.mono ?_
      rintro e w1 ⟨hg, v, rfl, hv, hrk⟩
      have hv2 : v = .int .i64 x := hv
      subst hv2
      have H1 := hideIt (And.intro hg hrk)
      clear hg hrk hv
      go_wp2
      go_ret2
      unfold HowPost
      rw [HE2.out, if_pos h0]
      exact ⟨H1.out.1, rfl, _, _, rfl, H1.out.2⟩
    · by_cases h1 : most < x
      · go_enter Tryz.func48, Tryz.ntmps48
        go_wp2_with fail
        refine HR.out.mono ?_
        rintro e w1 ⟨hg, v, rfl, hv, hrk⟩
        have hv2 : v = .int .i64 x := hv
        subst hv2
        have H1 := hideIt (And.intro hg hrk)
        have hq3 : w1.cell? q2 = some (.int .i64 most) := hg.cell HQ.out (fun e => by cases e; exact hne rfl)
        clear hg hrk hv
        go_wp2
        go_ret2
        unfold HowPost
        rw [HE2.out, if_neg (show ¬ x < 0 by omega), if_pos (show most < x by omega)]
        exact ⟨H1.out.1, rfl, _, _, rfl, H1.out.2⟩
      · go_enter Tryz.func48, Tryz.ntmps48
        go_wp2_with fail
        refine HR.out.mono ?_
        rintro e w1 ⟨hg, v, rfl, hv, hrk⟩
        have hv2 : v = .int .i64 x := hv
        subst hv2
        have H1 := hideIt (And.intro hg hrk)
        have hq3 : w1.cell? q2 = some (.int .i64 most) := hg.cell HQ.out (fun e => by cases e; exact hne rfl)
        clear hg hrk hv
        go_wp2
        go_ret2
        unfold HowPost
        rw [HE2.out, if_neg (show ¬ x < 0 by omega), if_neg (show ¬ most < x by omega)]
        exact ⟨H1.out.1, _, rfl, rfl, H1.out.2⟩
end Go.Proofs.YtpgahjnjkihmhaaGreatDoor
