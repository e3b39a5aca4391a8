/-
  What is proved here: the head of cohortlaw08; over this program.
-/
import Derived.Test.YtnojbejjlahhkaaGreatDoorHF
namespace Go.Proofs.YtnojbejjlahhkaaGreatDoor
open Go.RowKit Go.Extern.Stop Go.Stop Go.Extern

theorem head_text8 : textL [(⟨#[108, 111, 99, 107]⟩, 1)] ++ errText 81 = [108, 111, 99, 107, 32, 49, 58, 32, 99, 111, 104, 111, 114, 116, 58, 32, 101, 114, 114, 111, 114, 32, 56, 49] := by decide +kernel
theorem head_one {w' : World} {B : Nat} {er : Value} {L' : Lk} (h : LockIs [] 1 [[97], [98]] w' B er L') : er = .nilIface ∧ L' = [([97], 1), ([98], 1)] := by
  have hb : ∀ (i : Nat) s, ([[97], [98]] : List (List UInt8))[i]? = some s → barE [] 1 s = 0 := fun i s hs => by
    match i with
    | 0 => simp at hs; subst hs; decide
    | 1 => simp at hs; subst hs; decide
    | i + 2 => simp at hs
  rcases h with ⟨n, at_, _, _, h | ⟨_, i, s, h1, _, h3, h4, _⟩ | ⟨_, _, h, _⟩⟩ | ⟨h1, _, _, h4, _⟩
  · exact absurd h.1 (by decide)
  · rw [hb i s h1] at h3; omega
  · exact absurd h (by decide)
  · exact ⟨h1, h4⟩
theorem head_two {w' : World} {B : Nat} {er : Value} {L' : Lk} (h : LockIs [([97], 1), ([98], 1)] 2 [[99], [98]] w' B er L') : One w' (B ≤ ·) er 81 ⟨#[108, 111, 99, 107]⟩ 1 ∧ L' = [([97], 1), ([98], 1)] := by
  have hb : barE [([97], 1), ([98], 1)] 2 [98] = 81 := by decide
  rcases h with ⟨n, at_, ho, e, h | ⟨_, i, s, h1, h2, h3, h4, h5⟩ | ⟨_, h, _⟩⟩ | ⟨_, _, h, _⟩
  · exact absurd h.1 (by decide)
  · match i with
    | 0 =>
      simp at h1; subst h1
      rw [show barE [([97], 1), ([98], 1)] 2 [99] = 0 by decide] at h3
      omega
    | 1 =>
      simp at h1; subst h1
      rw [hb] at h3
      subst h3 h5
      exact ⟨ho, e⟩
    | i + 2 => simp at h1
  · have := h 1 [98] rfl
    rw [hb] at this; exact absurd this (by decide)
  · have := h 1 [98] rfl
    rw [hb] at this; exact absurd this (by decide)

set_option maxRecDepth 100000 in
set_option maxHeartbeats 8000000 in
theorem head08_true (w : World) (hg : ET w) (ht : PT w) : Calls Tryz.prog 4 #[] w fun e w' => e = .returned (.bool true) ∧ Below w.heap.size w w' := by
  have HV0 : Hid (Env w w) := ⟨Below.refl _ _, hg, ht⟩
  clear hg ht
  go_enter Tryz.func4, Tryz.ntmps4
  go_wp2_with fail
  refine (lkNew_any w).mono ?_
  rintro e w1 ⟨p, rfl, hs, hb⟩
  have HS1 := hideIt (Ls.new HV0.out hs hb)
  obtain ⟨O1, hO1⟩ : ∃ O1 : Nat → Prop, O1 = fun k => w.heap.size ≤ k ∧ k < w1.heap.size := ⟨_, rfl⟩
  rw [← hO1] at HS1
  clear hs hb hO1 HV0
  have HK1 := hideIt (lit_keys w1 [97] [98])
  have HB1 := hideIt ((Below.refl w1.heap.size w1).alloc (Nat.le_refl _) (.cells #[.string ⟨#[97]⟩, .string ⟨#[98]⟩] 9))
  go_wp2_with fail
  refine (lkLock_any _ p O1 [] 1 _ [[97], [98]] (HS1.out.next HB1.out).st (by unfold fits; omega) (RowIn.mono HK1.out (fun k _ hl => hl)) (by unfold maxLen; decide) (by unfold maxLen; decide)).mono ?_
  rintro e w2 ⟨er, L2, O2, rfl, g1, g2, g3⟩
  obtain ⟨rfl, rfl⟩ := head_one g3
  have HS2 := hideIt ((HS1.out.next HB1.out).move g1 g2)
  clear g1 g2 g3 HS1 HB1 HK1
  have HK1 := hideIt (lit_keys w2 [99] [98])
  have HB1 := hideIt ((Below.refl w2.heap.size w2).alloc (Nat.le_refl _) (.cells #[.string ⟨#[99]⟩, .string ⟨#[98]⟩] 9))
  go_wp2_with fail
  refine (lkLock_any _ p O2 [([97], 1), ([98], 1)] 2 _ [[99], [98]] (HS2.out.next HB1.out).st (by unfold fits; omega) (RowIn.mono HK1.out (fun k _ hl => hl)) (by unfold maxLen; decide) (by unfold maxLen; decide)).mono ?_
  rintro e w3 ⟨er, L3, O3, rfl, g1, g2, g3⟩
  obtain ⟨ho, rfl⟩ := head_two g3
  have HS3 := hideIt ((HS2.out.next HB1.out).move g1 g2)
  have HO3 := hideIt ho
  obtain ⟨ty, y, rfl⟩ := ho.iface
  clear g1 g2 g3 HS2 HB1 HK1 ho
  go_wp2_with fail
  refine (lkHolder_any w3 p O3 [([97], 1), ([98], 1)] [98] HS3.out.st (by unfold maxLen; decide)).mono ?_
  rintro e w4 ⟨rfl, rfl⟩
  rw [show holdV (holdL [([97], 1), ([98], 1)] [98]) = .tuple #[.int .i64 1, .bool true] from rfl]
  go_wp2_with fail
  refine (lkHolder_any w4 p O3 [([97], 1), ([98], 1)] [99] HS3.out.st (by unfold maxLen; decide)).mono ?_
  rintro e w5 ⟨rfl, rfl⟩
  rw [show holdV (holdL [([97], 1), ([98], 1)] [99]) = .tuple #[.int .i64 (-1), .bool false] from rfl]
  go_wp2_with fail
  have HA := hideIt (HS3.out.env.at HO3.out)
  refine (HA.out.text (by unfold fits; omega) (by decide) (by intro x hx; simp at hx; subst hx; unfold fits; simp) (by decide +kernel)).mono ?_
  rintro e w8 ⟨he, -, HB8⟩
  have he' : e = Ending.returned (.string ⟨#[108, 111, 99, 107, 32, 49, 58, 32, 99, 111, 104, 111, 114, 116, 58, 32, 101, 114, 114, 111, 114, 32, 56, 49]⟩) := by rw [he]; exact congrArg (fun x => Ending.returned (.string ⟨List.toArray x⟩)) head_text8
  clear he
  subst he'
  have HS8 := hideIt (HS3.out.next HB8.out)
  clear HA HB8 HS3 HO3
  go_wp2_with fail
  refine (lkMany_any w8 p O3 [([97], 1), ([98], 1)] HS8.out.st).mono ?_
  rintro e w9 ⟨rfl, rfl⟩
  rw [show ((([([97], 1), ([98], 1)] : Lk).length : Nat) : Int) = 2 from rfl]
  go_wp2_with fail
  refine (lkAny_any w9 p O3 [([97], 1), ([98], 1)] [98] [] HS8.out.st).mono ?_
  rintro e w10 ⟨rfl, hb10⟩
  rw [show (([([97], 1), ([98], 1)] : Lk).any fun x => inK [98] [] x.1) = true by decide]
  have HS10 := hideIt (HS8.out.next hb10)
  clear hb10
  go_wp2_with fail
  refine (lkAny_any w10 p O3 [([97], 1), ([98], 1)] [99] [] HS10.out.st).mono ?_
  rintro e w11 ⟨rfl, hb11⟩
  rw [show (([([97], 1), ([98], 1)] : Lk).any fun x => inK [99] [] x.1) = false by decide]
  have HS11 := hideIt (HS10.out.next hb11)
  clear hb11
  go_wp2
  go_ret
  exact ⟨rfl, HS11.out.env.1⟩
end Go.Proofs.YtnojbejjlahhkaaGreatDoor
