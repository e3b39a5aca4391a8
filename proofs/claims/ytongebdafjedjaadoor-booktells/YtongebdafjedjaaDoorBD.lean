/-
  What is proved here: the statements' own head and great (cohortlaw03), over this program.
-/
import Derived.Test.YtongebdafjedjaaDoorBC
namespace Go.Proofs.YtongebdafjedjaaDoor
open Go.RowKit Go.Extern.Stop Go.Stop Go.Extern

def wgt (l : List (List UInt8)) : Nat := (l.map fun s => 10 + min s.length 300000).sum
theorem wgt_take (l : List (List UInt8)) (k : Nat) (x : List UInt8) (hx : l[k]? = some x) : wgt (l.take (k + 1)) = wgt (l.take k) + (10 + min x.length 300000) := by
  have hlt : k < l.length := (List.getElem?_eq_some_iff.1 hx).1
  have he : l[k] = x := (List.getElem?_eq_some_iff.1 hx).2
  unfold wgt
  rw [List.take_succ_eq_append_getElem hlt, he]; simp
theorem wgt_mem (l : List (List UInt8)) (h : wgt l < 300000) : ∀ x ∈ l, x.length < 300000 := by
  induction l with
  | nil => simp
  | cons y r ih =>
    have e : wgt (y :: r) = 10 + min y.length 300000 + wgt r := by simp [wgt]
    rw [e] at h
    intro x hx
    simp only [List.mem_cons] at hx
    rcases hx with rfl | hx
    · omega
    · exact ih (by omega) x hx
/-- what great answers: no only where the texts are few and short -/
def LightPost (l : List (List UInt8)) (e : Ending) : Prop := ∃ g : Bool, e = .returned (.bool g) ∧ (g = false → l.length ≤ 300 ∧ ∀ x ∈ l, x.length < 300000)

set_option maxHeartbeats 4000000 in
theorem great03_any (A : Nat → Prop) (sl : Value) (l : List (List UInt8)) (w : World) (hs : TextsIn w A sl l) (hlen : l.length ≤ maxLen) (hsz : ∀ x ∈ l, x.length ≤ maxLen) :
    Calls Tryd.prog 8 #[sl] w fun e w' => LightPost l e ∧ w' = w := by
  have HS := hideIt hs
  obtain ⟨a, cap, rfl⟩ := hs.form
  have HZ := hideIt hsz
  unfold maxLen at hlen
  clear hs hsz
  go_enter Tryd.func8, Tryd.ntmps8
  go_wp2
  go_loop [3, 4] (fun n i => ∃ k : Nat, k ≤ l.length ∧ i = .int .i64 k ∧ n = .int .i64 (wgt (l.take k)) ∧ wgt (l.take k) ≤ 700000) (fun _ i => l.length - (intOf i).toNat)
  case atStart => exact ⟨0, Nat.zero_le _, rfl, rfl, by simp [wgt]⟩
  case round =>
    obtain ⟨k, hk, rfl, rfl, hw0⟩ := hrel
    have hw : ((wgt (l.take k) : Nat) : Int) ≤ 700000 := by omega
    clear hw0
    by_cases hlt : k < l.length
    · by_cases hn : ((wgt (l.take k) : Nat) : Int) < 300000
      · obtain ⟨x, hx⟩ : ∃ x, l[k]? = some x := ⟨l[k], by simp [hlt]⟩
        obtain ⟨b, off, u, rfl, _, c0, y0⟩ := HS.out.at hx
        obtain ⟨a1, cap1, rfl, _⟩ := y0.form
        have hxs := HZ.out x (List.mem_of_getElem? hx)
        unfold maxLen at hxs
        have HW := hideIt (wgt_take l k x hx)
        clear hx y0
        go_wp2
        have h1 := HW.out
        refine ⟨⟨k + 1, by omega, by go_num, congrArg (Value.int .i64) (by omega), by omega⟩, by simp [intOf]; omega⟩
      · go_wp2
        go_ret
        exact ⟨⟨_, rfl, fun h => by simp at h⟩, rfl⟩
    · have ek : k = l.length := by omega
      have HE := hideIt ek
      clear ek
      by_cases hn : 300000 ≤ ((wgt (l.take k) : Nat) : Int)
      · go_wp2
        go_ret
        exact ⟨⟨_, rfl, fun h => by simp at h⟩, rfl⟩
      · go_wp2
        go_ret
        refine ⟨⟨_, rfl, fun h => ?_⟩, rfl⟩
        have h1 : wgt l < 300000 := by
          have := HE.out
          subst this
          rw [List.take_length] at hn
          omega
        exact ⟨by simp at h; omega, wgt_mem l h1⟩

theorem head_text3 : textL [(⟨#[98, 111, 111, 107]⟩, 2)] ++ errText 1 = [98, 111, 111, 107, 32, 50, 58, 32, 99, 111, 104, 111, 114, 116, 58, 32, 101, 114, 114, 111, 114, 32, 49] := by decide +kernel

set_option maxRecDepth 100000 in
set_option maxHeartbeats 8000000 in
theorem head03_true (w : World) (hg : ET w) (ht : PT w) : Calls Tryd.prog 7 #[] w fun e w' => e = .returned (.bool true) ∧ Below w.heap.size w w' := by
  have HV0 : Hid (Env w w) := ⟨Below.refl _ _, hg, ht⟩
  clear hg ht
  go_enter Tryd.func7, Tryd.ntmps7
  go_wp2_with fail
  refine (bNew_any w).mono ?_
  rintro e w1 ⟨p, rfl, hs, hb⟩
  have HV1 := hideIt (HV0.out.next hb)
  have HS1 := hideIt hs
  clear hs hb
  have hcv := Joins.run_convert_bytes_const_at (P := Tryd.prog) w1 31 5 #[.int .u8 97] 1 1 w1.heap.size rfl Tryd.underlying31 Tryd.underlying5
  go_wp2_with fail
  have hb1 : Below w1.heap.size w1 (w1.alloc (.cells #[.int .u8 97] 5 (1, 2))) := (Below.refl _ _).alloc (Nat.le_refl _) _
  refine (bDigest_new _ p _ (fun _ => True) [] _ [97] (HS1.out.kept (Kept.of_all hb1)) (lit_bytes w1 [97] _ trivial (1, 2)) (by simp) (by decide) (by decide)).mono ?_
  rintro e w2 ⟨rfl, O2, h2, t2, o2⟩
  have hlo2 : ∀ k, O2 k → w.heap.size ≤ k := fun k hk => by
    rcases o2 k hk with h | h
    · exact h.1
    · have := HV1.out.1.size; have := hb1.size; omega
  have HV2 : Hid (Env w w2) := by
    have hb2 := (HV1.out.next hb1)
    exact ⟨hb2.1.trans (t2.below (fun k hk => hk.1) hb2.1.size), hb2.2⟩
  have HS2 := hideIt h2
  have HL2 := hideIt hlo2
  clear h2 t2 o2 hb1 hcv hlo2
  have hcv := Joins.run_convert_bytes_const_at (P := Tryd.prog) w2 31 5 #[.int .u8 98] 1 1 w2.heap.size rfl Tryd.underlying31 Tryd.underlying5
  go_wp2_with fail
  have hb1 : Below w2.heap.size w2 (w2.alloc (.cells #[.int .u8 98] 5 (1, 2))) := (Below.refl _ _).alloc (Nat.le_refl _) _
  refine (bDigest_new _ p _ (fun _ => True) [[97]] _ [98] (HS2.out.kept (Kept.of_all hb1)) (lit_bytes w2 [98] _ trivial (1, 2)) (by decide) (by decide) (by decide)).mono ?_
  rintro e w3 ⟨rfl, O3, h3, t3, o3⟩
  have HV3 : Hid (Env w w3) := by
    have hb2 := (HV2.out.next hb1)
    exact ⟨hb2.1.trans (t3.below (fun k hk => HL2.out k hk) hb2.1.size), hb2.2⟩
  have HS3 := hideIt h3
  clear h3 t3 o3 hb1 hcv
  have hcv := Joins.run_convert_bytes_const_at (P := Tryd.prog) w3 31 5 #[.int .u8 97] 1 1 w3.heap.size rfl Tryd.underlying31 Tryd.underlying5
  go_wp2_with fail
  have hb1 : Below w3.heap.size w3 (w3.alloc (.cells #[.int .u8 97] 5 (1, 2))) := (Below.refl _ _).alloc (Nat.le_refl _) _
  refine (bDigest_there _ p _ (fun _ => True) [[97], [98]] _ [97] 0 (HS3.out.kept (Kept.of_all hb1)) (lit_bytes w3 [97] _ trivial (1, 2)) rfl).mono ?_
  rintro e w4 ⟨rfl, hb4⟩
  have HV4 := hideIt ((HV3.out.next hb1).next hb4)
  have HS4 := hideIt ((HS3.out.kept (Kept.of_all hb1)).kept (Kept.of_all hb4))
  clear hb1 hb4 hcv
  go_wp2_with fail
  refine (bText_bad _ p _ [[97], [98]] 2 HS4.out (by decide)).mono ?_
  rintro e w5 ⟨er, rfl, ho, hb5⟩
  have HV5 := hideIt (HV4.out.next hb5)
  have HS5 := hideIt (HS4.out.kept (Kept.of_all hb5))
  have HA5 := hideIt (HV5.out.at ho)
  obtain ⟨ty, y, rfl⟩ := ho.iface
  clear ho hb5
  go_wp2_with fail
  refine (HA5.out.text (by unfold fits; omega) (by decide) (by intro x hx; simp at hx; subst hx; unfold fits; simp) (by decide +kernel)).mono ?_
  rintro e w6 ⟨he, H6, HB6⟩
  have he' : e = Ending.returned (.string ⟨#[98, 111, 111, 107, 32, 50, 58, 32, 99, 111, 104, 111, 114, 116, 58, 32, 101, 114, 114, 111, 114, 32, 49]⟩) := by rw [he]; exact congrArg (fun x => Ending.returned (.string ⟨List.toArray x⟩)) head_text3
  clear he
  subst he'
  have HV6 := hideIt (HV5.out.next HB6.out)
  have HS6 := hideIt (HS5.out.kept (Kept.of_all HB6.out))
  go_wp2_with fail
  refine (bMany_any w6 p _ [[97], [98]] HS6.out).mono ?_
  rintro e w7 ⟨rfl, rfl⟩
  go_wp2
  go_ret
  exact ⟨rfl, HV6.out.1⟩
end Go.Proofs.YtongebdafjedjaaDoor
