/-
  What is proved here: math/bits' Len of a small number; merkle's span: do two meet, the halves of one; over this program.
-/
import Derived.Test.YtmhbfplaglipnaaGreatDoorMem
import Derived.BigQuiet
import Derived.Deep.QuietTactic
import Derived.Deep.RegionWith
namespace Go.Proofs.YtmhbfplaglipnaaGreatDoor
open Go.RowKit Go.Extern.Stop Go.Stop Go.Extern

/-- the greatest power of two below n (n at least 2) -/
def pw (n : Nat) : Nat := 2 ^ Nat.log2 (n - 1)
theorem pw_lt {n : Nat} (h : 2 ≤ n) : pw n < n := by
  have := Nat.log2_self_le (n := n - 1) (by omega)
  unfold pw; omega
theorem pw_pos (n : Nat) : 1 ≤ pw n := Nat.one_le_two_pow
theorem pw_twice (n : Nat) (h : 2 ≤ n) : n ≤ 2 * pw n := by
  have := Nat.lt_log2_self (n := n - 1)
  unfold pw
  have e : 2 ^ (Nat.log2 (n - 1) + 1) = 2 * 2 ^ Nat.log2 (n - 1) := by rw [Nat.pow_succ]; omega
  omega
theorem bitLen_log : ∀ x : Fin 1024, x.val ≠ 0 → Lib.bitLen x.val = Nat.log2 x.val + 1 := by decide +kernel

theorem bitsLen_any (x : Int) (w : World) (h0 : 0 ≤ x) (h1 : x ≤ 1023) : Calls Tryz.prog 85 #[.int .u64 x] w fun e w' => e = .returned (.int .i64 (Lib.bitLen x.toNat)) ∧ w' = w := by
  have H := hideIt (Tryz.bits_Len64 x w h0 (by omega))
  go_enter Tryz.func85, Tryz.ntmps85
  go_wp2_with fail
  refine H.out.mono ?_
  rintro e w1 ⟨rfl, rfl⟩
  go_wp2
  go_ret
  exact ⟨rfl, rfl⟩

/-- do the n from lo on meet the m from F on? -/
def meet (lo n F m : Int) : Bool := decide (max lo F < min (lo + n) (F + m))

set_option maxRecDepth 100000 in
set_option maxHeartbeats 4000000 in
theorem meets_any (lo n F m : Int) (w : World) (h1 : 0 ≤ lo ∧ lo ≤ 4096) (h2 : 0 ≤ n ∧ n ≤ 4096) (h3 : 0 ≤ F ∧ F ≤ 4096) (h4 : 0 ≤ m ∧ m ≤ 4096) :
    Calls Tryz.prog 68 #[.agg #[.int .i64 lo, .int .i64 n], .agg #[.int .i64 F, .int .i64 m]] w fun e w' => e = .returned (.bool (meet lo n F m)) ∧ Below w.heap.size w w' := by
  go_enter Tryz.func68, Tryz.ntmps68
  go_wp2
  go_ret
  exact ⟨rfl, ((Below.refl _ _).alloc (Nat.le_refl _) _).alloc (by simp) _⟩

set_option maxRecDepth 100000 in
set_option maxHeartbeats 4000000 in
theorem halves_any (lo n : Nat) (w : World) (h1 : lo ≤ 4096) (h2 : 2 ≤ n ∧ n ≤ 1024) :
    Calls Tryz.prog 69 #[.agg #[.int .i64 lo, .int .i64 n]] w fun e w' => e = .returned (.tuple #[.agg #[.int .i64 lo, .int .i64 (pw n)], .agg #[.int .i64 ((lo + pw n : Nat) : Int), .int .i64 ((n - pw n : Nat) : Int)]]) ∧ Below w.heap.size w w' := by
  have hp := pw_lt h2.1
  have hp1 := pw_pos n
  have hb := bitLen_log ⟨n - 1, by omega⟩ (by show n - 1 ≠ 0; omega)
  have hl : Nat.log2 (n - 1) ≤ 9 := by
    have := (Nat.log2_lt (n := n - 1) (k := 10) (by omega)).2 (by omega)
    omega
  obtain ⟨L, hL⟩ : ∃ L : Int, L = ((Nat.log2 (n - 1) : Nat) : Int) := ⟨_, rfl⟩
  have hL0 : 0 ≤ L := by omega
  have hL9 : L ≤ 9 := by omega
  have HE : Hid ((Lib.bitLen ((n : Int) - 1).toNat : Int) = L + 1) := hideIt (by
    have : ((n : Int) - 1).toNat = n - 1 := by omega
    rw [this]; simp only at hb; rw [hb, hL]; omega)
  have HP : Hid ((2 : Int) ^ L.toNat = (pw n : Int)) := hideIt (by
    subst hL; unfold pw; push_cast; rfl)
  obtain ⟨q, hq⟩ : ∃ q, q = pw n := ⟨_, rfl⟩
  rw [← hq] at hp hp1 HP ⊢
  clear hb hl hL hq
  go_enter Tryz.func69, Tryz.ntmps69
  go_wp2_with fail
  refine (bitsLen_any ((n : Int) - 1) _ (by omega) (by omega)).mono ?_
  rw [HE.out]
  rintro e w1 ⟨rfl, rfl⟩
  go_wp2_with fail
  have e : wrap64 (2 ^ L.toNat) = (q : Int) := by rw [HP.out]; unfold wrap64; omega
  rw [e]
  clear e
  go_region_with (fail)
  all_goals
    go_wp2
    have e1 : IntKind.i64.wrap ((lo : Int) + q) = ((lo + q : Nat) : Int) := by simp [IntKind.wrap, IntKind.bits, IntKind.signed]; omega
    have e2 : IntKind.i64.wrap ((n : Int) - q) = ((n - q : Nat) : Int) := by simp [IntKind.wrap, IntKind.bits, IntKind.signed]; omega
    try rw [e1]
    try rw [e2]
    refine bodyPost_ret (v := .tuple #[.agg #[.int .i64 lo, .int .i64 q], .agg #[.int .i64 ((lo + q : Nat) : Int), .int .i64 ((n - q : Nat) : Int)]]) (by simp [results, Tryz.results69, go_sem]) rfl ?_
    refine ⟨rfl, ?_⟩
    have hb : Below w.heap.size w (((w.alloc (Obj.cells #[Value.int IntKind.i64 lo, Value.int IntKind.i64 n] 61)).alloc (Obj.cells #[Value.int IntKind.i64 lo, Value.int IntKind.i64 q] 61)).alloc (Obj.cells #[Value.int IntKind.i64 ((lo + q : Nat) : Int), Value.int IntKind.i64 ((n - q : Nat) : Int)] 61)) := (((Below.refl _ _).alloc (Nat.le_refl _) _).alloc (by simp) _).alloc (by simp; omega) _
    exact hb.drew
end Go.Proofs.YtmhbfplaglipnaaGreatDoor
