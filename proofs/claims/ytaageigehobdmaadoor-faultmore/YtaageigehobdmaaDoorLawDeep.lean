/-
  What is proved here: the statement's function cohortlaw01.FaultDeep returns true, over this program. Conditions: the library's variables lie as they are laid.
-/
import Derived.Test.YtaageigehobdmaaDoorLawIs
namespace Go.Proofs.YtaageigehobdmaaDoor
open Go.RowKit Go.Extern.Stop Go.Stop Go.Extern

/-- the steps of an error that was wrapped k times by one place -/
def deepL (s : ByteArray) : Nat → List (ByteArray × Int)
  | 0 => []
  | k + 1 => (s, (k : Int)) :: deepL s k
theorem deepL_length (s : ByteArray) (k : Nat) : (deepL s k).length = k := by
  induction k with
  | zero => rfl
  | succ k ih => simp [deepL, ih]
theorem deepL_get (s : ByteArray) (m i : Nat) (h : i < m) : (deepL s m)[i]? = some (s, (m : Int) - 1 - i) := by
  induction m generalizing i with
  | zero => omega
  | succ m ih =>
    cases i with
    | zero => simp [deepL]
    | succ i =>
      have := ih i (by omega)
      simp only [deepL, List.getElem?_cons_succ, this]
      congr 2; omega

set_option maxHeartbeats 8000000 in
theorem law_deep_no (n : Int) (m : Nat) (s : ByteArray) (w : World) (hs : s.size ≤ maxLen) (hg : ET w) (ht : PT w) (h : n = 0 ∨ 100 < s.size) :
    Calls Tryd.prog 7 #[.int .i64 n, .int .u8 m, .string s] w fun e w' => e = .returned (.bool true) ∧ Below w.heap.size w w' := by
  have HH := hideIt (head_true w hg ht)
  clear hg ht
  unfold maxLen at hs
  by_cases hn : n = 0
  · subst hn
    go_enter Tryd.func7, Tryd.ntmps7
    go_wp2_with fail
    refine HH.out.mono ?_
    rintro e w1 ⟨rfl, b1⟩
    go_wp2
    go_ret
    exact ⟨rfl, b1⟩
  · have h0 : (n == 0) = false := by simpa using hn
    have h1 : (100 : Int) < (s.size : Int) := by omega
    clear hn h
    go_enter Tryd.func7, Tryd.ntmps7
    go_wp2_with fail
    refine HH.out.mono ?_
    rintro e w1 ⟨rfl, b1⟩
    go_wp2
    go_ret
    exact ⟨rfl, b1⟩

set_option maxHeartbeats 8000000 in
theorem law_deep_yes (n : Int) (m : Nat) (s : ByteArray) (w : World) (hm : m ≤ 255) (hs : s.size ≤ 100) (hn : (n == 0) = false) (hg : ET w) (ht : PT w) :
    Calls Tryd.prog 7 #[.int .i64 n, .int .u8 m, .string s] w fun e w' => e = .returned (.bool true) ∧ Below w.heap.size w w' := by
  have HH := hideIt (head_true w hg ht)
  have HE := hideIt (And.intro hg ht)
  have HN := hideIt hn
  have h1 : ¬ (100 : Int) < (s.size : Int) := by omega
  clear hg ht
  go_enter Tryd.func7, Tryd.ntmps7
  go_wp2_with fail
  refine HH.out.mono ?_
  rintro e w1 ⟨rfl, b1⟩
  have HB1 := hideIt b1
  have HA1 := hideIt (At.num n (HE.out.1.kept b1 HE.out.1.lt) (HE.out.2.kept b1 HE.out.2.lt))
  clear b1 HH HE
  go_wp2_with fail
  refine (Of_err n HN.out w1).mono ?_
  rintro e w3 ⟨rfl, rfl⟩
  clear hn
  go_wp2
  go_loopw [8, 9] (fun v i wr => ∃ (k : Nat) (ty : TypeId) (y : Value), k ≤ m ∧ v = .iface ty y ∧ i = .int .i64 k ∧ Hid (At w3 n (.iface ty y) (deepL s k) wr)) (fun _ i _ => m - (intOf i).toNat)
  case atStart => exact ⟨0, _, _, Nat.zero_le _, rfl, rfl, HA1.out⟩
  case round =>
    obtain ⟨k, ty, y, hk, rfl, rfl, HX⟩ := hrel
    by_cases hlt : k < m
    · go_wp2_with fail
      refine (HX.out.wrap s k).mono ?_
      rintro e w4 ⟨ty2, y2, rfl, HX4, _⟩
      go_wp2
      exact ⟨⟨k + 1, ty2, y2, by omega, rfl, by go_num, HX4⟩, by simp [intOf]; omega⟩
    · have ek : k = m := by omega
      have HX2 : Hid (At w3 n (.iface ty y) (deepL s m) wr) := by rw [← ek]; exact HX
      clear HX ek
      go_wp2_with fail
      refine (HX2.out.trail (by rw [deepL_length]; omega)).mono ?_
      rintro e w4 ⟨a, cap, he, HS4, H4, _⟩
      rw [deepL_length] at he HS4
      subst he
      obtain ⟨a', cap', e1, hst⟩ := HS4.out
      simp only [Value.slice.injEq] at e1
      obtain ⟨rfl, e2, rfl⟩ := e1
      clear e2
      have HST := hideIt hst
      clear hst HS4 HX2
      go_wp2
      go_loop [11] (fun i => ∃ k : Nat, k ≤ m ∧ i = .int .i64 k) (fun i => m - (intOf i).toNat)
      case atStart => exact ⟨0, Nat.zero_le _, rfl⟩
      case round =>
        obtain ⟨j, hj, rfl⟩ := hrel
        by_cases hlj : j < m
        · obtain ⟨b, off, rfl, hbb, c0, c1⟩ := HST.out j _ (deepL_get s m j hlj)
          go_wp2
          exact ⟨⟨j + 1, by omega, by go_num⟩, by simp [intOf]; omega⟩
        · go_wp2_with fail
          refine (H4.out.is n HN.out).mono ?_
          rintro e w5 ⟨he, H5, _⟩
          rw [beq_self_eq_true] at he
          subst he
          go_wp2
          go_ret
          exact ⟨rfl, HB1.out.trans (H5.out.b.mono HB1.out.size)⟩

theorem law_deep (n : Int) (m : Nat) (s : ByteArray) (w : World) (hm : m ≤ 255) (hs : s.size ≤ maxLen) (hg : ET w) (ht : PT w) :
    Calls Tryd.prog 7 #[.int .i64 n, .int .u8 m, .string s] w fun e w' => e = .returned (.bool true) ∧ Below w.heap.size w w' := by
  by_cases h : n = 0 ∨ 100 < s.size
  · exact law_deep_no n m s w hs hg ht h
  · exact law_deep_yes n m s w hm (by omega) (by have : ¬ n = 0 := fun e => h (Or.inl e); simpa using this) hg ht
end Go.Proofs.YtaageigehobdmaaDoor
