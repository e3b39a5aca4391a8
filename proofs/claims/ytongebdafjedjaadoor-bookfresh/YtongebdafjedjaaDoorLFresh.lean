/-
  What is proved here: the walk of cohortlaw03.BookFresh, over this program.
-/
import Derived.Test.YtongebdafjedjaaDoorBD
namespace Go.Proofs.YtongebdafjedjaaDoor
open Go.RowKit Go.Extern.Stop Go.Stop Go.Extern

/-- the texts of two bytes, a place and 1 -/
def twos (n : Nat) : List (List UInt8) := (List.range n).map fun i => [UInt8.ofNat i, 1]
theorem twos_length (n : Nat) : (twos n).length = n := by simp [twos]
theorem twos_succ (n : Nat) : twos (n + 1) = twos n ++ [[UInt8.ofNat n, 1]] := by simp [twos, List.range_succ]
theorem twos_at (n : Nat) (x : UInt8) (h : x.toNat < n) : (twos n)[x.toNat]? = some [x, 1] := by
  simp [twos, h]
theorem twos_new (n : Nat) (h : n < 256) : [UInt8.ofNat n, 1] ∉ twos n := by
  intro hm
  obtain ⟨i, hi, e⟩ := List.mem_map.1 hm
  have h1 := List.mem_range.1 hi
  simp only [List.cons.injEq, and_true] at e
  have e2 := congrArg UInt8.toNat e
  simp only [UInt8.toNat_ofNat'] at e2
  omega
theorem byte_nat (k : Nat) (h : k < 256) : (k : Int) = ((UInt8.ofNat k).toNat : Int) := by
  simp only [UInt8.toNat_ofNat']
  omega
/-- a slice of a byte and 1, just made -/
theorem lit_two (w : World) (z : Int) (x : UInt8) (hz : z = (x.toNat : Int)) (A : Nat → Prop) (hA : A w.heap.size) : BytesIn (w.alloc (.cells #[.int .u8 z, .int .u8 1] 5)) A (.slice (some ⟨w.heap.size, 0, none⟩) 2 2) [x, 1] := by
  subst hz; exact lit_bytes w [x, 1] A hA (0, 0)

theorem Env.turn {w0 w w' : World} {O : Nat → Prop} (h : Env w0 w) (ht : Turn O w w') (hO : ∀ k, O k → w0.heap.size ≤ k) : Env w0 w' := ⟨h.1.trans (ht.below hO h.1.size), h.2⟩

set_option maxRecDepth 100000 in
set_option maxHeartbeats 8000000 in
theorem fresh_true (N : UInt8) (v : Value) (l : List UInt8) (w : World) (hv : BytesIn w (· < w.heap.size) v l) (hll : l.length ≤ maxLen) (hg : ET w) (ht : PT w) :
    Calls Tryd.prog 6 #[.int .u8 N.toNat, v] w fun e w' => e = .returned (.bool true) ∧ Below w.heap.size w w' := by
  have HV0 : Hid (Env w w) := ⟨Below.refl _ _, hg, ht⟩
  have HH := hideIt (head03_true w hg ht)
  have HY := hideIt hv
  obtain ⟨a, cap, rfl, _⟩ := hv.form
  unfold maxLen at hll
  obtain ⟨n, hn, hn8⟩ : ∃ n : Nat, N.toNat = n ∧ n < 256 := ⟨_, rfl, N.toNat_lt⟩
  rw [hn]
  clear hg ht hv hn
  go_enter Tryd.func6, Tryd.ntmps6
  go_wp2_with fail
  refine HH.out.mono ?_
  rintro e w1 ⟨rfl, hb1⟩
  have HV1 := hideIt (HV0.out.next hb1)
  clear hb1 HH HV0
  go_wp2_with fail
  refine (bNew_any w1).mono ?_
  rintro e w2 ⟨p, rfl, hs, hb⟩
  have HV2 := hideIt (HV1.out.next hb)
  have HS2 := hideIt hs
  have hlo := HV1.out.1.size
  clear hs hb HV1
  by_cases hl2 : (200 : Int) < (l.length : Int)
  · go_wp2
    go_ret
    exact ⟨rfl, HV2.out.1⟩
  · go_wp2
    go_loopw [7] (fun i wr => ∃ (k : Nat) (O : Nat → Prop), k ≤ n ∧ i = .int .i64 k ∧ Hid (BookSt wr p O (twos k)) ∧ Hid (∀ j, O j → w.heap.size ≤ j) ∧ Hid (Env w wr)) (fun i _ => n - (intOf i).toNat)
    case atStart => exact ⟨0, _, Nat.zero_le _, rfl, HS2.out, fun j hj => by have := hj.1; omega, HV2.out⟩
    case round =>
      clear HS2 HV2 hlo
      obtain ⟨k, O, hk, rfl, HS, HO, HV⟩ := hrel
      by_cases hlt : k < n
      · go_wp2_with fail
        have hb1 : Below wr.heap.size wr (wr.alloc (.cells #[.int .u8 (k : Int), .int .u8 1] 5)) := (Below.refl _ _).alloc (Nat.le_refl _) _
        refine (bDigest_new _ p O (fun _ => True) (twos k) _ [UInt8.ofNat k, 1] (HS.out.kept (Kept.of_all hb1)) (lit_two wr _ (UInt8.ofNat k) (byte_nat k (by omega)) _ trivial) (twos_new k (by omega)) (by simp) (by rw [twos_length]; omega)).mono ?_
        rw [twos_length]
        rintro e w3 ⟨rfl, O', h3, t3, o3⟩
        have HS3 : Hid (BookSt w3 p O' (twos (k + 1))) := by rw [twos_succ]; exact h3
        have HV3 := hideIt ((HV.out.next hb1).turn t3 HO.out)
        have HO3 : Hid (∀ j, O' j → w.heap.size ≤ j) := fun j hj => by
          rcases o3 j hj with h | h
          · exact HO.out j h
          · have := HV.out.1.size; have := hb1.size; omega
        clear h3 t3 o3 hb1
        go_wp2
        exact ⟨⟨k + 1, O', by omega, by go_num, HS3.out, HO3.out, HV3.out⟩, by simp [intOf]; omega⟩
      · have ek : k = n := by omega
        subst ek
        go_wp2
        go_loopw [10] (fun i wq => ∃ j : Nat, j ≤ l.length ∧ i = .int .i64 j ∧ Hid (BookSt wq p O (twos k)) ∧ Hid (Env w wq)) (fun i _ => l.length - (intOf i).toNat)
        case atStart => exact ⟨0, Nat.zero_le _, rfl, HS.out, HV.out⟩
        case round =>
          clear HS HV
          obtain ⟨j, hj, rfl, HS, HV⟩ := hrel
          by_cases hlj : j < l.length
          · obtain ⟨x, hx⟩ : ∃ x, l[j]? = some x := ⟨l[j], by simp [hlj]⟩
            have hy := RowIn.kept HY.out (Kept.of_below HV.out.1 (fun _ h _ => h))
            obtain ⟨b, off, rfl, hbw, c0⟩ := BytesIn.at hy hx
            obtain ⟨m, hm, hm8⟩ : ∃ m : Nat, x.toNat = m ∧ m < 256 := ⟨_, rfl, x.toNat_lt⟩
            rw [hm] at c0
            have HX := hideIt (And.intro hm hx)
            clear hm hx hy
            by_cases hmk : m < k
            · go_wp2_with fail
              have hb1 : Below wr.heap.size wr (wr.alloc (.cells #[.int .u8 (m : Int), .int .u8 1] 5)) := (Below.refl _ _).alloc (Nat.le_refl _) _
              have hxm : x.toNat < k := by have := HX.out.1; omega
              have hat : (twos k)[m]? = some [x, 1] := by rw [← HX.out.1]; exact twos_at k x hxm
              refine (bDigest_there _ p O (fun _ => True) (twos k) _ [x, 1] m (HS.out.kept (Kept.of_all hb1)) (lit_two wr _ x (by rw [HX.out.1]) _ trivial) hat).mono ?_
              rintro e w4 ⟨rfl, hb4⟩
              have HV4 := hideIt ((HV.out.next hb1).next hb4)
              have HS4 := hideIt ((HS.out.kept (Kept.of_all hb1)).kept (Kept.of_all hb4))
              have hbb := hb1.trans (hb4.mono hb1.size)
              have c4 : w4.cell? ⟨b, off + j, none⟩ = some (.int .u8 (m : Int)) := (hbb.cell (lt_of_cell c0)).trans c0
              clear hb1 hb4 hbb c0 HV HS
              go_wp2_with fail
              refine (bText_ok _ p O (twos k) [x, 1] m HS4.out hat).mono ?_
              rintro e w5 ⟨cap5, rfl, y5, hc5, _, hb5⟩
              obtain ⟨_, _, e5, _, d0⟩ := BytesIn.at y5 (k := 0) (x := x) rfl
              simp only [Option.some.injEq, Addr.mk.injEq] at e5
              obtain ⟨rfl, rfl, _⟩ := e5
              have c5 : w5.cell? ⟨b, off + j, none⟩ = some (.int .u8 (m : Int)) := (hb5.cell (lt_of_cell c4)).trans c4
              have d5 : w5.cell? ⟨w4.heap.size, 0, none⟩ = some (.int .u8 (m : Int)) := by rw [← HX.out.1]; exact d0
              have HV5 := hideIt (HV4.out.next hb5)
              have HS5 := hideIt (HS4.out.kept (Kept.of_all hb5))
              clear d0 y5 hb5 c4 HV4 HS4 hat hxm
              go_wp2
              go_quiet (fail)
              have HV6 := hideIt (HV5.out.next (below_drewN w5 nq))
              have HS6 := hideIt (HS5.out.kept (Kept.of_all (below_drewN w5 nq)))
              generalize w5.drewN nq = w6 at HV6 HS6 ⊢
              go_wp2
              exact ⟨⟨j + 1, by omega, by go_num, HS6.out, HV6.out⟩, by simp [intOf]; omega⟩
            · go_wp2
              exact ⟨⟨j + 1, by omega, by go_num, HS.out, HV.out⟩, by simp [intOf]; omega⟩
          · go_wp2_with fail
            refine (bMany_any _ p O (twos k) HS.out).mono ?_
            rw [twos_length]
            rintro e w5 ⟨rfl, rfl⟩
            go_wp2
            go_ret
            exact ⟨rfl, HV.out.1⟩
end Go.Proofs.YtongebdafjedjaaDoor
