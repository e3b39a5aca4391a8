/-
  What is proved here: bytes in memory; wire's appendHighestFirst, over this program.
-/
import Derived.Test.YtmhbfplaglipnaaGreatDoorMem
import Derived.Laws.AppendOwnNone
import Derived.Lib.UnsafeStr
namespace Go.Proofs.YtmhbfplaglipnaaGreatDoor
open Go.RowKit Go.Extern.Stop Go.Stop Go.Extern

/-- a number's last m bytes, the highest first -/
def be : Nat → Nat → List UInt8
  | 0, _ => []
  | m + 1, n => UInt8.ofNat (n / 256 ^ m) :: be m n
theorem be_length (m n : Nat) : (be m n).length = m := by
  induction m with
  | zero => rfl
  | succ m ih => simp [be, ih]

theorem be_byte (n j : Nat) (i : Int) (h : i = (j : Int)) : ((n : Int) / 2 ^ (8 * i).toNat % 256) = ((UInt8.ofNat (n / 256 ^ j)).toNat : Int) := by
  subst h
  have e : (8 * (j : Int)).toNat = 8 * j := by omega
  have e2 : (2 : Int) ^ (8 * j) = ((256 ^ j : Nat) : Int) := by rw [Int.pow_mul]; norm_cast
  rw [e, e2]
  simp

set_option maxRecDepth 100000 in
set_option maxHeartbeats 4000000 in
theorem HF_any (B : Nat) (v : Value) (xs : List UInt8) (n many : Nat) (w : World) (hn : n < 18446744073709551616) (hm : many ≤ 8) (ho : w.ownsRow B 5 1 v xs.length (Lib.byteCells xs)) (hB : B ≤ w.heap.size) (hx : xs.length ≤ 140000000000000) :
    Calls Tryz.prog 100 #[v, .int .u64 n, .int .i64 many] w fun e w' => ∃ v', e = .returned v' ∧ w'.ownsRow B 5 1 v' (xs ++ be many n).length (Lib.byteCells (xs ++ be many n)) ∧ Below B w w' := by
  obtain ⟨i0, hi, hi2⟩ := Option.map_eq_some_iff.1 infoByte
  obtain ⟨hz0, hz1, hz2⟩ : i0.zero = some (.int .u8 0) ∧ i0.size = 1 ∧ i0.bytes = 1 := by
    simp only [Prod.mk.injEq] at hi2; exact hi2
  have HI := hideIt (And.intro hi (And.intro hz0 (And.intro hz1 hz2)))
  clear hi2 hi hz0 hz1 hz2
  have HO := hideIt ho
  have HN := hideIt hn
  clear ho hn
  go_enter Tryz.func100, Tryz.ntmps100
  go_wp2
  go_loopw [0, 7] (fun s i wr => ∃ (j : Nat) (done : List UInt8), j ≤ many ∧ i = .int .i64 ((j : Int) - 1) ∧ Hid (be many n = done ++ be j n) ∧ Hid (wr.ownsRow B 5 1 s (xs ++ done).length (Lib.byteCells (xs ++ done))) ∧ Hid (Below B w wr)) (fun _ i _ => (intOf i + 1).toNat)
  case atStart => exact ⟨many, [], Nat.le_refl _, rfl, rfl, by simpa using HO, Below.refl _ _⟩
  case round =>
    obtain ⟨j, done, hj, rfl, HE, HW, HX⟩ := hrel
    have hdl : done.length + j = many := by have := congrArg List.length HE.out; simp [be_length] at this; omega
    cases j with
    | zero =>
      go_wp2
      go_ret
      have e1 : be many n = done := by have := HE.out; simpa [be] using this
      rw [← e1] at HW
      exact ⟨_, rfl, HW.out, HX.out⟩
    | succ j =>
      have hsz := HX.out.size
      obtain ⟨i, hi⟩ : ∃ i : Int, i = ((j + 1 : Nat) : Int) - 1 := ⟨_, rfl⟩
      rw [← hi]
      have hi0 : 0 ≤ i := by omega
      have hi7 : i ≤ 7 := by omega
      have HJ : Hid (i = (j : Int)) := by have : i = (j : Int) := by omega
                                          exact this
      clear hi
      have HCH := hideIt (be_byte n j i HJ.out)
      go_wp2_with (at_builtin; refine wpList_append_own _ rfl _ _ 75 rfl B 5 i0 (.int .u8 0) 1 1 Tryz.underlying75 HI.out.1 HI.out.2.1 HI.out.2.2.1 HI.out.2.2.2 rfl (by decide) _ _ _ rfl (HW.out.alloc _) ⟨wr.heap.size, 0, none⟩ 1 1 [.int .u8 (↑n / 2 ^ (8 * i).toNat % 256)] rfl rfl ?c1 ?c2 ?c3 ?c4 ?c5 ?_)
      case c1 => exact cell_one_new _ _ _
      case c2 => intro u hu; simp at hu; subst hu; rfl
      case c3 => unfold maxLen; simp; omega
      case c4 => simp; omega
      case c5 => simp; omega
      · intro v' w2 hown' hgrow _
        have HB2 := hideIt ((HX.out.alloc (by omega) _).grown hgrow (by simp; omega) (fun k hk => (HW.out.lt k hk).1))
        have HO2 := hideIt hown'
        clear hgrow hown'
        go_wp2
        go_roundw
        case rel =>
          refine ⟨j, done ++ [UInt8.ofNat (n / 256 ^ j)], by omega, congrArg (Value.int .i64) (by have := HJ.out; omega), ?_, ?_, HB2.out⟩
          · have := HE.out; simpa [Hid, be] using this
          · have := HO2.out
            rw [HCH.out] at this
            simpa [Hid, Lib.byteCells, Nat.add_assoc] using this
        case measure => have := HJ.out; simp [intOf]; omega
end Go.Proofs.YtmhbfplaglipnaaGreatDoor
