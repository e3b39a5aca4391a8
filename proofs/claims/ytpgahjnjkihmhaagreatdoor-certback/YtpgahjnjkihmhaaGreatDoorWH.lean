/-
  What is proved here: slices.Clone of bytes; wire's New and the Reader's length, num and text, over this program.
-/
import Derived.Test.YtpgahjnjkihmhaaGreatDoorWG
import Derived.Lib.SliceRun
namespace Go.Proofs.YtpgahjnjkihmhaaGreatDoor
open Go.RowKit Go.Extern.Stop Go.Stop Go.Extern

set_option maxRecDepth 100000 in
set_option maxHeartbeats 4000000 in
theorem clone_any (A : Nat → Prop) (v : Value) (s : List UInt8) (w : World) (hv : BytesIn w A v s) (hl : s.length ≤ 140737488355328) :
    Calls Tryz.prog 46 #[v] w fun e w' => ∃ v', e = .returned v' ∧ w'.ownsRow w.heap.size 5 1 v' s.length (Lib.byteCells s) ∧ Below w.heap.size w w' := by
  obtain ⟨i0, hi, hi2⟩ := Option.map_eq_some_iff.1 infoByte
  obtain ⟨hz0, hz1, hz2⟩ : i0.zero = some (.int .u8 0) ∧ i0.size = 1 ∧ i0.bytes = 1 := by
    simp only [Prod.mk.injEq] at hi2; exact hi2
  have HI := hideIt (And.intro hi (And.intro hz0 (And.intro hz1 hz2)))
  clear hi2 hi hz0 hz1 hz2
  obtain ⟨a, cap, rfl, hnil⟩ := hv.form
  have HV := hideIt hv
  clear hv
  have hq := fun (w : World) (a : Option Addr) (n c : Nat) => Lib.run_eql_slice_nil (P := Tryz.prog) w 25 5 a n c 0 0 Tryz.underlying25
  cases a with
  | none =>
    obtain ⟨rfl, rfl⟩ := hnil rfl
    go_enter Tryz.func46, Tryz.ntmps46
    go_wp2
    go_ret
    exact ⟨_, rfl, World.ownsRow_nil _ _ _ _, Below.refl _ _⟩
  | some ad =>
    have HB1 := hideIt ((Below.refl w.heap.size w).alloc (Nat.le_refl _) (.cells #[] 5))
    go_enter Tryz.func46, Tryz.ntmps46
    go_wp2_with (at_builtin; refine wpList_append_own _ rfl _ _ 25 rfl w.heap.size 5 i0 (.int .u8 0) 1 1 Tryz.underlying25 HI.out.1 HI.out.2.1 HI.out.2.2.1 HI.out.2.2.2 rfl (by decide) _ 0 [] rfl (World.ownsRow_made w #[] 0 (Nat.le_refl _) (by decide) rfl) ad s.length cap (Lib.byteCells s) rfl ?c0 ?c1 ?c2 ?c3 ?c4 ?c5 ?_)
    case c0 => simp [Lib.byteCells]
    case c1 => exact (RowIn.kept HV.out (Kept.of_all HB1.out)).cells
    case c2 => exact byteCells_one s
    case c3 => unfold maxLen; omega
    case c4 => omega
    case c5 => simp
    · intro v2 w2 hown' hgrow _
      have HB2 := hideIt (HB1.out.grown hgrow (by simp) (fun k hk => by simp [Value.ownBlock] at hk; omega))
      have HO2 := hideIt hown'
      clear hgrow hown'
      go_wp2
      go_ret
      exact ⟨_, rfl, by simpa using HO2.out, HB2.out⟩

set_option maxHeartbeats 4000000 in
theorem new_any (A : Nat → Prop) (v : Value) (s : List UInt8) (w : World) (hv : BytesIn w A v s) (hl : s.length ≤ 140737488355328) :
    Calls Tryz.prog 17 #[v] w fun e w' => ∃ p, e = .returned (.pointer (some ⟨p, 0, none⟩)) ∧ w.heap.size ≤ p ∧ p + 1 = w'.heap.size ∧ ROk w' p (fun k => k ≠ p) s 0 ∧ Below w.heap.size w w' := by
  have HC := hideIt (clone_any A v s w hv hl)
  obtain ⟨a, cap, rfl, _⟩ := hv.form
  clear hv
  go_enter Tryz.func17, Tryz.ntmps17
  go_wp2_with fail
  refine HC.out.mono ?_
  rintro e w1 ⟨v', rfl, ho, hb⟩
  have HO := hideIt ho
  have HB := hideIt hb
  obtain ⟨a2, cap2, rfl⟩ := own_form ho
  clear ho hb
  go_wp2
  go_ret
  have hs := HB.out.size
  refine ⟨w1.heap.size, rfl, hs, by simp, ⟨fun j => World.frozen?_alloc_at _ _ _ _ rfl, Nat.zero_le _, .slice a2 s.length cap2, ?_, ?_, ?_, ?_⟩, HB.out.alloc hs _⟩
  · rw [World.cell?_alloc_at _ _ _ _ rfl]; rfl
  · rw [World.cell?_alloc_at _ _ _ _ rfl]; rfl
  · rw [World.cell?_alloc_at _ _ _ _ rfl]; rfl
  · exact (RBytes.of_own HO.out (fun k _ h => Nat.ne_of_lt h)).kept (Kept.of_all ((Below.refl _ _).alloc (Nat.le_refl _) _))

/-! ### what is read: the value and how many bytes it took, or the error -/
def rdLen (most : Nat) (r : List UInt8) : Except Int (Nat × Nat) :=
  if r.length < 4 then .error 21 else if most < beVal (r.take 4) then .error 2 else .ok (beVal (r.take 4), 4)
def sgn (n : Nat) : Int := if n < 9223372036854775808 then n else (n : Int) - 18446744073709551616
theorem sgn_wrap64 (n : Nat) (h : n < 18446744073709551616) : wrap64 (n : Int) = sgn n := by
  unfold wrap64 sgn; split <;> omega
def rdNum (r : List UInt8) : Except Int (Int × Nat) := if r.length < 8 then .error 21 else .ok (sgn (beVal (r.take 8)), 8)
def rdText (r : List UInt8) : Except Int (List UInt8 × Nat) :=
  match rdLen 65536 r with
  | .error e => .error e
  | .ok (n, _) => if r.length < 4 + n then .error 21 else .ok ((r.drop 4).take n, 4 + n)

/-- what a way to read leaves: the value, the place behind it; or an error's number -/
def HowPost {α : Type} (w : World) (p : Nat) (A : Nat → Prop) (bs : List UInt8) (k : Nat) (R : Except Int (α × Nat)) (rep : World → Value → α → Prop) (e : Ending) (w' : World) : Prop :=
  w.grownBy w' (some p) ∧ match R with
    | .error n => (n == 0) = false ∧ ∃ v k', e = .returned (.tuple #[v, .int .i64 n]) ∧ ROk w' p A bs k'
    | .ok (x, c) => ∃ v, e = .returned (.tuple #[v, .int .i64 0]) ∧ rep w' v x ∧ ROk w' p A bs (k + c)
def isInt (_ : World) (v : Value) (n : Int) : Prop := v = .int .i64 n
def isNat (_ : World) (v : Value) (n : Nat) : Prop := v = .int .i64 (n : Int)

theorem drop_lt {bs : List UInt8} {k m : Nat} (hk : k ≤ bs.length) (h : (bs.drop k).length < m) : bs.length < k + m := by rw [List.length_drop] at h; omega
theorem drop_le {bs : List UInt8} {k m : Nat} (hk : k ≤ bs.length) (h : ¬ (bs.drop k).length < m) : k + m ≤ bs.length := by rw [List.length_drop] at h; omega

set_option maxRecDepth 100000 in
set_option maxHeartbeats 4000000 in
theorem num_any (p : Nat) (A : Nat → Prop) (bs : List UInt8) (k : Nat) (w : World) (hr : ROk w p A bs k) (hp : ¬ A p) (hl : bs.length ≤ 1000000000000) :
    Calls Tryz.prog 49 #[.pointer (some ⟨p, 0, none⟩)] w (HowPost w p A bs k (rdNum (bs.drop k)) isInt) := by
  have HR := hideIt hr
  have hk := hr.2.1
  clear hr
  by_cases h8 : (bs.drop k).length < 8
  · have HE : Hid (rdNum (bs.drop k) = .error 21) := if_pos h8
    have HN := hideIt (drop_lt hk h8)
    clear h8
    go_enter Tryz.func49, Tryz.ntmps49
    go_wp2_with fail
    refine (hf_no p A bs k 8 w HR.out hl (by decide) HN.out).mono ?_
    rintro e w1 ⟨rfl, hb⟩
    go_wp2
    go_ret2
    unfold HowPost
    rw [HE.out]
    exact ⟨grown_below hb _, rfl, _, k, rfl, HR.out.next hb⟩
  · have HE : Hid (rdNum (bs.drop k) = .ok (sgn (beVal ((bs.drop k).take 8)), 8)) := if_neg h8
    have HN := hideIt (drop_le hk h8)
    have HV : Hid (beVal ((bs.drop k).take 8) < 18446744073709551616) := by
      have h1 := beVal_lt ((bs.drop k).take 8)
      have h2 : 256 ^ ((bs.drop k).take 8).length ≤ 256 ^ 8 := Nat.pow_le_pow_right (by decide) (List.length_take_le _ _)
      have h3 : (256 : Nat) ^ 8 = 18446744073709551616 := by decide
      have h4 : beVal ((bs.drop k).take 8) < 18446744073709551616 := by omega
      exact h4
    have HF := hideIt (hf_ok p A bs k 8 w HR.out hp hl (by decide) HN.out)
    generalize beVal ((bs.drop k).take 8) = m at HE HV HF
    clear h8
    go_enter Tryz.func49, Tryz.ntmps49
    go_wp2_with fail
    refine HF.out.mono ?_
    rintro e w1 ⟨rfl, h1, h2⟩
    have H1 := hideIt (And.intro h1 h2)
    clear h1 h2
    go_wp2
    go_ret2
    unfold HowPost
    rw [HE.out, ← sgn_wrap64 m HV.out]
    exact ⟨H1.out.2, _, rfl, rfl, H1.out.1⟩

theorem beVal4 (r : List UInt8) : beVal (r.take 4) < 4294967296 := by
  have h1 := beVal_lt (r.take 4)
  have h2 : 256 ^ (r.take 4).length ≤ 256 ^ 4 := Nat.pow_le_pow_right (by decide) (List.length_take_le _ _)
  have h3 : (256 : Nat) ^ 4 = 4294967296 := by decide
  omega

set_option maxRecDepth 100000 in
set_option maxHeartbeats 4000000 in
theorem length_any (p : Nat) (A : Nat → Prop) (bs : List UInt8) (k most : Nat) (w : World) (hr : ROk w p A bs k) (hp : ¬ A p) (hl : bs.length ≤ 1000000000000) :
    Calls Tryz.prog 67 #[.pointer (some ⟨p, 0, none⟩), .int .u64 most] w (HowPost w p A bs k (rdLen most (bs.drop k)) isNat) := by
  have HR := hideIt hr
  have hk := hr.2.1
  clear hr
  by_cases h4 : (bs.drop k).length < 4
  · have HE : Hid (rdLen most (bs.drop k) = .error 21) := if_pos h4
    have HN := hideIt (drop_lt hk h4)
    clear h4
    go_enter Tryz.func67, Tryz.ntmps67
    go_wp2_with fail
    refine (hf_no p A bs k 4 w HR.out hl (by decide) HN.out).mono ?_
    rintro e w1 ⟨rfl, hb⟩
    go_wp2
    go_ret2
    unfold HowPost
    rw [HE.out]
    exact ⟨grown_below hb _, rfl, _, k, rfl, HR.out.next hb⟩
  · have HE : Hid (rdLen most (bs.drop k) = if most < beVal ((bs.drop k).take 4) then .error 2 else .ok (beVal ((bs.drop k).take 4), 4)) := if_neg h4
    have HN := hideIt (drop_le hk h4)
    have hv := beVal4 (bs.drop k)
    have HF := hideIt (hf_ok p A bs k 4 w HR.out hp hl (by decide) HN.out)
    generalize beVal ((bs.drop k).take 4) = m at HE hv HF
    clear h4
    by_cases hm : most < m
    · have hm2 : (most : Int) < (m : Int) := by omega
      go_enter Tryz.func67, Tryz.ntmps67
      go_wp2_with fail
      refine HF.out.mono ?_
      rintro e w1 ⟨rfl, h1, h2⟩
      have H1 := hideIt (And.intro h1 h2)
      clear h1 h2
      go_wp2
      go_ret2
      unfold HowPost
      rw [HE.out, if_pos hm]
      exact ⟨H1.out.2, rfl, _, _, rfl, H1.out.1⟩
    · have hm2 : ¬ (most : Int) < (m : Int) := by omega
      go_enter Tryz.func67, Tryz.ntmps67
      go_wp2_with fail
      refine HF.out.mono ?_
      rintro e w1 ⟨rfl, h1, h2⟩
      have H1 := hideIt (And.intro h1 h2)
      clear h1 h2
      go_wp2
      go_ret2
      unfold HowPost
      rw [HE.out, if_neg hm]
      exact ⟨H1.out.2, _, rfl, rfl, H1.out.1⟩

/-- bytes in blocks of A -/
def isText (A : Nat → Prop) (w : World) (v : Value) (s : List UInt8) : Prop := BytesIn w A v s

end Go.Proofs.YtpgahjnjkihmhaaGreatDoor
