/-
  What is proved here: merkle's reachesBelow, reachesTo and reachesLast; over this program.
-/
import Derived.Test.YtkfoolenjegccaaGreatDoorMU
namespace Go.Proofs.YtkfoolenjegccaaGreatDoor
open Go.RowKit Go.Extern.Stop Go.Stop Go.Extern

/-- does a proof leave out nothing from a key on, up to its first entry? -/
def reachB (F : Int) (L : List Ent) (key : List UInt8) : Bool := F == 0 || (match L[0]? with | none => false | some e => Op.bytesLess e.1 key)
/-- does it go up to the last entry of all? -/
def reachE (N F : Int) (L : List Ent) : Bool := F + L.length == N
/-- does it leave out nothing behind its last entry, up to a key? -/
def reachT (N F : Int) (L : List Ent) (key : List UInt8) : Bool := reachE N F L || (match L[L.length - 1]? with | none => false | some e => !(Op.bytesLess e.1 key))

set_option maxRecDepth 100000 in
set_option maxHeartbeats 8000000 in
theorem mrLast_any (w : World) (N F : Int) (al : Option Addr) (cl : Nat) (ab : Option Addr) (nb cb : Nat) (L : List Ent) (hl : L.length ≤ 1024) (hF : 0 ≤ F ∧ F ≤ 1024) :
    Calls Tryz.prog 32 #[.agg #[.int .i64 N, .int .i64 F, .slice al L.length cl, .slice ab nb cb]] w fun e w' => e = .returned (.bool (reachE N F L)) ∧ Below w.heap.size w w' := by
  obtain ⟨k1, k2⟩ := hF
  go_enter Tryz.func32, Tryz.ntmps32
  go_wp2
  go_ret
  exact ⟨rfl, (Below.refl _ _).alloc (Nat.le_refl _) _⟩

set_option maxRecDepth 100000 in
set_option maxHeartbeats 8000000 in
theorem mrBelow_any (w : World) (A : Nat → Prop) (N F : Int) (vl : Value) (ab : Option Addr) (nb cb : Nat) (L : List Ent) (key : List UInt8) (hv : EntsIn w A vl L) (hl : L.length ≤ 1024) :
    Calls Tryz.prog 30 #[.agg #[.int .i64 N, .int .i64 F, vl, .slice ab nb cb], .string ⟨key.toArray⟩] w fun e w' => e = .returned (.bool (reachB F L key)) ∧ Below w.heap.size w w' := by
  obtain ⟨al, cl, rfl⟩ := hv.form
  obtain ⟨W, hW, hwb, hws, ⟨c0, c1, c2, c3⟩, _⟩ := room4 w 25 (.int .i64 N) (.int .i64 F) (.slice al L.length cl) (.slice ab nb cb)
  have HWB := hideIt hwb
  have HV := hideIt (RowIn.kept (RowIn.mono (A' := fun k => A k) hv (fun _ h _ => h)) (Kept.of_all hwb))
  clear hv hwb hws
  by_cases hF : F = 0
  · have h0 : (F == 0) = true := by simp [hF]
    have HR : Hid (reachB F L key = true) := hideIt (by unfold reachB; rw [h0]; rfl)
    clear hF
    subst hW
    go_enter Tryz.func30, Tryz.ntmps30
    go_wp2
    go_ret
    exact ⟨by rw [HR.out]; rfl, HWB.out⟩
  · have h0 : (F == 0) = false := by simp [hF]
    cases L with
    | nil =>
      have HR : Hid (reachB F [] key = false) := hideIt (by unfold reachB; rw [h0]; rfl)
      clear hF
      subst hW
      go_enter Tryz.func30, Tryz.ntmps30
      go_wp2
      go_ret
      exact ⟨by rw [HR.out]; rfl, HWB.out⟩
    | cons x r =>
      have HR : Hid (reachB F (x :: r) key = Op.bytesLess x.1 key) := hideIt (by unfold reachB; rw [h0]; rfl)
      obtain ⟨b, off, rfl, _, d0, _, _⟩ := EntsIn.at HV.out (k := 0) (e := x) rfl
      rw [Nat.zero_mul, Nat.add_zero] at d0
      obtain ⟨n, hn, k1⟩ : ∃ n : Nat, n = (x :: r).length ∧ 0 < (n : Int) := ⟨_, rfl, by simp only [List.length_cons]; omega⟩
      rw [← hn] at c2 hW ⊢
      clear hF hl hn HV
      subst hW
      go_enter Tryz.func30, Tryz.ntmps30
      go_wp2
      go_ret
      exact ⟨by rw [HR.out]; rfl, HWB.out⟩

set_option maxRecDepth 100000 in
set_option maxHeartbeats 8000000 in
theorem mrTo_any (w : World) (A : Nat → Prop) (N F : Int) (vl : Value) (ab : Option Addr) (nb cb : Nat) (L : List Ent) (key : List UInt8) (hv : EntsIn w A vl L) (hl : L.length ≤ 1024) (hF : 0 ≤ F ∧ F ≤ 1024) :
    Calls Tryz.prog 31 #[.agg #[.int .i64 N, .int .i64 F, vl, .slice ab nb cb], .string ⟨key.toArray⟩] w fun e w' => e = .returned (.bool (reachT N F L key)) ∧ Below w.heap.size w w' := by
  obtain ⟨al, cl, rfl⟩ := hv.form
  obtain ⟨W, hW, hwb, hws, ⟨c0, c1, c2, c3⟩, _⟩ := room4 w 25 (.int .i64 N) (.int .i64 F) (.slice al L.length cl) (.slice ab nb cb)
  have HWB := hideIt hwb
  have HV := hideIt (RowIn.kept (RowIn.mono (A' := fun k => A k) hv (fun _ h _ => h)) (Kept.of_all hwb))
  have HL := hideIt (fun w => mrLast_any w N F al cl ab nb cb L hl hF)
  clear hv hwb hws
  obtain ⟨bl, hbl⟩ : ∃ bl, bl = reachE N F L := ⟨_, rfl⟩
  rw [← hbl] at HL
  cases bl with
  | true =>
    have HR : Hid (reachT N F L key = true) := hideIt (by unfold reachT; rw [← hbl]; rfl)
    clear hbl
    go_enter Tryz.func31, Tryz.ntmps31
    go_wp2_with fail
    rw [← hW]
    clear hW
    refine (HL.out W).mono ?_
    rintro e w1 ⟨rfl, hb1⟩
    have HB1 := hideIt (HWB.out.trans (hb1.mono HWB.out.size))
    clear hb1
    go_wp2
    go_ret
    exact ⟨by rw [HR.out]; rfl, HB1.out⟩
  | false =>
    cases L with
    | nil =>
      have HR : Hid (reachT N F [] key = false) := hideIt (by unfold reachT; rw [← hbl]; rfl)
      clear hbl
      go_enter Tryz.func31, Tryz.ntmps31
      go_wp2_with fail
      simp only [List.length_nil] at hW c2
      rw [← hW]
      clear hW
      refine (HL.out W).mono ?_
      rintro e w1 ⟨rfl, hb1⟩
      have HB1 := hideIt (HWB.out.trans (hb1.mono HWB.out.size))
      have d2 := (hb1.cell (lt_of_cell c2)).trans c2
      clear hb1
      go_wp2
      go_ret
      exact ⟨by rw [HR.out]; rfl, HB1.out⟩
    | cons x r =>
      obtain ⟨y, hy⟩ : ∃ y, (x :: r)[(x :: r).length - 1]? = some y := ⟨(x :: r)[(x :: r).length - 1], by simp⟩
      have HR : Hid (reachT N F (x :: r) key = !(Op.bytesLess y.1 key)) := hideIt (by unfold reachT; rw [← hbl, hy]; rfl)
      obtain ⟨b, off, rfl, _, d0, _, _⟩ := EntsIn.at HV.out hy
      obtain ⟨n, hn, k1, k2⟩ : ∃ n : Nat, n = (x :: r).length ∧ 0 < (n : Int) ∧ n ≤ 1024 := ⟨_, rfl, by simp only [List.length_cons]; omega, hl⟩
      rw [← hn] at c2 hW HL d0 ⊢
      obtain ⟨m, hm⟩ : ∃ m : Nat, n = m + 1 := ⟨n - 1, by omega⟩
      subst hm
      rw [Nat.add_sub_cancel] at d0
      have k3 : (m : Int) < (m : Int) + 1 := by omega
      clear hbl hl hn HV hy
      go_enter Tryz.func31, Tryz.ntmps31
      go_wp2_with fail
      rw [← hW]
      clear hW
      refine (HL.out W).mono ?_
      rintro e w1 ⟨rfl, hb1⟩
      have HB1 := hideIt (HWB.out.trans (hb1.mono HWB.out.size))
      have q2 := (hb1.cell (lt_of_cell c2)).trans c2
      have q0 := (hb1.cell (lt_of_cell d0)).trans d0
      clear hb1 c0 c1 c2 c3 d0
      go_wp2
      go_ret
      exact ⟨by rw [HR.out]; rfl, HB1.out⟩
end Go.Proofs.YtkfoolenjegccaaGreatDoor
