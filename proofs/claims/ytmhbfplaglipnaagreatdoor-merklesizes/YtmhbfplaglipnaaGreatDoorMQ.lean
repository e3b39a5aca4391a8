/-
  What is proved here: merkle's manyBeside; over this program.
-/
import Derived.Test.YtmhbfplaglipnaaGreatDoorMP
import Derived.Test.YtmhbfplaglipnaaGreatDoorME
import Derived.Deep.RegionHeld3
namespace Go.Proofs.YtmhbfplaglipnaaGreatDoor
open Go.RowKit Go.Extern.Stop Go.Stop Go.Extern

theorem enterMbA (args : Array Value) (W : World) : (callFunc 75 args).run Tryz.prog W = .ok (.enter 75 args) W := by simp [go_sem]
theorem enterMbB (args : Array Value) (W : World) : (callFunc 76 args).run Tryz.prog W = .ok (.enter 76 args) W := by simp [go_sem]
theorem enterMbC (args : Array Value) (W : World) : (callFunc 77 args).run Tryz.prog W = .ok (.enter 77 args) W := by simp [go_sem]
theorem mmbA_any (w : World) (u : Value) : Calls Tryz.prog 75 #[u] w fun e w' => e = .returned (.tuple #[.int .i64 0, .nilIface]) ∧ w' = w := by
  go_enter Tryz.func75, Tryz.ntmps75
  go_wp2
  go_ret2
  exact ⟨rfl, rfl⟩
theorem mmbB_any (w : World) (x y : Int) : Calls Tryz.prog 76 #[.agg #[.int .i64 x, .int .i64 y]] w fun e w' => e = .returned (.tuple #[.int .i64 1, .nilIface]) ∧ Below w.heap.size w w' := by
  go_enter Tryz.func76, Tryz.ntmps76
  go_wp2
  go_ret2
  exact ⟨rfl, (Below.refl _ _).alloc (Nat.le_refl _) _⟩
theorem mmbC_any (w : World) (x y : Nat) (hx : x ≤ 100000) (hy : y ≤ 100000) : Calls Tryz.prog 77 #[.int .i64 x, .int .i64 y] w fun e w' => e = .returned (.tuple #[.int .i64 ((x + y : Nat) : Int), .nilIface]) ∧ w' = w := by
  go_enter Tryz.func77, Tryz.ntmps77
  go_wp2
  go_ret2
  exact ⟨rfl, rfl⟩

/-- what manyBeside's functions say of a part -/
def CntP (F m lo n : Nat) (w : World) (_ : Unit) (x : Value) (w' : World) (_ : Unit) : Prop := x = .int .i64 ((cntN F m lo n : Nat) : Int) ∧ cntN F m lo n ≤ max 1 n ∧ Below w.heap.size w w'
theorem cnt_spec (F m N : Nat) (hF : F + m ≤ 1024) (hN : N ≤ 1024) : DownSpec (fun (_ : Unit) _ => False) (fun _ _ => True) (fun _ _ _ => True) (CntP F m) 75 76 77 #[] #[] #[] F m 0 N where
  hF := hF
  hN := hN
  hI _ _ _ _ _ := trivial
  hO _ _ _ _ h := h.elim
  hP lo n w t w1 x w' t' hb h := ⟨h.1, h.2.1, hb.trans (h.2.2.mono hb.size)⟩
  hT lo n w t x w' t' h := ⟨trivial, Turn.of_below h.2.2, fun _ h => h.elim⟩
  el := enterMbA
  ew := enterMbB
  ej := enterMbC
  hl w t lo _ _ _ hN h1 h2 := by
    refine (mmbA_any w _).mono ?_
    rintro e w' ⟨rfl, rfl⟩
    have : cntN F m lo 1 = 0 := cntN_one (by unfold Out; omega)
    exact ⟨_, (), rfl, by rw [this]; rfl, by rw [this]; omega, Below.refl _ _⟩
  hw w t lo n _ _ _ hN ho hn := by
    refine (mmbB_any w _ _).mono ?_
    rintro e w' ⟨rfl, hb⟩
    have : cntN F m lo n = 1 := cntN_out ho
    exact ⟨_, (), rfl, by rw [this]; rfl, by rw [this]; omega, hb⟩
  hj w0 t0 a w1 t1 b w2 t2 lo n _ _ hN h2 hno _ ha hb := by
    obtain ⟨rfl, a2, a3⟩ := ha
    obtain ⟨rfl, b2, b3⟩ := hb
    have hp1 := pw_lt h2
    have hp2 := pw_pos n
    refine (mmbC_any w2 _ _ (by omega) (by omega)).mono ?_
    rintro e w' ⟨rfl, rfl⟩
    have := cntN_step (F := F) (m := m) (lo := lo) (n := n) hno h2
    exact ⟨_, (), rfl, by rw [this], by omega, a3.trans (b3.mono a3.size)⟩
  hC _ _ _ _ _ _ := trivial
  hC2 _ _ _ _ _ _ _ _ _ _ _ := trivial

set_option maxRecDepth 100000 in
set_option maxHeartbeats 8000000 in
theorem mmanyB_any (w : World) (N F m : Nat) (al : Option Addr) (cl : Nat) (ab : Option Addr) (nb cb : Nat) (hF : F + m ≤ N) (hN : N ≤ 1024) :
    Calls Tryz.prog 50 #[.agg #[.int .i64 N, .int .i64 F, .slice al m cl, .slice ab nb cb]] w fun e w' => e = .returned (.int .i64 ((cntN F m 0 N : Nat) : Int)) ∧ cntN F m 0 N ≤ max 1 N ∧ Below w.heap.size w w' := by
  obtain ⟨W, hW, hwb⟩ : ∃ W, W = w.alloc (.cells #[.int .i64 N, .int .i64 F, .slice al m cl, .slice ab nb cb] 25) ∧ Below w.heap.size w W := ⟨_, rfl, (Below.refl _ _).alloc (Nat.le_refl _) _⟩
  have HWB := hideIt hwb
  have HC : Hid (Calls Tryz.prog 43 #[.agg #[.int .i64 0, .int .i64 N], .agg #[.int .i64 F, .int .i64 m], .func (.func 75) #[] #[], .func (.func 76) #[] #[], .func (.func 77) #[] #[]] W fun e w' => ∃ x t', e = .returned (.tuple #[x, .nilIface]) ∧ CntP F m 0 N W () x w' t') := hideIt (downI_all (cnt_spec F m N (by omega) hN) N 0 W () (Nat.le_refl _) (by omega) (Or.inr rfl) trivial trivial)
  clear hwb
  go_enter Tryz.func50, Tryz.ntmps50
  go_wp2_with fail
  rw [← hW]
  clear hW
  refine HC.out.mono ?_
  rintro e w1 ⟨x, t', rfl, rfl, hp, hb⟩
  have HP := hideIt (And.intro hp hb)
  clear hp hb
  go_wp2
  go_ret
  exact ⟨rfl, HP.out.1, HWB.out.trans (HP.out.2.mono HWB.out.size)⟩
end Go.Proofs.YtmhbfplaglipnaaGreatDoor
