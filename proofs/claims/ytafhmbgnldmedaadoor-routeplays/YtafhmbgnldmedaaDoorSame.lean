/-
  What is proved here: the document's own Same and Text (package cohortref01), over this program, at slices of steps.
-/
import Derived.Test.YtafhmbgnldmedaaDoorBasic
import Derived.Deep.RegionWith
import Derived.BigQuiet
import Derived.Deep.QuietTactic
namespace Go.Proofs.YtafhmbgnldmedaaDoor
open Go.RowKit Go.Extern.Stop Go.Stop Go.Extern

/-- two steps are alike just if their parts are -/
theorem eql_step (s s2 : ByteArray) (k k2 : Int) (w : World) : (Op.equalIn 10000 66 (.agg #[.string s, .int .i64 k]) (.agg #[.string s2, .int .i64 k2])).run Tryd.prog w = .ok (s.toList == s2.toList && k == k2) w := by
  have u3 := Tryd.underlying3
  have a3 := Tryd.isAgg3
  have z3 := Tryd.sizeOf3
  have u9 := Tryd.underlying9
  have a9 := Tryd.isAgg9
  have z9 := Tryd.sizeOf9
  have hS : Tryd.prog.underlying 66 = some (.struct (Tryd.prog.fieldsOf 66)) := by kernel_rfl
  have hp : Tryd.prog.stoodInHeld 66 = false := by kernel_rfl
  rw [show (10000 : Nat) = 9999 + 1 from rfl, run_equalIn_agg w 9999 66 _ _ hS hp]
  simp only [Program.fieldsOf, Tryd.underlying66]
  go_simp
  by_cases h1 : s.toList = s2.toList <;> by_cases h2 : k = k2 <;> simp [h1, h2]
theorem neq_step_same (s : ByteArray) (k : Int) (w : World) : (binOp .neq 66 (.agg #[.string s, .int .i64 k]) (.agg #[.string s, .int .i64 k])).run Tryd.prog w = .ok (.bool false) w := by
  rw [run_neq_struct, eql_step]; simp [Result.andThen]
theorem eql_step_same (s : ByteArray) (k : Int) (w : World) : (binOp .eql 66 (.agg #[.string s, .int .i64 k]) (.agg #[.string s, .int .i64 k])).run Tryd.prog w = .ok (.bool true) w := by
  rw [run_eql_struct, eql_step]; simp [Result.andThen]

set_option maxHeartbeats 8000000 in
theorem Same_true (B1 B2 : Nat) (x y : Value) (l : List (ByteArray × Int)) (w : World) (hx : Steps w B1 x l) (hy : Steps w B2 y l) (hlen : l.length ≤ 1000000) :
    Calls Tryd.prog 26 #[x, y] w fun e w' => e = .returned (.bool true) ∧ Below w.heap.size w w' := by
  obtain ⟨a1, cap1, rfl, s1⟩ := hx
  obtain ⟨a2, cap2, rfl, s2⟩ := hy
  have H1 := hideIt s1
  have H2 := hideIt s2
  clear s1 s2
  go_enter Tryd.func26, Tryd.ntmps26
  go_wp2
  go_loopw [5] (fun i wr => ∃ k : Nat, k ≤ l.length ∧ i = .int .i64 k ∧ Below w.heap.size w wr) (fun i _ => l.length - (intOf i).toNat)
  case atStart => exact ⟨0, Nat.zero_le _, rfl, Below.refl _ _⟩
  case round =>
    obtain ⟨k, hk, rfl, hnx⟩ := hrel
    by_cases hlt : k < l.length
    · obtain ⟨z, hz⟩ : ∃ z, l[k]? = some z := ⟨l[k], by simp [hlt]⟩
      obtain ⟨b1, o1, rfl, h1, c0, c1⟩ := H1.out k z hz
      obtain ⟨b2, o2, rfl, h2, d0, d1⟩ := H2.out k z hz
      have e0 : wr.cell? ⟨b1, o1 + k * 2, none⟩ = some (.string z.1) := (hnx.cell (lt_of_cell c0)).trans c0
      have e1 : wr.cell? ⟨b1, o1 + k * 2 + 1, none⟩ = some (.int .i64 z.2) := (hnx.cell (lt_of_cell c1)).trans c1
      have e2 : wr.cell? ⟨b2, o2 + k * 2, none⟩ = some (.string z.1) := (hnx.cell (lt_of_cell d0)).trans d0
      have e3 : wr.cell? ⟨b2, o2 + k * 2 + 1, none⟩ = some (.int .i64 z.2) := (hnx.cell (lt_of_cell d1)).trans d1
      have hneq := fun w => neq_step_same z.1 z.2 w
      have HX := hideIt hnx
      clear c0 c1 d0 d1 h1 h2 hz hnx
      go_wp2
      go_region
      all_goals go_wp2
      all_goals exact ⟨⟨k + 1, by omega, by go_num, HX.out.drew⟩, by simp [intOf]; omega⟩
    · go_wp2
      go_ret
      exact ⟨rfl, hnx⟩
/-- one step, just made -/
theorem lit_steps (w : World) (s : ByteArray) (k : Int) : Steps (w.alloc (.cells #[.string s, .int .i64 k] 66)) (w.heap.size + 1) (.slice (some ⟨w.heap.size, 0, none⟩) 1 1) [(s, k)] := by
  refine ⟨_, 1, rfl, fun j x hx => ?_⟩
  match j, hx with
  | 0, hx =>
    simp at hx; subst hx
    exact ⟨w.heap.size, 0, rfl, Nat.lt_succ_self _, by rw [World.cell?_alloc_at _ _ _ _ rfl]; rfl, by rw [World.cell?_alloc_at _ _ _ _ rfl]; rfl⟩
  | j + 1, hx => simp at hx
end Go.Proofs.YtafhmbgnldmedaaDoor
