/-
  What is proved here: the document's own Same and Text (package cohortref01), over this program, at slices of steps.
-/
import Derived.Test.YtpgahjnjkihmhaaGreatDoorBasic
import Derived.Deep.RegionWith
import Derived.BigQuiet
import Derived.Deep.QuietTactic
namespace Go.Proofs.YtpgahjnjkihmhaaGreatDoor
open Go.RowKit Go.Extern.Stop Go.Stop Go.Extern

/-- two steps are alike just if their parts are -/
theorem eql_step (s s2 : ByteArray) (k k2 : Int) (w : World) : (Op.equalIn 10000 84 (.agg #[.string s, .int .i64 k]) (.agg #[.string s2, .int .i64 k2])).run Tryz.prog w = .ok (s.toList == s2.toList && k == k2) w := by
  have u3 := Tryz.underlying3
  have a3 := Tryz.isAgg3
  have z3 := Tryz.sizeOf3
  have u9 := Tryz.underlying9
  have a9 := Tryz.isAgg9
  have z9 := Tryz.sizeOf9
  have hS : Tryz.prog.underlying 84 = some (.struct (Tryz.prog.fieldsOf 84)) := by kernel_rfl
  have hp : Tryz.prog.stoodInHeld 84 = false := by kernel_rfl
  rw [show (10000 : Nat) = 9999 + 1 from rfl, run_equalIn_agg w 9999 84 _ _ hS hp]
  simp only [Program.fieldsOf, Tryz.underlying84]
  go_simp
  by_cases h1 : s.toList = s2.toList <;> by_cases h2 : k = k2 <;> simp [h1, h2]
theorem neq_step_same (s : ByteArray) (k : Int) (w : World) : (binOp .neq 84 (.agg #[.string s, .int .i64 k]) (.agg #[.string s, .int .i64 k])).run Tryz.prog w = .ok (.bool false) w := by
  rw [run_neq_struct, eql_step]; simp [Result.andThen]
theorem eql_step_same (s : ByteArray) (k : Int) (w : World) : (binOp .eql 84 (.agg #[.string s, .int .i64 k]) (.agg #[.string s, .int .i64 k])).run Tryz.prog w = .ok (.bool true) w := by
  rw [run_eql_struct, eql_step]; simp [Result.andThen]

/-- one step, just made -/
theorem lit_steps (w : World) (s : ByteArray) (k : Int) : Steps (w.alloc (.cells #[.string s, .int .i64 k] 84)) (w.heap.size + 1) (.slice (some ⟨w.heap.size, 0, none⟩) 1 1) [(s, k)] := by
  refine ⟨_, 1, rfl, fun j x hx => ?_⟩
  match j, hx with
  | 0, hx =>
    simp at hx; subst hx
    exact ⟨w.heap.size, 0, rfl, Nat.lt_succ_self _, by rw [World.cell?_alloc_at _ _ _ _ rfl]; rfl, by rw [World.cell?_alloc_at _ _ _ _ rfl]; rfl⟩
  | j + 1, hx => simp at hx
end Go.Proofs.YtpgahjnjkihmhaaGreatDoor
