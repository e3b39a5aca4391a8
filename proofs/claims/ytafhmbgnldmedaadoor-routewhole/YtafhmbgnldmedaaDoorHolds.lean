/-
  What is proved here: fault's holds, over this program: it answers what the function that it is handed answers, where that one returns.
-/
import Derived.Test.YtafhmbgnldmedaaDoorAs4
import Derived.Recover
namespace Go.Proofs.YtafhmbgnldmedaaDoor
open Go.RowKit Go.Extern.Stop Go.Stop Go.Extern

theorem catch_idle (p : Addr) (w : World) :
    CallsD Tryd.prog 57 #[.pointer (some p)] .returning w fun e u' w' => e = .returned (.tuple #[]) ∧ u' = .returning ∧ w' = w := by
  refine callsD_of_wpS Tryd.func57 rfl fun c₀ cs hu => ?_
  apply wpS_seq
  apply wpS_region
  simp [wpOpsS, go_sem, recoverD, hu, Tryd.ntmps57, Exit.thenS]
  refine wpS_cond (t := false) (by simp [Act.eval, Array.replicate]) ?_
  simp only [Bool.false_eq_true, if_false]
  refine wpS_of_wp (wp_skip ?_)
  cases c₀
  simp_all [bodyPostS, results, Tryd.results57]

set_option maxHeartbeats 4000000 in
/-- holds, handed a closure g over cap that returns b. -/
theorem holds_any (g : Nat) (cap : Array Value) (b : Bool) (R : World → Prop) (w : World)
    (hg : ∀ W : World, (callFunc g cap).run Tryd.prog W = .ok (.enter g cap) W)
    (hcall : Calls Tryd.prog g cap (w.alloc (.cells #[.bool false] 4)) fun e w' => e = .returned (.bool b) ∧ R w')
    (hR : ∀ w', R w' → w'.cell? ⟨w.heap.size, 0, none⟩ = some (.bool false) ∧ w'.frozen? ⟨w.heap.size, 0, none⟩ = false) :
    Calls Tryd.prog 43 #[.func (.func g) #[] cap] w fun e w' => e = .returned (.bool b) ∧ ∃ w'', R w'' ∧ w' = w''.setCell ⟨w.heap.size, 0, none⟩ (.bool b) := by
  have hmf : ∀ (fn : Fn) (first cap : Array Value) (w : World), (Instr.makeFunc fn first cap).run Tryd.prog w = .ok (.func fn first cap) w := fun _ _ _ _ => rfl
  have HC := hideIt hcall
  have HR := hideIt hR
  clear hcall hR
  go_enter_defers Tryd.func43, Tryd.ntmps43
  go_wp2_with fail
  refine HC.out.mono ?_
  rintro e w' ⟨rfl, hr⟩
  obtain ⟨hc, hf⟩ := HR.out w' hr
  go_wp2
  refine leaves_cons (f := 57) (args := #[.pointer (some ⟨w.heap.size, 0, none⟩)]) (by simp) (by simp [go_sem]) ?_
  refine (catch_idle ⟨w.heap.size, 0, none⟩ _).mono ?_
  rintro e u' w'' ⟨rfl, rfl, rfl⟩
  have hcell : (w'.setCell ⟨w.heap.size, 0, none⟩ (.bool b)).cell? ⟨w.heap.size, 0, none⟩ = some (.bool b) := World.cell?_setCell_same _ _ _ hc
  simp [Leaves, settle, results, Tryd.results43, go_sem, hcell]
  exact ⟨w', hr, rfl⟩
end Go.Proofs.YtafhmbgnldmedaaDoor
