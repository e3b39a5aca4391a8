/-
  What is proved here: the statements' own told (cohortlaw02), over this program, at no error and at an error of one step.
-/
import Derived.Test.YtaaaibnalhmmgaaDoorWZ
namespace Go.Proofs.YtaaaibnalhmmgaaDoor
open Go.RowKit Go.Extern.Stop Go.Stop Go.Extern

theorem told_none (s : ByteArray) (k : Int) (w : World) : Calls Tryd.prog 21 #[.nilIface, .int .i64 0, .agg #[.string s, .int .i64 k]] w fun e w' => e = .returned (.bool true) ∧ Below w.heap.size w w' := by
  go_enter Tryd.func21, Tryd.ntmps21
  go_wp2
  go_ret
  exact ⟨rfl, (Below.refl _ _).alloc (Nat.le_refl _) _⟩

theorem Steps.next {w w' : World} {sl : Value} {l : List (ByteArray × Int)} (h : Steps w w.heap.size sl l) (hb : Below w.heap.size w w') : Steps w' w'.heap.size sl l := (h.kept hb).up hb.size

set_option maxRecDepth 100000 in
set_option maxHeartbeats 8000000 in
theorem told_one (v : Value) (s : ByteArray) (k : Int) (w0 w : World) (h : At w0 2 v [(s, k)] w) : Calls Tryd.prog 21 #[v, .int .i64 2, .agg #[.string s, .int .i64 k]] w fun e w' => e = .returned (.bool true) ∧ Below w.heap.size w w' := by
  have hal : Below w.heap.size w (w.alloc (.cells #[.string s, .int .i64 k] 49)) := (Below.refl _ _).alloc (Nat.le_refl _) _
  have HA1 := hideIt ((h.next hal).next (below_drew _))
  have HB1 : Hid (Below w.heap.size w (w.alloc (.cells #[.string s, .int .i64 k] 49)).drew) := hal.drew
  obtain ⟨ty, y, rfl⟩ := h.ch.iface
  clear h hal
  go_enter Tryd.func21, Tryd.ntmps21
  go_wp2
  go_region_with (first
    | (go_at_call 22; refine HA1.out.code.mono ?_; rintro e w6 ⟨rfl, H6, HB6⟩; have b0 : w6.cell? ⟨w.heap.size, 0, none⟩ = some (.string s) := (HB6.out.cell (p := ⟨w.heap.size, 0, none⟩) (by show w.heap.size < (World.alloc _ _).heap.size; simp)).trans (by show World.cell? (World.alloc _ _) _ = _; rw [World.cell?_alloc_at _ _ _ _ rfl]; rfl); have b1 : w6.cell? ⟨w.heap.size, 1, none⟩ = some (.int .i64 k) := (HB6.out.cell (p := ⟨w.heap.size, 1, none⟩) (by show w.heap.size < (World.alloc _ _).heap.size; simp)).trans (by show World.cell? (World.alloc _ _) _ = _; rw [World.cell?_alloc_at _ _ _ _ rfl]; rfl); have hs6 : w.heap.size < w6.heap.size := lt_of_cell (a := ⟨w.heap.size, 0, none⟩) b0)
    | (go_at_call 31; refine (At.trail (n := 2) (l := [(s, k)]) (by first | exact H6.out | exact H6.out.next ((Below.refl _ _).alloc (Nat.le_refl _) _)) (by simp)).mono ?_; rintro e w7 ⟨a7, cap7, rfl, HS7, H7, HB7⟩; have d0 : w7.cell? ⟨w.heap.size, 0, none⟩ = some (.string s) := (HB7.out.cell (p := ⟨w.heap.size, 0, none⟩) (by first | exact hs6 | (show w.heap.size < (World.alloc _ _).heap.size; simp; omega))).trans (by first | exact b0 | (rw [World.cell?_alloc_lt _ _ _ hs6]; exact b0)); have d1 : w7.cell? ⟨w.heap.size, 1, none⟩ = some (.int .i64 k) := (HB7.out.cell (p := ⟨w.heap.size, 1, none⟩) (by first | exact hs6 | (show w.heap.size < (World.alloc _ _).heap.size; simp; omega))).trans (by first | exact b1 | (rw [World.cell?_alloc_lt _ _ _ hs6]; exact b1)); have HL7 : Hid (Below w6.heap.size w6 w7) := by first | exact HB7.out | exact ((Below.refl _ _).alloc (Nat.le_refl _) _).trans (HB7.out.mono (by simp)))
    | (go_at_call 46; refine (Same_true (w7.heap.size + 1) (w7.heap.size + 1) _ _ [(s, k)] _ (by first | exact HS7.out.up (Nat.le_succ _) | exact (HS7.out.kept ((Below.refl _ _).alloc (Nat.le_refl _) _)).up (Nat.le_succ _)) (by first | exact lit_steps w7 s k | exact ((lit_steps w6 s k).kept (HB7.out.mono (by simp))).up (by have := HL7.out.size; omega)) (by simp)).mono ?_; rintro e w8 ⟨rfl, b8⟩; have HL8 : Hid (Below w7.heap.size w7 w8) := by first | exact b8 | exact ((Below.refl _ _).alloc (Nat.le_refl _) _).trans (b8.mono (by simp))))
  all_goals
    go_wp2
    go_ret
    have h6 : Below w.heap.size w w6 := HB1.out.trans (HB6.out.mono HB1.out.size)
    have h7 := h6.trans (HL7.out.mono h6.size)
    exact ⟨rfl, h7.trans (HL8.out.mono h7.size)⟩
end Go.Proofs.YtaaaibnalhmmgaaDoor
