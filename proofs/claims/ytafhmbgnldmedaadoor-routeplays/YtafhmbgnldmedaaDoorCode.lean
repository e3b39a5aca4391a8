/-
  What is proved here: fault's Code and Is, over this program, at errors that package fault made. Condition: errors.errorType holds the handle of the type error.
-/
import Derived.Test.YtafhmbgnldmedaaDoorHolds
namespace Go.Proofs.YtafhmbgnldmedaaDoor
open Go.RowKit Go.Extern.Stop Go.Stop Go.Extern

/-- errors.errorType lies as package errors lays it. -/
def ET (w : World) : Prop := w.cell? ⟨0, 0, none⟩ = some (.iface 116 (.agg #[.pointer (some ⟨4, 28, none⟩)]))
theorem ET.kept {B : Nat} {w w' : World} (h : ET w) (hb : Below B w w') (hB : 0 < B) : ET w' := by
  unfold ET; rw [hb.cell hB]; exact h
theorem ET.lt {w : World} (h : ET w) : 0 < w.heap.size := lt_of_cell (a := ⟨0, 0, none⟩) h

theorem below_set {B : Nat} {w W : World} (h : Below B w W) (t : Addr) (v : Value) : Below B (w.setCell t v) (W.setCell t v) := by
  refine ⟨h.os, h.tape, h.output, by simpa [World.setCell] using h.size, fun k hk => ?_⟩
  simp only [World.setCell, Array.getElem?_modify]
  by_cases e : t.block = k
  · rw [if_pos e, if_pos e, h.block k hk]
  · rw [if_neg e, if_neg e, h.block k hk]

theorem size_set (w : World) (t : Addr) (v : Value) : (w.setCell t v).heap.size = w.heap.size := by simp [World.setCell]

set_option maxHeartbeats 4000000 in
theorem Code1_chain (B : Nat) (l : List (ByteArray × Int)) (v : Value) (n : Int) (p t : Addr) (old : Value) (w : World) (hc : Chain B w n v l) (hB : B ≤ t.block) (hp : w.cell? p = some v) (ht0 : w.cell? t = some old) (hf0 : w.frozen? t = false) (hg : ET w) :
    Calls Tryd.prog 44 #[.pointer (some p), .pointer (some t)] w fun e w' => e = .returned (.bool true) ∧ Below w.heap.size (w.setCell t (.int .i64 n)) w' := by
  have HA := hideIt (As_errno B l v n t old w hc hB ht0 hf0 hg)
  obtain ⟨ty, y, rfl⟩ := hc.iface
  clear hc hB ht0 hf0 hg
  go_enter Tryd.func44, Tryd.ntmps44
  go_wp2_with (go_at_call 45; refine HA.out.mono ?_; rintro e w' ⟨rfl, rfl⟩)
  go_ret
  refine ⟨rfl, below_set ?_ _ _⟩
  exact ((((Below.refl _ _).alloc (Nat.le_refl _) _).alloc (by simp) _).alloc (by simp; omega) _).alloc (by simp; omega) _

theorem hmf : ∀ (fn : Fn) (first cap : Array Value) (w : World), (Instr.makeFunc fn first cap).run Tryd.prog w = .ok (.func fn first cap) w := fun _ _ _ _ => rfl
theorem enterCode1 (cap : Array Value) (W : World) : (callFunc 44 cap).run Tryd.prog W = .ok (.enter 44 cap) W := by simp [go_sem]
theorem enterTold1 (cap : Array Value) (W : World) : (callFunc 56 cap).run Tryd.prog W = .ok (.enter 56 cap) W := by simp [go_sem]
theorem enterOut1 (cap : Array Value) (W : World) : (callFunc 66 cap).run Tryd.prog W = .ok (.enter 66 cap) W := by simp [go_sem]

/-- two boxes and a third, laid one behind the other: what each holds -/
theorem cell3_0 (w : World) (x y z : Value) (tx ty tz : TypeId) : (((w.alloc (.cells #[x] tx)).alloc (.cells #[y] ty)).alloc (.cells #[z] tz)).cell? ⟨w.heap.size, 0, none⟩ = some x := by
  rw [World.cell?_alloc_lt _ _ _ (by simp; omega), World.cell?_alloc_lt _ _ _ (by simp)]; simp
theorem cell3_1 (w : World) (x y z : Value) (tx ty tz : TypeId) : (((w.alloc (.cells #[x] tx)).alloc (.cells #[y] ty)).alloc (.cells #[z] tz)).cell? ⟨w.heap.size + 1, 0, none⟩ = some y := by
  rw [World.cell?_alloc_lt _ _ _ (by simp), World.cell?_alloc_at _ _ _ _ (by simp)]; rfl
theorem cell3_2 (w : World) (x y z : Value) (tx ty tz : TypeId) : (((w.alloc (.cells #[x] tx)).alloc (.cells #[y] ty)).alloc (.cells #[z] tz)).cell? ⟨w.heap.size + 1 + 1, 0, none⟩ = some z := by
  rw [World.cell?_alloc_at _ _ _ _ (by simp)]; rfl
theorem froz3_1 (w : World) (x y z : Value) (tx ty tz : TypeId) : (((w.alloc (.cells #[x] tx)).alloc (.cells #[y] ty)).alloc (.cells #[z] tz)).frozen? ⟨w.heap.size + 1, 0, none⟩ = false := by
  rw [World.frozen?_alloc_old _ _ _ (by simp)]; simp
theorem froz3_2 (w : World) (x y z : Value) (tx ty tz : TypeId) : (((w.alloc (.cells #[x] tx)).alloc (.cells #[y] ty)).alloc (.cells #[z] tz)).frozen? ⟨w.heap.size + 1 + 1, 0, none⟩ = false := World.frozen?_alloc_at _ _ _ _ (by simp)
theorem below3 (w : World) (x y z : Value) (tx ty tz : TypeId) : Below w.heap.size w (((w.alloc (.cells #[x] tx)).alloc (.cells #[y] ty)).alloc (.cells #[z] tz)) :=
  (((Below.refl _ _).alloc (Nat.le_refl _) _).alloc (by simp) _).alloc (by simp; omega) _
theorem below2 (w : World) (x y : Value) (tx ty : TypeId) : Below w.heap.size w ((w.alloc (.cells #[x] tx)).alloc (.cells #[y] ty)) :=
  ((Below.refl _ _).alloc (Nat.le_refl _) _).alloc (by simp) _

/-- behind a closure that writes the second box: what holds leaves -/
theorem closed3 {w W : World} {x y z u : Value} {tx ty tz : TypeId} (hb : Below (((w.alloc (.cells #[x] tx)).alloc (.cells #[y] ty)).alloc (.cells #[z] tz)).heap.size ((((w.alloc (.cells #[x] tx)).alloc (.cells #[y] ty)).alloc (.cells #[z] tz)).setCell ⟨w.heap.size + 1, 0, none⟩ u) W) :
    W.cell? ⟨w.heap.size + 1 + 1, 0, none⟩ = some z ∧ W.frozen? ⟨w.heap.size + 1 + 1, 0, none⟩ = false ∧ W.cell? ⟨w.heap.size + 1, 0, none⟩ = some u ∧ W.frozen? ⟨w.heap.size + 1, 0, none⟩ = false ∧ Below w.heap.size w W := by
  have hs : (((w.alloc (.cells #[x] tx)).alloc (.cells #[y] ty)).alloc (.cells #[z] tz)).heap.size = w.heap.size + 1 + 1 + 1 := by simp
  refine ⟨?_, ?_, ?_, ?_, ?_⟩
  · rw [hb.cell (by rw [hs]; show w.heap.size + 1 + 1 < _; omega), World.cell?_setCell_other _ _ _ _ (by simp), cell3_2]
  · rw [hb.frozen (by rw [hs]; show w.heap.size + 1 + 1 < _; omega), World.frozen?_setCell, froz3_2]
  · rw [hb.cell (by rw [hs]; show w.heap.size + 1 < _; omega)]; exact World.cell?_setCell_same _ _ _ (cell3_1 ..)
  · rw [hb.frozen (by rw [hs]; show w.heap.size + 1 < _; omega), World.frozen?_setCell, froz3_1]
  · exact ((below3 ..).setCell (by show w.heap.size ≤ w.heap.size + 1; omega) _).trans (hb.mono (by rw [hs]; omega))

set_option maxHeartbeats 4000000 in
/-- Code of an error that package fault made is its number. -/
theorem Code_chain (B : Nat) (l : List (ByteArray × Int)) (v : Value) (n : Int) (w : World) (hc : Chain B w n v l) (hB : B ≤ w.heap.size) (hg : ET w) :
    Calls Tryd.prog 22 #[v] w fun e w' => e = .returned (.int .i64 n) ∧ Below w.heap.size w w' := by
  have h1 := Code1_chain B l v n ⟨w.heap.size, 0, none⟩ ⟨w.heap.size + 1, 0, none⟩ (.int .i64 0) (((w.alloc (.cells #[v] 28)).alloc (.cells #[.int .i64 0] 32)).alloc (.cells #[.bool false] 4))
    (hc.kept ((below3 ..).mono hB)) (by show B ≤ w.heap.size + 1; omega) (cell3_0 ..) (cell3_1 ..) (froz3_1 ..) (hg.kept (below3 ..) hg.lt)
  have h2 : Calls Tryd.prog 43 #[.func (.func 44) #[] #[.pointer (some ⟨w.heap.size, 0, none⟩), .pointer (some ⟨w.heap.size + 1, 0, none⟩)]] ((w.alloc (.cells #[v] 28)).alloc (.cells #[.int .i64 0] 32))
      fun e w' => e = .returned (.bool true) ∧ w'.cell? ⟨w.heap.size + 1, 0, none⟩ = some (.int .i64 n) ∧ Below w.heap.size w w' := by
    have hsz : ((w.alloc (.cells #[v] 28)).alloc (.cells #[.int .i64 0] 32)).heap.size = w.heap.size + 1 + 1 := by simp
    refine (holds_any 44 _ true _ _ (enterCode1 _) h1 (fun w' hb => ?_)).mono ?_
    · rw [hsz]; exact ⟨(closed3 hb).1, (closed3 hb).2.1⟩
    · rintro e w' ⟨he, w2, hb, rfl⟩
      rw [hsz]
      exact ⟨he, by rw [World.cell?_setCell_other _ _ _ _ (by simp)]; exact (closed3 hb).2.2.1, (closed3 hb).2.2.2.2.setCell (by show w.heap.size ≤ w.heap.size + 1 + 1; omega) _⟩
  have HH := hideIt h2
  have hm := hmf
  obtain ⟨ty, y, rfl⟩ := hc.iface
  clear h1 h2 hc hg
  go_enter Tryd.func22, Tryd.ntmps22
  go_wp2_with (go_at_call 43; refine HH.out.mono ?_; rintro e w' ⟨rfl, hcell, hb⟩)
  go_ret
  exact ⟨rfl, hb⟩

theorem Code_nil (w : World) : Calls Tryd.prog 22 #[.nilIface] w fun e w' => e = .returned (.int .i64 0) ∧ Below w.heap.size w w' := by
  go_enter Tryd.func22, Tryd.ntmps22
  go_wp2
  go_ret
  exact ⟨rfl, (Below.refl _ _).alloc (Nat.le_refl _) _⟩
end Go.Proofs.YtafhmbgnldmedaaDoor
