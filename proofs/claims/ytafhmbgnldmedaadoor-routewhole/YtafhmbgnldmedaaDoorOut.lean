/-
  What is proved here: fault's Is and outermost, over this program, at errors that package fault made. Condition: errors.errorType holds the handle of the type error.
-/
import Derived.Test.YtafhmbgnldmedaaDoorCode
namespace Go.Proofs.YtafhmbgnldmedaaDoor
open Go.RowKit Go.Extern.Stop Go.Stop Go.Extern

/-! ### outermost -/
theorem isCompW : (Tryd.prog.info? 92).map (·.comparable) = some true := by kernel_rfl
theorem isSizeW : (Tryd.prog.info? 96).map (·.size) = some 3 := by kernel_rfl
theorem eql_wrapped (a : Addr) (w : World) : (binOp .eql 28 (.iface 92 (.pointer (some a))) (.iface 92 (.pointer (some a)))).run Tryd.prog w = .ok (.bool true) w := by
  obtain ⟨i, hi, hcmp⟩ := Option.map_eq_some_iff.1 isCompW
  obtain ⟨j, hj, hjs⟩ := Option.map_eq_some_iff.1 isSizeW
  exact run_eql_iface_ptr_same (P := Tryd.prog) w a Tryd.underlying28 Tryd.underlying92 hi hcmp hj

set_option maxHeartbeats 4000000 in
theorem Out1_wrapped (p q t : Addr) (old : Value) (w : World) (hq : w.cell? q = some (.iface 92 (.pointer (some p)))) (hne : q.block ≠ t.block) (ht0 : w.cell? t = some old) (hf0 : w.frozen? t = false) (hg : ET w) :
    Calls Tryd.prog 66 #[.pointer (some q), .pointer (some t)] w fun e w' => e = .returned (.bool true) ∧ Below w.heap.size (w.setCell t (.pointer (some p))) w' := by
  have h1 : Calls Tryd.prog 45 #[.iface 92 (.pointer (some p)), .iface 112 (.pointer (some t))] w fun ev w' => ev = .returned (.bool true) ∧ w'.cell? t = some (.pointer (some p)) ∧ w'.cell? q = some (.iface 92 (.pointer (some p))) ∧ Below w.heap.size (w.setCell t (.pointer (some p))) w' := by
    refine (As_wrapped p t old w ht0 hf0 hg).mono ?_
    rintro e w' ⟨he, rfl⟩
    have hb : Below w.heap.size (w.setCell t (.pointer (some p))) ((((asWorld 112 t w).alloc (.cells #[.pointer (some ⟨4, 112, none⟩), .pointer (some ⟨w.heap.size, 0, none⟩), .int .u64 150] 101)).alloc (.cells #[.pointer (some p)] 92)).setCell t (.pointer (some p))) :=
      below_set (((((Below.refl _ _).alloc (Nat.le_refl _) _).alloc (by simp) _).alloc (by simp; omega) _).alloc (by simp; omega) _) _ _
    refine ⟨he, ?_, ?_, hb⟩
    · rw [hb.cell (lt_of_cell ht0)]; exact World.cell?_setCell_same _ _ _ ht0
    · rw [hb.cell (lt_of_cell hq), World.cell?_setCell_other _ _ _ _ (fun e => hne (by rw [e]))]; exact hq
  have HA := hideIt h1
  have he := eql_wrapped p
  clear h1 ht0 hf0 hg
  go_enter Tryd.func66, Tryd.ntmps66
  go_wp2_with (go_at_call 45; refine HA.out.mono ?_; rintro e w' ⟨rfl, hct, hcq, hb⟩)
  go_ret
  exact ⟨rfl, hb⟩

theorem Out1_errno (n : Int) (q t : Addr) (w : World) (hq : w.cell? q = some (.iface 32 (.int .i64 n))) (hg : ET w) :
    Calls Tryd.prog 66 #[.pointer (some q), .pointer (some t)] w fun e w' => e = .returned (.bool false) ∧ Below w.heap.size w w' := by
  have HA := hideIt (As_wrapped_not n t w hg)
  clear hg
  go_enter Tryd.func66, Tryd.ntmps66
  go_wp2_with (go_at_call 45; refine HA.out.mono ?_; rintro e w' ⟨rfl, rfl⟩)
  go_ret
  exact ⟨rfl, (((Below.refl _ _).alloc (Nat.le_refl _) _).alloc (by simp) _).alloc (by simp; omega) _⟩

theorem out1_nil (q t : Addr) (w : World) (hq : w.cell? q = some .nilIface) :
    Calls Tryd.prog 66 #[.pointer (some q), .pointer (some t)] w fun e w' => e = .returned (.bool false) ∧ Below w.heap.size w w' := by
  go_enter Tryd.func66, Tryd.ntmps66
  go_wp2_with (go_at_call 45; refine (as_nil _ _).mono ?_; rintro e w' ⟨rfl, rfl⟩)
  go_ret
  exact ⟨rfl, Below.refl _ _⟩

theorem outermost_wrapped (p : Addr) (w : World) (hg : ET w) :
    Calls Tryd.prog 53 #[.iface 92 (.pointer (some p))] w fun e w' => e = .returned (.tuple #[.pointer (some p), .bool true]) ∧ Below w.heap.size w w' := by
  have h1 := Out1_wrapped p ⟨w.heap.size, 0, none⟩ ⟨w.heap.size + 1, 0, none⟩ (.pointer none) (((w.alloc (.cells #[.iface 92 (.pointer (some p))] 28)).alloc (.cells #[.pointer none] 92)).alloc (.cells #[.bool false] 4))
    (cell3_0 ..) (by show w.heap.size ≠ w.heap.size + 1; omega) (cell3_1 ..) (froz3_1 ..) (hg.kept (below3 ..) hg.lt)
  have h2 : Calls Tryd.prog 43 #[.func (.func 66) #[] #[.pointer (some ⟨w.heap.size, 0, none⟩), .pointer (some ⟨w.heap.size + 1, 0, none⟩)]] ((w.alloc (.cells #[.iface 92 (.pointer (some p))] 28)).alloc (.cells #[.pointer none] 92))
      fun e w' => e = .returned (.bool true) ∧ w'.cell? ⟨w.heap.size + 1, 0, none⟩ = some (.pointer (some p)) ∧ Below w.heap.size w w' := by
    have hsz : ((w.alloc (.cells #[.iface 92 (.pointer (some p))] 28)).alloc (.cells #[.pointer none] 92)).heap.size = w.heap.size + 1 + 1 := by simp
    refine (holds_any 66 _ true _ _ (enterOut1 _) h1 (fun w' hb => ?_)).mono ?_
    · rw [hsz]; exact ⟨(closed3 hb).1, (closed3 hb).2.1⟩
    · rintro e w' ⟨he, w2, hb, rfl⟩
      rw [hsz]
      exact ⟨he, by rw [World.cell?_setCell_other _ _ _ _ (by simp)]; exact (closed3 hb).2.2.1, (closed3 hb).2.2.2.2.setCell (by show w.heap.size ≤ w.heap.size + 1 + 1; omega) _⟩
  have HH := hideIt h2
  have hm := hmf
  clear h1 h2 hg
  go_enter Tryd.func53, Tryd.ntmps53
  go_wp2_with (go_at_call 43; refine HH.out.mono ?_; rintro e w' ⟨rfl, hcell, hb⟩)
  go_ret2
  exact ⟨rfl, hb⟩

/-- outermost, where its closure finds none -/
theorem outermost_not (v : Value) (hv : v = .nilIface ∨ ∃ t x, v = .iface t x) (w : World)
    (h1 : Calls Tryd.prog 66 #[.pointer (some ⟨w.heap.size, 0, none⟩), .pointer (some ⟨w.heap.size + 1, 0, none⟩)] (((w.alloc (.cells #[v] 28)).alloc (.cells #[.pointer none] 92)).alloc (.cells #[.bool false] 4)) fun e w' => e = .returned (.bool false) ∧ Below (((w.alloc (.cells #[v] 28)).alloc (.cells #[.pointer none] 92)).alloc (.cells #[.bool false] 4)).heap.size (((w.alloc (.cells #[v] 28)).alloc (.cells #[.pointer none] 92)).alloc (.cells #[.bool false] 4)) w') :
    Calls Tryd.prog 53 #[v] w fun e w' => e = .returned (.tuple #[.pointer none, .bool false]) ∧ Below w.heap.size w w' := by
  have h2 : Calls Tryd.prog 43 #[.func (.func 66) #[] #[.pointer (some ⟨w.heap.size, 0, none⟩), .pointer (some ⟨w.heap.size + 1, 0, none⟩)]] ((w.alloc (.cells #[v] 28)).alloc (.cells #[.pointer none] 92))
      fun e w' => e = .returned (.bool false) ∧ Below w.heap.size w w' := by
    have hsz : ((w.alloc (.cells #[v] 28)).alloc (.cells #[.pointer none] 92)).heap.size = w.heap.size + 1 + 1 := by simp
    have hs3 : (((w.alloc (.cells #[v] 28)).alloc (.cells #[.pointer none] 92)).alloc (.cells #[.bool false] 4)).heap.size = w.heap.size + 1 + 1 + 1 := by simp
    refine (holds_any 66 _ false _ _ (enterOut1 _) h1 (fun w' hb => ?_)).mono ?_
    · rw [hsz]; exact ⟨by rw [hb.cell (by rw [hs3]; show w.heap.size + 1 + 1 < _; omega)]; exact cell3_2 .., by rw [hb.frozen (by rw [hs3]; show w.heap.size + 1 + 1 < _; omega)]; exact froz3_2 ..⟩
    · rintro e w' ⟨he, w2, hb, rfl⟩
      rw [hsz]
      exact ⟨he, ((below3 ..).trans (hb.mono (by rw [hs3]; omega))).setCell (by show w.heap.size ≤ w.heap.size + 1 + 1; omega) _⟩
  have HH := hideIt h2
  have hm := hmf
  clear h1 h2
  rcases hv with rfl | ⟨ty, y, rfl⟩
  all_goals
    go_enter Tryd.func53, Tryd.ntmps53
    go_wp2_with (go_at_call 43; refine HH.out.mono ?_; rintro e w' ⟨rfl, hb⟩)
    go_ret2
    exact ⟨rfl, hb⟩
theorem outermost_errno (n : Int) (w : World) (hg : ET w) :
    Calls Tryd.prog 53 #[.iface 32 (.int .i64 n)] w fun e w' => e = .returned (.tuple #[.pointer none, .bool false]) ∧ Below w.heap.size w w' :=
  outermost_not _ (Or.inr ⟨_, _, rfl⟩) w (Out1_errno n _ _ _ (cell3_0 ..) (hg.kept (below3 ..) hg.lt))
theorem outermost_nil (w : World) :
    Calls Tryd.prog 53 #[.nilIface] w fun e w' => e = .returned (.tuple #[.pointer none, .bool false]) ∧ Below w.heap.size w w' :=
  outermost_not _ (Or.inl rfl) w (out1_nil _ _ _ (cell3_0 ..))
end Go.Proofs.YtafhmbgnldmedaaDoor
