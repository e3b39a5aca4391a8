/-
  What is proved here: merkle's top, whole; over this program.
-/
import Derived.Test.YtmhbfplaglipnaaGreatDoorMG
import Derived.Deep.RegionHeld3
namespace Go.Proofs.YtmhbfplaglipnaaGreatDoor
open Go.RowKit Go.Extern.Stop Go.Stop Go.Extern

theorem enterTopA (args : Array Value) (W : World) : (callFunc 44 args).run Tryz.prog W = .ok (.enter 44 args) W := by simp [go_sem]
theorem enterTopB (args : Array Value) (W : World) : (callFunc 46 args).run Tryz.prog W = .ok (.enter 46 args) W := by simp [go_sem]
theorem enterNode (args : Array Value) (W : World) : (callFunc 74 args).run Tryz.prog W = .ok (.enter 74 args) W := by simp [go_sem]

theorem top_spec (p qb qn ql : Nat) (A : Nat → Prop) (v : Value) (l : List Ent) (lo0 n0 : Nat) (hok : ∀ e ∈ l, okE e) (hl : l.length ≤ 1024) (h0 : lo0 + n0 ≤ l.length) :
    DownSpec (fun t => t.1) (TopI p qb qn ql A v l) (fun _ n t => t.2.length + cost n ≤ 65536) (TopP p qb qn ql A v l) 44 46 74 #[.pointer (some ⟨qb, 0, none⟩), .pointer (some ⟨ql, 0, none⟩)] #[.pointer (some ⟨qb, 0, none⟩)] #[.pointer (some ⟨qn, 0, none⟩)] lo0 n0 lo0 (lo0 + n0) where
  hF := by omega
  hN := by omega
  hI _ _ _ h hb := h.next hb
  hO _ _ _ h hk := h.1.2 _ hk
  hP lo n w t w1 x w' t' hb h := ⟨h.1, Goes.pre hb h.2.1, h.2.2⟩
  hT lo n w t x w' t' h := ⟨h.1, h.2.1.turn, h.2.1.own⟩
  el := enterTopA
  ew := enterTopB
  ej := enterNode
  hl w t lo h hC hM hN h1 h2 := mtopA_any w p qb qn ql A v l t lo h hok (by omega) hC
  hw w t lo n h hC hM hN ho hn := by
    obtain rfl : n = 0 := by omega
    exact mtopB_any w p qb qn ql A v l t _ _ h hC lo
  hj w0 t0 a w1 t1 b w2 t2 lo n _ hM hN h2 hno hC ha hb := by
    obtain ⟨i1, g1, f1, d1, rfl, b1, q1⟩ := ha
    obtain ⟨i2, g2, f2, d2, rfl, b2, q2⟩ := hb
    have hc := cost_halves h2
    have hl1 := g1.len
    have hl2 := g2.len
    refine (mnode_any w2 p qn t2.1 t2.2 d1 d2 i2.1.1 i2.2.2.1.1 (by omega)).mono ?_
    intro e w3 hA
    obtain ⟨d, O', rfl, k1, k2, k3, k4⟩ := hA.goes
    refine ⟨_, (O', comes t2.2 (nodeT d1 d2)), rfl, i2.goes k1 k2, ((g1.trans g2).trans k2).more (by omega), max f1 f2 + 1, d, rfl, k4, ?_⟩
    have hpl : (part l lo n).length = n := part_length (by omega)
    have hp1 := pw_lt h2
    refine Or.inr (Or.inr ⟨by rw [hpl]; exact h2, d1, d2, ?_, ?_, fits_small b1, fits_small b2, k3⟩)
    · rw [hpl, part_first (by omega)]
      exact ((q1.more g2.exts).more k2.exts).fuel (by omega)
    · rw [hpl, part_other]
      exact (q2.more k2.exts).fuel (by omega)
  hC lo n t h2 _ h := by have := cost_halves h2; omega
  hC2 lo n w t a w1 t1 h2 _ h hp := by have := cost_halves h2; have := hp.2.1.len; omega

set_option maxRecDepth 100000 in
set_option maxHeartbeats 8000000 in
theorem mnodeOf_any (w : World) (p : Nat) : Calls Tryz.prog 49 #[.pointer (some ⟨p, 0, none⟩)] w fun e w' => e = .returned (.func (.func 74) #[] #[.pointer (some ⟨w.heap.size, 0, none⟩)]) ∧ Below w.heap.size w w' ∧ w'.cell? ⟨w.heap.size, 0, none⟩ = some (.pointer (some ⟨p, 0, none⟩)) := by
  have hmf : ∀ (fn : Fn) (first cap : Array Value) (w : World), (Instr.makeFunc fn first cap).run Tryz.prog w = .ok (.func fn first cap) w := fun _ _ _ _ => rfl
  go_enter Tryz.func49, Tryz.ntmps49
  go_wp2
  go_ret
  exact ⟨rfl, (Below.refl _ _).alloc (Nat.le_refl _) _, by rw [World.cell?_alloc_at _ _ _ _ rfl]; rfl⟩
/-- top's rooms: the Book's pointer, the entries' slice, the part -/
theorem rooms_top (w : World) (t1 t2 t3 : TypeId) (x y z u : Value) : ∃ W, W = ((w.alloc (.cells #[x] t1)).alloc (.cells #[y] t2)).alloc (.cells #[z, u] t3) ∧ Below w.heap.size w W ∧ W.heap.size = w.heap.size + 3 ∧ W.cell? ⟨w.heap.size, 0, none⟩ = some x ∧ W.cell? ⟨w.heap.size + 1, 0, none⟩ = some y ∧ W.cell? ⟨w.heap.size + 1 + 1, 0, none⟩ = some z ∧ W.cell? ⟨w.heap.size + 1 + 1, 1, none⟩ = some u := by
  have e1 : (w.alloc (.cells #[x] t1)).heap.size = w.heap.size + 1 := by simp
  have e2 : ((w.alloc (.cells #[x] t1)).alloc (.cells #[y] t2)).heap.size = w.heap.size + 1 + 1 := by simp
  refine ⟨_, rfl, (((Below.refl _ _).alloc (Nat.le_refl _) _).alloc (by simp) _).alloc (by simp; omega) _, by simp, ?_, ?_, ?_, ?_⟩
  · rw [World.cell?_alloc_lt _ _ _ (by rw [e2]; show w.heap.size < _; omega), World.cell?_alloc_lt _ _ _ (by rw [e1]; show w.heap.size < _; omega), World.cell?_alloc_at _ _ _ _ rfl]; rfl
  · rw [World.cell?_alloc_lt _ _ _ (by rw [e2]; show w.heap.size + 1 < _; omega), World.cell?_alloc_at _ _ _ _ e1.symm]; rfl
  · rw [World.cell?_alloc_at _ _ _ _ e2.symm]; rfl
  · rw [World.cell?_alloc_at _ _ _ _ e2.symm]; rfl

set_option maxRecDepth 100000 in
set_option maxHeartbeats 8000000 in
theorem mtop_any (w : World) (p : Nat) (O A : Nat → Prop) (T : List (List UInt8)) (v : Value) (l : List Ent) (lo n : Nat) (h : Bk w p O T) (hv : EntsIn w A v l) (hA : ∀ k, A k → k < w.heap.size → ¬ O k) (hok : ∀ e ∈ l, okE e) (hl : l.length ≤ 1024) (h0 : lo + n ≤ l.length) (hn : 1 ≤ n ∨ lo = 0) (hT : T.length + cost n ≤ 65536) :
    Calls Tryz.prog 24 #[.pointer (some ⟨p, 0, none⟩), v, .agg #[.int .i64 lo, .int .i64 n]] w fun e w' => ∃ (f d : Nat) (O' : Nat → Prop) (T' : List (List UInt8)), e = .returned (.tuple #[.int .i64 d, .nilIface]) ∧ Bk w' p O' T' ∧ Goes w O T w' O' T' (cost n) ∧ d ≤ 65536 ∧ TopIs T' f (part l lo n) d := by
  have hmf : ∀ (fn : Fn) (first cap : Array Value) (w : World), (Instr.makeFunc fn first cap).run Tryz.prog w = .ok (.func fn first cap) w := fun _ _ _ _ => rfl
  have H := hideIt h
  have HV := hideIt hv
  obtain ⟨a, cap, rfl⟩ := hv.form
  have HA := hideIt hA
  have HSP := hideIt (fun qb qn ql => downI_all (top_spec p qb qn ql A (.slice a l.length cap) l lo n hok hl h0) n lo)
  have HX := hideIt (And.intro h0 (And.intro hn hT))
  obtain ⟨W, hW, hwb, hws, c0, c1, c2, c3⟩ := rooms_top w 27 22 61 (.pointer (some ⟨p, 0, none⟩)) (.slice a l.length cap) (.int .i64 lo) (.int .i64 n)
  have HI : Hid (∀ w1 qn, Below W.heap.size W w1 → W.heap.size = qn → w1.cell? ⟨qn, 0, none⟩ = some (.pointer (some ⟨p, 0, none⟩)) → TopI p w.heap.size qn (w.heap.size + 1) A (.slice a l.length cap) l w1 (O, T)) := hideIt (fun w1 qn hb hq hc => by
    have hb1 := hwb.trans (hb.mono hwb.size)
    have hno : ∀ k, w.heap.size ≤ k → ¬ O k := fun k hk ho => by have := H.out.2 k ho; omega
    exact ⟨H.out.next hb1, ⟨(hb.cell (lt_of_cell c0)).trans c0, hno _ (Nat.le_refl _)⟩, ⟨hc, hno _ (by omega)⟩, ⟨(hb.cell (lt_of_cell c1)).trans c1, hno _ (by show w.heap.size ≤ w.heap.size + 1; omega)⟩,
      RowIn.mono (RowIn.kept (RowIn.mono (A' := fun k => A k ∧ k < w.heap.size) HV.out (fun k hk hl => ⟨hk, hl⟩)) (Kept.of_all hb1)) (fun k hk hl => ⟨hk.1, hl, HA.out k hk.1 hk.2⟩)⟩)
  have HWB := hideIt hwb
  have HC : Hid (∀ w1, Below W.heap.size W w1 → w1.cell? ⟨w.heap.size + 1 + 1, 0, none⟩ = some (.int .i64 lo) ∧ w1.cell? ⟨w.heap.size + 1 + 1, 1, none⟩ = some (.int .i64 n)) := hideIt (fun w1 hb => ⟨(hb.cell (lt_of_cell c2)).trans c2, (hb.cell (lt_of_cell c3)).trans c3⟩)
  have HNO : Hid (¬ O w.heap.size ∧ ¬ O (w.heap.size + 1 + 1)) := hideIt ⟨fun ho => by have := H.out.2 _ ho; omega, fun ho => by have := H.out.2 _ ho; omega⟩
  clear h hv hA hok hl h0 hn hT hwb hws
  go_enter Tryz.func24, Tryz.ntmps24
  go_wp2_with fail
  rw [← hW]
  clear hW
  generalize w.heap.size + 1 + 1 = s3 at c2 c3 HC HNO ⊢
  have HK0 : Hid (W.cell? ⟨w.heap.size, 0, none⟩ = some (.pointer (some ⟨p, 0, none⟩)) ∧ W.cell? ⟨s3, 0, none⟩ = some (.int .i64 lo) ∧ W.cell? ⟨s3, 1, none⟩ = some (.int .i64 n)) := hideIt ⟨c0, c2, c3⟩
  have HKK : Hid (∀ w1, Below W.heap.size W w1 → w1.cell? ⟨w.heap.size, 0, none⟩ = some (.pointer (some ⟨p, 0, none⟩)) ∧ w1.cell? ⟨s3, 0, none⟩ = some (.int .i64 lo) ∧ w1.cell? ⟨s3, 1, none⟩ = some (.int .i64 n)) := hideIt (fun w1 hb => ⟨(hb.cell (lt_of_cell c0)).trans c0, (hb.cell (lt_of_cell c2)).trans c2, (hb.cell (lt_of_cell c3)).trans c3⟩)
  go_region_held3 (fun w' => w'.cell? ⟨w.heap.size, 0, none⟩ = some (.pointer (some ⟨p, 0, none⟩)) ∧ w'.cell? ⟨s3, 0, none⟩ = some (.int .i64 lo) ∧ w'.cell? ⟨s3, 1, none⟩ = some (.int .i64 n)) (first | exact ⟨c0, c2, c3⟩ | exact HK1.out | exact HK2.out | go_keep) (first
    | (go_at_call 49
       refine (mnodeOf_any _ p).mono ?_
       rintro e w1 ⟨rfl, hb1, hc1⟩
       have HB1 : Hid (Below W.heap.size W w1) := hideIt ((below_drew W).trans hb1)
       have HC1 : Hid (w1.cell? ⟨W.heap.size, 0, none⟩ = some (.pointer (some ⟨p, 0, none⟩))) := hideIt hc1
       have HK1 : Hid (w1.cell? ⟨w.heap.size, 0, none⟩ = some (.pointer (some ⟨p, 0, none⟩)) ∧ w1.cell? ⟨s3, 0, none⟩ = some (.int .i64 lo) ∧ w1.cell? ⟨s3, 1, none⟩ = some (.int .i64 n)) := HKK.out w1 HB1.out
       clear hb1 hc1)
    | (go_at_call 43
       refine (HSP.out _ _ _ w1 (O, T) (Nat.le_refl _) (Nat.le_refl _) HX.out.2.1 (HI.out w1 _ HB1.out rfl HC1.out) HX.out.2.2).mono ?_
       rintro e w2 ⟨x, t', rfl, hp⟩
       have HP := hideIt hp
       have HK2 : Hid (w2.cell? ⟨w.heap.size, 0, none⟩ = some (.pointer (some ⟨p, 0, none⟩)) ∧ w2.cell? ⟨s3, 0, none⟩ = some (.int .i64 lo) ∧ w2.cell? ⟨s3, 1, none⟩ = some (.int .i64 n)) := hideIt ⟨hp.2.1.cell HK1.out.1 HNO.out.1, hp.2.1.cell HK1.out.2.1 HNO.out.2, hp.2.1.cell HK1.out.2.2 HNO.out.2⟩
       clear hp))
  all_goals
    go_wp2
    go_ret2
    obtain ⟨g1, g2, f, d, rfl, g4, g5⟩ := HP.out
    exact ⟨f, d, t'.1, t'.2, rfl, g1.1, Goes.pre (HWB.out.trans (HB1.out.mono HWB.out.size)) g2, g4, g5⟩
end Go.Proofs.YtmhbfplaglipnaaGreatDoor
