/-
  What is proved here: merkle's beside, whole; over this program.
-/
import Derived.Test.YtmhbfplaglipnaaGreatDoorMJ
namespace Go.Proofs.YtmhbfplaglipnaaGreatDoor
open Go.RowKit Go.Extern.Stop Go.Stop Go.Extern

theorem enterBesA (args : Array Value) (W : World) : (callFunc 56 args).run Tryz.prog W = .ok (.enter 56 args) W := by simp [go_sem]
theorem enterBesB (args : Array Value) (W : World) : (callFunc 57 args).run Tryz.prog W = .ok (.enter 57 args) W := by simp [go_sem]
theorem enterBesC (args : Array Value) (W : World) : (callFunc 58 args).run Tryz.prog W = .ok (.enter 58 args) W := by simp [go_sem]

/-- behind an append to a row of one's own, made since: all that went before it as it was -/
theorem Goes.append {w0 w2 w3 : World} {O0 O2 : Nat → Prop} {T0 T2 : List (List UInt8)} {c : Nat} {r : Option Nat} (hg : Goes w0 O0 T0 w2 O2 T2 c) (h : w2.grownBy w3 r) (hr : ∀ g, r = some g → w0.heap.size ≤ g) : Goes w0 O0 T0 w3 O2 T2 c :=
  ⟨⟨h.os.trans hg.turn.os, h.tape.trans hg.turn.tape, h.output.trans hg.turn.output, Nat.le_trans hg.turn.size h.size, fun k hk ho =>
    (h.block k (Nat.lt_of_lt_of_le hk hg.turn.size) (fun e => by have := hr k e.symm; omega)).trans (hg.turn.block k hk ho)⟩, hg.own, hg.exts, hg.len⟩
theorem Bk.append {w w' : World} {p : Nat} {O : Nat → Prop} {T : List (List UInt8)} {r : Option Nat} (h : Bk w p O T) (hg : w.grownBy w' r) (hr : ∀ g, r = some g → ¬ O g) : Bk w' p O T :=
  ⟨h.1.kept (fun k hk hl => hg.block k hl (fun e => hr k e.symm hk)), fun k hk => Nat.lt_of_lt_of_le (h.2 k hk) hg.size⟩

theorem bes_spec (p qb ql F m : Nat) (v : Value) (l : List Ent) (hok : ∀ e ∈ l, okE e) (hl : l.length ≤ 1024) (h0 : F + m ≤ l.length) :
    DownSpec (fun t => t.1) (BesI p qb ql v l) (fun _ n t => t.2.length + cost n ≤ 65536) (BesP p qb ql F m v l) 56 57 58 #[] #[.pointer (some ⟨qb, 0, none⟩), .pointer (some ⟨ql, 0, none⟩)] #[] F m 0 l.length where
  hF := by omega
  hN := hl
  hI _ _ _ h hb := h.next hb
  hO _ _ _ h hk := h.1.2 _ hk
  hP lo n w t w1 x w' t' hb h := by
    obtain ⟨h1, h2, f, ds, h3, h4, h5⟩ := h
    exact ⟨h1, Goes.pre hb h2, f, ds, ⟨h3.1, fun g e => ⟨Nat.le_trans hb.size (h3.2 g e).1, (h3.2 g e).2⟩⟩, h4, h5⟩
  hT lo n w t x w' t' h := ⟨h.1, h.2.1.turn, h.2.1.own⟩
  el := enterBesA
  ew := enterBesB
  ej := enterBesC
  hl w t lo h hC hM hN h1 h2 := by
    refine (mbesA_any w _).mono ?_
    rintro e w' ⟨rfl, rfl⟩
    refine ⟨_, t, rfl, h, (Goes.of_below (Below.refl _ _)).more (Nat.zero_le _), 1, [], Mine.none _ _ _, ⟨by simp, by simp⟩, Or.inr (Or.inl ⟨?_, part_length hN, rfl⟩)⟩
    rw [part_length hN]; unfold Out; omega
  hw w t lo n h hC hM hN ho hn := mbesB_any w p qb ql F m v l t lo n h hok hl hN hn hC ho
  hj w0 t0 a w1 t1 b w2 t2 lo n i0 hM hN h2 hno hC ha hb := by
    obtain ⟨i1, g1, f1, ds1, m1, ⟨b1, c1⟩, p1⟩ := ha
    obtain ⟨i2, g2, f2, ds2, m2, ⟨b2, c2⟩, p2⟩ := hb
    have hp1 := pw_lt h2
    have hp2 := pw_pos n
    have hc := cost_halves h2
    have m1' := m1.goes g2
    refine (mbesC_any w2 t2.1 w0.heap.size a b ds1 ds2 m1' m2.nums (by omega)).mono ?_
    rintro e w3 ⟨z, rfl, r1, r2, r3⟩
    have hg := ((g1.trans g2).append r2 (fun g e => (m1'.2 g e).1)).more (c' := cost n) (by omega)
    have hbk := i2.1.append r2 (fun g e => (m1'.2 g e).2.2)
    have hpl : (part l lo n).length = n := part_length hN
    refine ⟨z, t2, rfl, i0.goes hbk hg, hg, max f1 f2 + 1, ds1 ++ ds2, ⟨r1, fun g e => ?_⟩, ⟨fun d hd => ?_, by simp; omega⟩, ?_⟩
    · rcases r3 with r3 | r3
      · rw [r3] at e
        exact ⟨(m1'.2 g e).1, Nat.lt_of_lt_of_le (m1'.2 g e).2.1 r2.size, (m1'.2 g e).2.2⟩
      · rw [r3] at e
        cases e
        refine ⟨Nat.le_trans g1.turn.size g2.turn.size, ownsRow_lt r1 r3, fun ho => ?_⟩
        have := i2.1.2 _ ho; omega
    · rcases List.mem_append.1 hd with hd | hd
      · exact b1 d hd
      · exact b2 d hd
    · refine Or.inr (Or.inr ⟨by rw [hpl]; exact hno, by rw [hpl]; exact h2, ds2, ?_, ?_⟩)
      · rw [hpl, part_first (by omega)]
        exact ((p1.more g2.exts).fuel (Nat.le_max_left _ _)).behind ds2
      · rw [hpl, part_other]
        exact p2.fuel (Nat.le_max_right _ _)
  hC lo n t h2 _ h := by have := cost_halves h2; omega
  hC2 lo n w t a w1 t1 h2 _ h hp := by have := cost_halves h2; have := hp.2.1.len; omega

set_option maxRecDepth 100000 in
set_option maxHeartbeats 8000000 in
theorem mbeside_any (w : World) (p : Nat) (O : Nat → Prop) (T : List (List UInt8)) (v : Value) (l : List Ent) (F m : Nat) (h : Bk w p O T) (hv : EntsAp w O v l) (hok : ∀ e ∈ l, okE e) (hl : l.length ≤ 1024) (h0 : F + m ≤ l.length) (hT : T.length + cost l.length ≤ 65536) :
    Calls Tryz.prog 28 #[.pointer (some ⟨p, 0, none⟩), v, .agg #[.int .i64 F, .int .i64 m]] w fun e w' => ∃ (f : Nat) (x : Value) (ds : List Int) (O' : Nat → Prop) (T' : List (List UInt8)), e = .returned (.tuple #[x, .nilIface]) ∧ Bk w' p O' T' ∧ Goes w O T w' O' T' (cost l.length) ∧ Mine w' O' w.heap.size x ds ∧ ((∀ d ∈ ds, 0 ≤ d ∧ d ≤ 65536) ∧ ds.length ≤ max 1 l.length) ∧ ProvIs T' F m f 0 l ds [] := by
  have hmf : ∀ (fn : Fn) (first cap : Array Value) (w : World), (Instr.makeFunc fn first cap).run Tryz.prog w = .ok (.func fn first cap) w := fun _ _ _ _ => rfl
  have H := hideIt (And.intro h hv)
  have HX := hideIt (And.intro hok (And.intro hl (And.intro h0 hT)))
  obtain ⟨a, cap, rfl⟩ := hv.form
  have HSP := hideIt (fun qb ql => downS_all (bes_spec p qb ql F m (.slice a l.length cap) l hok hl h0) l.length 0)
  obtain ⟨W, hW, hwb, hws, c0, c1, c2, c3⟩ := rooms_top w 27 22 61 (.pointer (some ⟨p, 0, none⟩)) (.slice a l.length cap) (.int .i64 F) (.int .i64 m)
  have HI : Hid (BesI p w.heap.size (w.heap.size + 1) (.slice a l.length cap) l W (O, T)) := hideIt (by
    have hno : ∀ k, w.heap.size ≤ k → ¬ O k := fun k hk ho => by have := H.out.1.2 k ho; omega
    exact ⟨H.out.1.next hwb, ⟨c0, hno _ (Nat.le_refl _)⟩, ⟨c1, hno _ (by show w.heap.size ≤ w.heap.size + 1; omega)⟩, H.out.2.next hwb⟩)
  have HWB := hideIt hwb
  have HC : Hid (Calls Tryz.prog 55 #[.agg #[.int .i64 0, .int .i64 l.length], .agg #[.int .i64 F, .int .i64 m], .func (.func 56) #[] #[], .func (.func 57) #[] #[.pointer (some ⟨w.heap.size, 0, none⟩), .pointer (some ⟨w.heap.size + 1, 0, none⟩)], .func (.func 58) #[] #[]] W fun e w' => ∃ x t', e = .returned (.tuple #[x, .nilIface]) ∧ BesP p w.heap.size (w.heap.size + 1) F m (.slice a l.length cap) l 0 l.length W (O, T) x w' t') := hideIt (HSP.out w.heap.size (w.heap.size + 1) W (O, T) (Nat.le_refl _) (by omega) (Or.inr rfl) HI.out HX.out.2.2.2)
  clear h hv hok hl h0 hT hwb hws HSP
  go_enter Tryz.func28, Tryz.ntmps28
  go_wp2_with fail
  rw [← hW]
  clear hW c0 c1 c2 c3
  refine HC.out.mono ?_
  rintro e w1 ⟨x, t', rfl, hp⟩
  have HP := hideIt hp
  clear hp
  go_wp2
  go_ret2
  obtain ⟨g1, g2, f, ds, g3, g4, g5⟩ := HP.out
  rw [part_all] at g5
  exact ⟨f, x, ds, t'.1, t'.2, rfl, g1.1, Goes.pre HWB.out g2, ⟨g3.1, fun g e => ⟨Nat.le_trans HWB.out.size (g3.2 g e).1, (g3.2 g e).2⟩⟩, g4, g5⟩
end Go.Proofs.YtmhbfplaglipnaaGreatDoor
