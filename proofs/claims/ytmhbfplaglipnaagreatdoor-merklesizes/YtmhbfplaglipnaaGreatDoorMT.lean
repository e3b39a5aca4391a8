/-
  What is proved here: merkle's rootMade, whole; over this program.
-/
import Derived.Test.YtmhbfplaglipnaaGreatDoorMS
namespace Go.Proofs.YtmhbfplaglipnaaGreatDoor
open Go.RowKit Go.Extern.Stop Go.Stop Go.Extern

theorem enterRmA (args : Array Value) (W : World) : (callFunc 53 args).run Tryz.prog W = .ok (.enter 53 args) W := by simp [go_sem]
theorem enterRmB (args : Array Value) (W : World) : (callFunc 54 args).run Tryz.prog W = .ok (.enter 54 args) W := by simp [go_sem]

theorem made_spec (p qb qn qp qt F N : Nat) (vl vb : Value) (L : List Ent) (Bs : List Int) (hok : ∀ e ∈ L, okE e) (h0 : F + L.length ≤ N) (hN : N ≤ 1024) (hf : ∀ d ∈ Bs, fits d) (hl : Bs.length ≤ 100000) :
    DownSpec (OX qt) (MadeI p qb qn qp qt N F vl vb L Bs) (fun lo n t => t.2.1.length + cost n ≤ 65536 ∧ t.2.2 + cntN F L.length lo n ≤ Bs.length) (MadeP p qb qn qp qt F N vl vb L Bs) 53 54 74
      #[.pointer (some ⟨qb, 0, none⟩), .pointer (some ⟨qp, 0, none⟩)] #[.pointer (some ⟨qt, 0, none⟩), .pointer (some ⟨qp, 0, none⟩)] #[.pointer (some ⟨qn, 0, none⟩)] F L.length 0 N where
  hF := by omega
  hN := hN
  hI _ _ _ h hb := h.next hb
  hO w t k h hk := by
    rcases hk with hk | hk
    · exact h.bk.2 _ hk
    · subst hk; exact lt_of_cell h.ct.1
  hP lo n w t w1 x w' t' hb h := ⟨h.1, Goes.pre hb h.2.1, h.2.2⟩
  hT lo n w t x w' t' h := ⟨h.1, h.2.1.turn, h.2.1.own⟩
  el := enterRmA
  ew := enterRmB
  ej := enterNode
  hl w t lo h hC hM hN h1 h2 := mrmA_any w p qb qn qp qt F N vl vb L Bs t lo h hok h1 h2 (by omega) hC.1
  hw w t lo n h hC hM hN ho hn := mrmB_any w p qb qn qp qt F N vl vb L Bs t lo n h ho (by have := hC.2; rw [cntN_out ho] at this; exact this) hf hl
  hj w0 t0 a w1 t1 b w2 t2 lo n _ hM hN h2 hno hC ha hb := by
    obtain ⟨i1, g1, n1, f1, d1, rfl, b1, q1⟩ := ha
    obtain ⟨i2, g2, n2, f2, d2, rfl, b2, q2⟩ := hb
    have hc := cost_halves h2
    have hl1 := g1.len
    have hl2 := g2.len
    obtain ⟨O2, T2, k2⟩ := t2
    refine (mnode_any w2 p qn O2 T2 d1 d2 i2.bk.1 i2.cn.1 (by have := hC.1; simp only at *; omega)).mono ?_
    intro e w3 hA
    obtain ⟨d, O', rfl, k1, k2', k3, k4⟩ := hA.goes
    refine ⟨_, (O', comes T2 (nodeT d1 d2), k2), rfl, i2.book k1 k2', ?_, ?_, max f1 f2 + 1, d, rfl, fits_small k4, ?_⟩
    · exact ((Goes.trans g1 g2).trans (GoesX.of (qt := qt) (k := k2) k2')).more (by omega)
    · have := cntN_step (F := F) (m := L.length) (lo := lo) (n := n) hno h2
      simp only at n1 n2 ⊢; omega
    · exact Or.inr (Or.inr ⟨hno, h2, d1, d2, _, ((q1.more g2.exts).more k2'.exts).fuel (Nat.le_max_left _ _), (q2.more k2'.exts).fuel (Nat.le_max_right _ _), b1, b2, k3⟩)
  hC lo n t h2 hno h := by
    have := cost_halves h2
    have := cntN_step (F := F) (m := L.length) (lo := lo) (n := n) hno h2
    omega
  hC2 lo n w t a w1 t1 h2 hno h hp := by
    have := cost_halves h2
    have := cntN_step (F := F) (m := L.length) (lo := lo) (n := n) hno h2
    have := hp.2.1.len
    have := hp.2.2.1
    omega

/-- rootMade's rooms -/
theorem rooms_made (w : World) (t1 t2 t3 : TypeId) (x y z u v k : Value) : ∃ W, W = ((w.alloc (.cells #[x] t1)).alloc (.cells #[y, z, u, v] t2)).alloc (.cells #[k] t3) ∧ Below w.heap.size w W ∧ W.heap.size = w.heap.size + 3 ∧ W.cell? ⟨w.heap.size, 0, none⟩ = some x ∧
    (W.cell? ⟨w.heap.size + 1, 0, none⟩ = some y ∧ W.cell? ⟨w.heap.size + 1, 1, none⟩ = some z ∧ W.cell? ⟨w.heap.size + 1, 2, none⟩ = some u ∧ W.cell? ⟨w.heap.size + 1, 3, none⟩ = some v) ∧ W.cell? ⟨w.heap.size + 1 + 1, 0, none⟩ = some k ∧ W.frozen? ⟨w.heap.size + 1 + 1, 0, none⟩ = false := by
  have e1 : (w.alloc (.cells #[x] t1)).heap.size = w.heap.size + 1 := by simp
  have e2 : ((w.alloc (.cells #[x] t1)).alloc (.cells #[y, z, u, v] t2)).heap.size = w.heap.size + 1 + 1 := by simp
  refine ⟨_, rfl, (((Below.refl _ _).alloc (Nat.le_refl _) _).alloc (by simp) _).alloc (by simp; omega) _, by simp, ?_, ⟨?_, ?_, ?_, ?_⟩, ?_, ?_⟩
  · rw [World.cell?_alloc_lt _ _ _ (by rw [e2]; show w.heap.size < _; omega), World.cell?_alloc_lt _ _ _ (by rw [e1]; show w.heap.size < _; omega), World.cell?_alloc_at _ _ _ _ rfl]; rfl
  · rw [World.cell?_alloc_lt _ _ _ (by rw [e2]; show w.heap.size + 1 < _; omega), World.cell?_alloc_at _ _ _ _ e1.symm]; rfl
  · rw [World.cell?_alloc_lt _ _ _ (by rw [e2]; show w.heap.size + 1 < _; omega), World.cell?_alloc_at _ _ _ _ e1.symm]; rfl
  · rw [World.cell?_alloc_lt _ _ _ (by rw [e2]; show w.heap.size + 1 < _; omega), World.cell?_alloc_at _ _ _ _ e1.symm]; rfl
  · rw [World.cell?_alloc_lt _ _ _ (by rw [e2]; show w.heap.size + 1 < _; omega), World.cell?_alloc_at _ _ _ _ e1.symm]; rfl
  · rw [World.cell?_alloc_at _ _ _ _ e2.symm]; rfl
  · exact World.frozen?_alloc_at _ _ _ _ e2.symm

theorem Goes.ofX {qt : Nat} {w w' : World} {t t' : MadeS} {T T' : List (List UInt8)} {c : Nat} (h : Goes w (OX qt t) T w' (OX qt t') T' c) (hq : w.heap.size ≤ qt) : Goes w t.1 T w' t'.1 T' c :=
  ⟨⟨h.turn.os, h.turn.tape, h.turn.output, h.turn.size, fun k hk ho => h.turn.block k hk (fun o => by rcases o with o | o; exact ho o; omega)⟩, fun k hk => by
    rcases h.own k (Or.inl hk) with (o | o) | o
    · exact Or.inl o
    · exact Or.inr (by omega)
    · exact Or.inr o, h.exts, h.len⟩
/-- d is the root that a proof makes -/
def RootMade (T : List (List UInt8)) (N F : Nat) (L : List Ent) (Bs : List Int) (d : Int) : Prop := ∃ (f : Nat) (t : Int), fits t ∧ MadeIs T F L f 0 N Bs t [] ∧ Dig T (rootT N t) d

set_option maxRecDepth 100000 in
set_option maxHeartbeats 8000000 in
theorem mrootMade_any (w : World) (p : Nat) (O : Nat → Prop) (T : List (List UInt8)) (N F : Nat) (vl vb : Value) (L : List Ent) (Bs : List Int) (h : Bk w p O T) (hv : ProofAp w O vl vb L Bs) (hok : ∀ e ∈ L, okE e) (h0 : F + L.length ≤ N) (hN : N ≤ 1024) (hf : ∀ d ∈ Bs, fits d) (hl : Bs.length = cntN F L.length 0 N) (hl2 : Bs.length ≤ 100000) (hT : T.length + (cost N + 1) ≤ 65536) :
    Calls Tryz.prog 27 #[.pointer (some ⟨p, 0, none⟩), .agg #[.int .i64 N, .int .i64 F, vl, vb]] w fun e w' => ∃ (d : Nat) (O' : Nat → Prop) (T' : List (List UInt8)), e = .returned (.tuple #[.int .i64 d, .nilIface]) ∧ Bk w' p O' T' ∧ Goes w O T w' O' T' (cost N + 1) ∧ RootMade T' N F L Bs d ∧ d ≤ 65536 := by
  have hmf : ∀ (fn : Fn) (first cap : Array Value) (w : World), (Instr.makeFunc fn first cap).run Tryz.prog w = .ok (.func fn first cap) w := fun _ _ _ _ => rfl
  have H := hideIt (And.intro h hv)
  obtain ⟨al, cl, rfl⟩ := hv.1.form
  obtain ⟨ab, cb, rfl⟩ := NumsIn.form hv.2
  obtain ⟨W, hW, hwb, hws, c0, hc4, ck, cf⟩ := rooms_made w 27 25 3 (.pointer (some ⟨p, 0, none⟩)) (.int .i64 N) (.int .i64 F) (.slice al L.length cl) (.slice ab Bs.length cb) (.int .i64 0)
  have HX := hideIt (And.intro hok (And.intro h0 (And.intro hN (And.intro hf (And.intro hl (And.intro hl2 hT))))))
  have HSP := hideIt (fun qb qn qp qt => downI_all (made_spec p qb qn qp qt F N (.slice al L.length cl) (.slice ab Bs.length cb) L Bs hok h0 hN hf hl2) N 0)
  have hno : ∀ k, w.heap.size ≤ k → ¬ O k := fun k hk ho => by have := h.2 k ho; omega
  have HI : Hid (∀ w1 qn, Below W.heap.size W w1 → W.heap.size = qn → w1.cell? ⟨qn, 0, none⟩ = some (.pointer (some ⟨p, 0, none⟩)) → MadeI p w.heap.size qn (w.heap.size + 1) (w.heap.size + 1 + 1) N F (.slice al L.length cl) (.slice ab Bs.length cb) L Bs w1 (O, T, 0)) := hideIt (fun w1 qn hb hq hc => by
    have hb1 := hwb.trans (hb.mono hwb.size)
    refine ⟨h.next hb1, ⟨(hb.cell (lt_of_cell c0)).trans c0, ?_⟩, ⟨hc, ?_⟩, ⟨⟨(hb.cell (lt_of_cell hc4.1)).trans hc4.1, (hb.cell (lt_of_cell hc4.2.1)).trans hc4.2.1, (hb.cell (lt_of_cell hc4.2.2.1)).trans hc4.2.2.1, (hb.cell (lt_of_cell hc4.2.2.2)).trans hc4.2.2.2⟩, ?_⟩,
      ⟨(hb.cell (lt_of_cell ck)).trans ck, (World.frozen?_of_block (a := ⟨w.heap.size + 1 + 1, 0, none⟩) (hb.block _ (lt_of_cell ck))).trans cf, hno _ (by omega)⟩, ?_, ?_, Nat.zero_le _⟩
    · rintro (o | o)
      · exact hno _ (Nat.le_refl _) o
      · omega
    · rintro (o | o)
      · exact hno _ (by omega) o
      · omega
    · rintro (o | o)
      · exact hno _ (by omega) o
      · omega
    · exact RowIn.mono (RowIn.kept hv.1 (Kept.of_all hb1)) (fun k hk hl => ⟨hl, fun o => by rcases o with o | o; exact hk.2 o; omega⟩)
    · exact RowIn.mono (RowIn.kept hv.2 (Kept.of_all hb1)) (fun k hk hl => ⟨hl, fun o => by rcases o with o | o; exact hk.2 o; omega⟩))
  have HWB := hideIt hwb
  have HWS := hideIt hws
  obtain ⟨p0, p1, p2, _⟩ := hc4
  have HNO : Hid (¬ OX (w.heap.size + 1 + 1) (O, T, 0) w.heap.size ∧ ¬ OX (w.heap.size + 1 + 1) (O, T, 0) (w.heap.size + 1)) := hideIt ⟨by
    rintro (o | o)
    · exact hno _ (Nat.le_refl _) o
    · omega, by
    rintro (o | o)
    · exact hno _ (by omega) o
    · omega⟩
  clear h hv hok h0 hN hf hl hl2 hT hwb hws hno ck cf
  go_enter Tryz.func27, Tryz.ntmps27
  go_wp2_with fail
  rw [← hW]
  clear hW
  have HS2 : Hid (w.heap.size ≤ w.heap.size + 1 + 1) := hideIt (by omega)
  generalize w.heap.size + 1 + 1 = s2 at HI HNO HS2 ⊢
  generalize w.heap.size + 1 = s1 at p0 p1 p2 HI HNO ⊢
  generalize hs0 : w.heap.size = s0 at c0 HI HNO ⊢
  have HS0 := hideIt hs0
  clear hs0
  have HKK : Hid (∀ w1, Below W.heap.size W w1 → w1.cell? ⟨s0, 0, none⟩ = some (.pointer (some ⟨p, 0, none⟩)) ∧ w1.cell? ⟨s1, 0, none⟩ = some (.int .i64 N) ∧ w1.cell? ⟨s1, 1, none⟩ = some (.int .i64 F) ∧ w1.cell? ⟨s1, 2, none⟩ = some (.slice al L.length cl)) := hideIt (fun w1 hb => ⟨(hb.cell (lt_of_cell c0)).trans c0, (hb.cell (lt_of_cell p0)).trans p0, (hb.cell (lt_of_cell p1)).trans p1, (hb.cell (lt_of_cell p2)).trans p2⟩)
  go_region_held3 (fun w' => w'.cell? ⟨s0, 0, none⟩ = some (.pointer (some ⟨p, 0, none⟩)) ∧ w'.cell? ⟨s1, 0, none⟩ = some (.int .i64 N) ∧ w'.cell? ⟨s1, 1, none⟩ = some (.int .i64 F) ∧ w'.cell? ⟨s1, 2, none⟩ = some (.slice al L.length cl)) (first | exact ⟨c0, p0, p1, p2⟩ | exact HK1.out | exact HK2.out | go_keep) (first
    | (go_at_call 49
       refine (mnodeOf_any _ p).mono ?_
       rintro e w1 ⟨rfl, hb1, hc1⟩
       have HB1 : Hid (Below W.heap.size W w1) := hideIt ((below_drew W).trans hb1)
       have HC1 : Hid (w1.cell? ⟨W.heap.size, 0, none⟩ = some (.pointer (some ⟨p, 0, none⟩))) := hideIt hc1
       have HK1 : Hid (w1.cell? ⟨s0, 0, none⟩ = some (.pointer (some ⟨p, 0, none⟩)) ∧ w1.cell? ⟨s1, 0, none⟩ = some (.int .i64 N) ∧ w1.cell? ⟨s1, 1, none⟩ = some (.int .i64 F) ∧ w1.cell? ⟨s1, 2, none⟩ = some (.slice al L.length cl)) := HKK.out w1 HB1.out
       clear hb1 hc1)
    | (go_at_call 43
       refine (HSP.out _ _ _ _ w1 (O, T, 0) (Nat.le_refl _) (by omega) (by simp) (HI.out w1 _ HB1.out rfl HC1.out) ⟨by have := HX.out.2.2.2.2.2.2; simp only; omega, by have := HX.out.2.2.2.2.1; simp only; omega⟩).mono ?_
       rintro e w2 ⟨x, t', rfl, hp⟩
       have HP := hideIt hp
       have HK2 : Hid (w2.cell? ⟨s0, 0, none⟩ = some (.pointer (some ⟨p, 0, none⟩)) ∧ w2.cell? ⟨s1, 0, none⟩ = some (.int .i64 N) ∧ w2.cell? ⟨s1, 1, none⟩ = some (.int .i64 F) ∧ w2.cell? ⟨s1, 2, none⟩ = some (.slice al L.length cl)) := hideIt ⟨Goes.cell hp.2.1 HK1.out.1 HNO.out.1, Goes.cell hp.2.1 HK1.out.2.1 HNO.out.2, Goes.cell hp.2.1 HK1.out.2.2.1 HNO.out.2, Goes.cell hp.2.1 HK1.out.2.2.2 HNO.out.2⟩
       clear hp))
  all_goals
    obtain ⟨i2, g2, n2, f, d1, rfl, b2, q2⟩ := HP.out
    have hk0 := HK2.out.1
    have hk1 := HK2.out.2.1
    have HI2 := hideIt i2
    have HQ2 := hideIt (And.intro g2 (And.intro n2 (And.intro b2 q2)))
    clear i2 g2 n2 b2 q2 HP
    go_wp2_with fail
    refine (mrootD_any w2 p t'.1 t'.2.1 N d1 HI2.out.bk.1 (by have h1 : t'.2.1.length ≤ T.length + cost N := HQ2.out.1.len; have h2 := HX.out.2.2.2.2.2.2; omega)).mono ?_
    rintro e w3 hA
    obtain ⟨d, O3, rfl, j1, j2, j3, j4⟩ := hA.goes
    have HJ := hideIt (And.intro j1 (And.intro j2 (And.intro j3 j4)))
    clear hA j1 j2 j3 j4
    go_wp2
    go_ret2
    obtain ⟨g2, n2, b2, q2⟩ := HQ2.out
    obtain ⟨j1, j2, j3, j4⟩ := HJ.out
    have hgo : Goes w O T w3 O3 (comes t'.2.1 (rootT N d1)) (cost N + 1) := by
      have g3 := Goes.trans (Goes.pre (HWB.out.trans (HB1.out.mono HWB.out.size)) (g2 : Goes w1 (OX s2 (O, T, 0)) T w2 (OX s2 t') t'.2.1 (cost N))) (GoesX.of (qt := s2) (k := t'.2.2) j2 : Goes w2 (OX s2 t') t'.2.1 w3 (OX s2 (O3, comes t'.2.1 (rootT N d1), t'.2.2)) _ 1)
      exact Goes.ofX (t := (O, T, 0)) (t' := (O3, comes t'.2.1 (rootT N d1), t'.2.2)) g3 HS2.out
    have hdr : Bs.drop t'.2.2 = [] := List.drop_eq_nil_of_le (by have h3 : t'.2.2 = 0 + cntN F L.length 0 N := n2; have := HX.out.2.2.2.2.1; omega)
    have q3 : MadeIs (comes t'.2.1 (rootT N d1)) F L f 0 N Bs d1 [] := by
      have := q2.more j2.exts
      rw [hdr] at this
      exact this
    exact ⟨d, O3, _, rfl, j1, hgo, ⟨f, d1, b2, q3, j3⟩, j4⟩
end Go.Proofs.YtmhbfplaglipnaaGreatDoor
