/-
  What is proved here: merkle's rootMade: what a proof makes; over this program.
-/
import Derived.Test.YtmhbfplaglipnaaGreatDoorMR
import Derived.Test.YtmhbfplaglipnaaGreatDoorMI
namespace Go.Proofs.YtmhbfplaglipnaaGreatDoor
open Go.RowKit Go.Extern.Stop Go.Stop Go.Extern

/-- rootMade's state: the Book's blocks, its texts, how many tops were taken -/
abbrev MadeS := (Nat → Prop) × List (List UInt8) × Nat
/-- the blocks that may change: the Book's, and that of taken -/
def OX (qt : Nat) (t : MadeS) (k : Nat) : Prop := t.1 k ∨ k = qt
/-- what rootMade's functions lean on -/
structure MadeI (p qb qn qp qt : Nat) (N F : Int) (vl vb : Value) (L : List Ent) (Bs : List Int) (w : World) (t : MadeS) : Prop where
  bk : Bk w p t.1 t.2.1
  cb : w.cell? ⟨qb, 0, none⟩ = some (.pointer (some ⟨p, 0, none⟩)) ∧ ¬ OX qt t qb
  cn : w.cell? ⟨qn, 0, none⟩ = some (.pointer (some ⟨p, 0, none⟩)) ∧ ¬ OX qt t qn
  cp : (w.cell? ⟨qp, 0, none⟩ = some (.int .i64 N) ∧ w.cell? ⟨qp, 1, none⟩ = some (.int .i64 F) ∧ w.cell? ⟨qp, 2, none⟩ = some vl ∧ w.cell? ⟨qp, 3, none⟩ = some vb) ∧ ¬ OX qt t qp
  ct : w.cell? ⟨qt, 0, none⟩ = some (.int .i64 t.2.2) ∧ w.frozen? ⟨qt, 0, none⟩ = false ∧ ¬ t.1 qt
  ents : EntsIn w (fun k => k < w.heap.size ∧ ¬ OX qt t k) vl L
  tops : NumsIn w (fun k => k < w.heap.size ∧ ¬ OX qt t k) vb Bs
  many : t.2.2 ≤ Bs.length
/-- the world, where what may change may have changed -/
def GoesX (qt : Nat) (w : World) (t : MadeS) (w' : World) (t' : MadeS) (c : Nat) : Prop := Goes w (OX qt t) t.2.1 w' (OX qt t') t'.2.1 c
theorem MadeI.goes {p qb qn qp qt : Nat} {N F : Int} {vl vb : Value} {L : List Ent} {Bs : List Int} {w w' : World} {t t' : MadeS} {c : Nat} (h : MadeI p qb qn qp qt N F vl vb L Bs w t) (hg : GoesX qt w t w' t' c) (hb : Bk w' p t'.1 t'.2.1)
    (ct : w'.cell? ⟨qt, 0, none⟩ = some (.int .i64 t'.2.2) ∧ w'.frozen? ⟨qt, 0, none⟩ = false ∧ ¬ t'.1 qt) (hm : t'.2.2 ≤ Bs.length) : MadeI p qb qn qp qt N F vl vb L Bs w' t' where
  bk := hb
  cb := ⟨Goes.cell hg h.cb.1 h.cb.2, Goes.not hg (lt_of_cell h.cb.1) h.cb.2⟩
  cn := ⟨Goes.cell hg h.cn.1 h.cn.2, Goes.not hg (lt_of_cell h.cn.1) h.cn.2⟩
  cp := ⟨⟨Goes.cell hg h.cp.1.1 h.cp.2, Goes.cell hg h.cp.1.2.1 h.cp.2, Goes.cell hg h.cp.1.2.2.1 h.cp.2, Goes.cell hg h.cp.1.2.2.2 h.cp.2⟩, Goes.not hg (lt_of_cell h.cp.1.1) h.cp.2⟩
  ct := ct
  ents := RowIn.mono (RowIn.kept h.ents (hg.turn.kept (fun _ hk _ => hk.2))) (fun _ hk hl => ⟨hl, Goes.not hg hk.1 hk.2⟩)
  tops := RowIn.mono (RowIn.kept h.tops (hg.turn.kept (fun _ hk _ => hk.2))) (fun _ hk hl => ⟨hl, Goes.not hg hk.1 hk.2⟩)
  many := hm
theorem MadeI.next {p qb qn qp qt : Nat} {N F : Int} {vl vb : Value} {L : List Ent} {Bs : List Int} {w w' : World} {t : MadeS} (h : MadeI p qb qn qp qt N F vl vb L Bs w t) (hb : Below w.heap.size w w') : MadeI p qb qn qp qt N F vl vb L Bs w' t :=
  h.goes (Goes.of_below hb) (h.bk.next hb) ⟨(hb.cell (lt_of_cell h.ct.1)).trans h.ct.1, (World.frozen?_of_block (a := ⟨qt, 0, none⟩) (hb.block qt (lt_of_cell h.ct.1))).trans h.ct.2.1, h.ct.2.2⟩ h.many
/-- of a step of the Book alone -/
theorem GoesX.of {qt : Nat} {w w' : World} {O O' : Nat → Prop} {T T' : List (List UInt8)} {k c : Nat} (h : Goes w O T w' O' T' c) : GoesX qt w (O, T, k) w' (O', T', k) c :=
  ⟨⟨h.turn.os, h.turn.tape, h.turn.output, h.turn.size, fun j hj ho => h.turn.block j hj (fun o => ho (Or.inl o))⟩, fun j hj => by
    rcases hj with hj | hj
    · rcases h.own j hj with e | e
      · exact Or.inl (Or.inl e)
      · exact Or.inr e
    · exact Or.inl (Or.inr hj), h.exts, h.len⟩
theorem MadeI.book {p qb qn qp qt : Nat} {N F : Int} {vl vb : Value} {L : List Ent} {Bs : List Int} {w w' : World} {O O' : Nat → Prop} {T T' : List (List UInt8)} {k c : Nat} (h : MadeI p qb qn qp qt N F vl vb L Bs w (O, T, k)) (hb : Bk w' p O' T') (hg : Goes w O T w' O' T' c) : MadeI p qb qn qp qt N F vl vb L Bs w' (O', T', k) :=
  h.goes (GoesX.of hg) hb ⟨hg.cell h.ct.1 h.ct.2.2, (World.frozen?_of_block (a := ⟨qt, 0, none⟩) (hg.turn.block qt (lt_of_cell h.ct.1) h.ct.2.2)).trans h.ct.2.1, hg.not (lt_of_cell h.ct.1) h.ct.2.2⟩ h.many

/-- what rootMade's functions say of a part -/
def MadeP (p qb qn qp qt F : Nat) (N : Int) (vl vb : Value) (L : List Ent) (Bs : List Int) (lo n : Nat) (w : World) (t : MadeS) (x : Value) (w' : World) (t' : MadeS) : Prop :=
  MadeI p qb qn qp qt N F vl vb L Bs w' t' ∧ GoesX qt w t w' t' (cost n) ∧ t'.2.2 = t.2.2 + cntN F L.length lo n ∧ ∃ (f : Nat) (d : Int), x = .int .i64 d ∧ fits d ∧ MadeIs t'.2.1 F L f lo n (Bs.drop t.2.2) d (Bs.drop t'.2.2)

set_option maxRecDepth 100000 in
set_option maxHeartbeats 8000000 in
theorem mrmA_any (w : World) (p qb qn qp qt F : Nat) (N : Int) (vl vb : Value) (L : List Ent) (Bs : List Int) (t : MadeS) (lo : Nat) (h : MadeI p qb qn qp qt N F vl vb L Bs w t) (hok : ∀ e ∈ L, okE e) (h1 : F ≤ lo) (h2 : lo < F + L.length) (hl : F + L.length ≤ 1024) (hT : t.2.1.length + 1 ≤ 65536) :
    Calls Tryz.prog 53 #[.int .i64 lo, .pointer (some ⟨qb, 0, none⟩), .pointer (some ⟨qp, 0, none⟩)] w fun e w' => ∃ x t', e = .returned (.tuple #[x, .nilIface]) ∧ MadeP p qb qn qp qt F N vl vb L Bs lo 1 w t x w' t' := by
  have H := hideIt h
  have HX := hideIt (And.intro hok (And.intro h1 (And.intro h2 hT)))
  have cb := h.cb.1
  obtain ⟨c0, c1, c2, c3⟩ := h.cp.1
  obtain ⟨a, cap, rfl⟩ := h.ents.form
  obtain ⟨e, he⟩ : ∃ e, L[lo - F]? = some e := ⟨L[lo - F], by rw [List.getElem?_eq_getElem (by omega)]⟩
  obtain ⟨b, off, rfl, _, d0, d1, d2⟩ := EntsIn.at h.ents he
  have HE := hideIt he
  obtain ⟨j, hj⟩ : ∃ j : Nat, j = lo - F := ⟨_, rfl⟩
  rw [← hj] at d0 d1 d2
  obtain ⟨LO, FF, J, hLO, hFF, k1, k0, k2, k4, k5, k6⟩ : ∃ LO FF J : Int, (lo : Int) = LO ∧ (F : Int) = FF ∧ LO - FF = J ∧ 0 ≤ J ∧ J < (L.length : Int) ∧ J.toNat = j ∧ 0 ≤ FF ∧ LO ≤ 1024 := ⟨_, _, _, rfl, rfl, rfl, by omega, by omega, by omega, by omega, by omega⟩
  have k7 : IntKind.i64.wrap J = J := by simp [IntKind.wrap, IntKind.bits, IntKind.signed]; omega
  rw [hFF] at c1
  have HFF := hideIt hFF
  have HBD : Hid (BookSt w.drew p t.1 t.2.1) := hideIt (H.out.bk.1.kept (Kept.of_all (below_drew w)))
  have HNO : Hid (¬ t.1 qb ∧ ¬ t.1 qp ∧ ¬ t.1 b) := hideIt ⟨fun o => h.cb.2 (Or.inl o), fun o => h.cp.2 (Or.inl o), by
    obtain ⟨_, off', hbb, hnb, _⟩ := EntsIn.at h.ents he
    cases hbb; exact fun o => hnb.2 (Or.inl o)⟩
  have HJ : Hid (lo - F = j) := hideIt hj.symm
  clear hok hT he h h1 h2 hj hFF
  rw [hLO]
  clear hLO
  have HK0 : Hid (w.cell? ⟨qb, 0, none⟩ = some (.pointer (some ⟨p, 0, none⟩)) ∧ w.cell? ⟨qp, 2, none⟩ = some (.slice (some ⟨b, off, none⟩) L.length cap) ∧ w.cell? ⟨qp, 1, none⟩ = some (.int .i64 FF) ∧ w.cell? ⟨b, off + j * 3, none⟩ = some (.string ⟨e.1.toArray⟩) ∧ w.cell? ⟨b, off + j * 3 + 1, none⟩ = some (.string ⟨e.2.1.toArray⟩) ∧ w.cell? ⟨b, off + j * 3 + 2, none⟩ = some (.int .i64 e.2.2)) := hideIt ⟨cb, c2, c1, d0, d1, d2⟩
  go_enter Tryz.func53, Tryz.ntmps53
  go_wp2_with fail
  go_region_held3 (fun w' => w'.cell? ⟨qb, 0, none⟩ = some (.pointer (some ⟨p, 0, none⟩)) ∧ w'.cell? ⟨qp, 2, none⟩ = some (.slice (some ⟨b, off, none⟩) L.length cap) ∧ w'.cell? ⟨qp, 1, none⟩ = some (.int .i64 FF) ∧ w'.cell? ⟨b, off + j * 3, none⟩ = some (.string ⟨e.1.toArray⟩) ∧ w'.cell? ⟨b, off + j * 3 + 1, none⟩ = some (.string ⟨e.2.1.toArray⟩) ∧ w'.cell? ⟨b, off + j * 3 + 2, none⟩ = some (.int .i64 e.2.2)) (first | exact ⟨cb, c2, c1, d0, d1, d2⟩ | exact HK1.out | go_keep)
    (first
      | (go_at_call 45
         refine (mleafD_any _ p t.1 t.2.1 e HBD.out (HX.out.1 e (List.mem_of_getElem? HE.out)) (by have := HX.out.2.2.2; omega)).mono ?_
         rintro e1 w1 hA
         obtain ⟨d, O', rfl, hA2⟩ := (Asked.back (below_drew w) hA).goes
         have HA := hideIt hA2
         have HK1 : Hid (w1.cell? ⟨qb, 0, none⟩ = some (.pointer (some ⟨p, 0, none⟩)) ∧ w1.cell? ⟨qp, 2, none⟩ = some (.slice (some ⟨b, off, none⟩) L.length cap) ∧ w1.cell? ⟨qp, 1, none⟩ = some (.int .i64 FF) ∧ w1.cell? ⟨b, off + j * 3, none⟩ = some (.string ⟨e.1.toArray⟩) ∧ w1.cell? ⟨b, off + j * 3 + 1, none⟩ = some (.string ⟨e.2.1.toArray⟩) ∧ w1.cell? ⟨b, off + j * 3 + 2, none⟩ = some (.int .i64 e.2.2)) := hideIt ⟨hA2.2.1.cell cb HNO.out.1, hA2.2.1.cell c2 HNO.out.2.1, hA2.2.1.cell c1 HNO.out.2.1, hA2.2.1.cell d0 HNO.out.2.2, hA2.2.1.cell d1 HNO.out.2.2, hA2.2.1.cell d2 HNO.out.2.2⟩
         clear hA hA2))
  all_goals
    go_wp2
    go_ret2
    obtain ⟨g1, g2, g3, g4⟩ := HA.out
    have hno : ¬ Out F L.length lo 1 := by have := HX.out.2; unfold Out; omega
    refine ⟨_, (O', comes t.2.1 (leafT e), t.2.2), rfl, H.out.book g1 g2, GoesX.of g2, by rw [cntN_one hno]; rfl, 1, d, rfl, fits_small g4, Or.inr (Or.inl ⟨hno, rfl, rfl, e, ?_, HX.out.1 e (List.mem_of_getElem? HE.out), g3⟩)⟩
    exact HE.out

theorem GoesX.set (qt : Nat) (w : World) (O : Nat → Prop) (T : List (List UInt8)) (k k' : Nat) (v : Value) : GoesX qt w (O, T, k) (w.setCell ⟨qt, 0, none⟩ v) (O, T, k') 0 :=
  ⟨⟨rfl, rfl, rfl, by rw [size_set]; exact Nat.le_refl _, fun j _ ho => Below.heap_setCell w ⟨qt, 0, none⟩ v j (fun e => ho (Or.inr e))⟩, fun _ hj => Or.inl hj, Exts.refl _, Nat.le_refl _⟩
theorem Bk.set {w : World} {p q : Nat} {O : Nat → Prop} {T : List (List UInt8)} (h : Bk w p O T) (hq : ¬ O q) (v : Value) : Bk (w.setCell ⟨q, 0, none⟩ v) p O T :=
  ⟨h.1.kept (fun k hk _ => Below.heap_setCell w ⟨q, 0, none⟩ v k (fun e => hq (by rw [show k = q from e] at hk; exact hk))), fun k hk => by rw [size_set]; exact h.2 k hk⟩

set_option maxRecDepth 100000 in
set_option maxHeartbeats 8000000 in
theorem mrmB_any (w : World) (p qb qn qp qt F : Nat) (N : Int) (vl vb : Value) (L : List Ent) (Bs : List Int) (t : MadeS) (lo n : Nat) (h : MadeI p qb qn qp qt N F vl vb L Bs w t) (ho : Out F L.length lo n) (hk : t.2.2 + 1 ≤ Bs.length) (hf : ∀ d ∈ Bs, fits d) (hl : Bs.length ≤ 100000) :
    Calls Tryz.prog 54 #[.agg #[.int .i64 lo, .int .i64 n], .pointer (some ⟨qt, 0, none⟩), .pointer (some ⟨qp, 0, none⟩)] w fun e w' => ∃ x t', e = .returned (.tuple #[x, .nilIface]) ∧ MadeP p qb qn qp qt F N vl vb L Bs lo n w t x w' t' := by
  have H := hideIt h
  obtain ⟨ct, cf, _⟩ := h.ct
  obtain ⟨c0, c1, c2, c3⟩ := h.cp.1
  obtain ⟨a, cap, rfl⟩ := NumsIn.form h.tops
  obtain ⟨x, hx⟩ : ∃ x, Bs[t.2.2]? = some x := ⟨Bs[t.2.2], by simp [show t.2.2 < Bs.length by omega]⟩
  obtain ⟨b, off, rfl, hnb, d0⟩ := NumsIn.at h.tops hx
  have hne1 : qp ≠ qt := fun e => h.cp.2 (Or.inr e)
  have hne2 : b ≠ qt := fun e => hnb.2 (Or.inr e)
  have hx2 : x ∈ Bs := List.mem_of_getElem? hx
  have HX := hideIt (And.intro hx (And.intro ho (And.intro hk (hf x hx2))))
  obtain ⟨O, T, k⟩ := t
  simp only at *
  have k1 : (k : Int) < (Bs.length : Int) := by omega
  obtain ⟨W, hW, hwb⟩ : ∃ W, W = w.alloc (.cells #[.int .i64 lo, .int .i64 n] 61) ∧ Below w.heap.size w W := ⟨_, rfl, (Below.refl _ _).alloc (Nat.le_refl _) _⟩
  have ct1 := (hwb.cell (lt_of_cell ct)).trans ct
  have cf1 := (World.frozen?_of_block (a := ⟨qt, 0, none⟩) (hwb.block qt (lt_of_cell ct))).trans cf
  have c31 := (hwb.cell (lt_of_cell c3)).trans c3
  have d01 := (hwb.cell (lt_of_cell d0)).trans d0
  have HI := hideIt (H.out.next hwb)
  have e1 : (W.setCell ⟨qt, 0, none⟩ (.int .i64 ((k : Int) + 1))).cell? ⟨qt, 0, none⟩ = some (.int .i64 ((k : Int) + 1)) := World.cell?_setCell_same _ _ _ ct1
  have e2 : (W.setCell ⟨qt, 0, none⟩ (.int .i64 ((k : Int) + 1))).cell? ⟨qp, 3, none⟩ = some (.slice (some ⟨b, off, none⟩) Bs.length cap) := by rw [World.cell?_setCell_other _ _ _ _ (by simp)]; exact c31
  have e3 : (W.setCell ⟨qt, 0, none⟩ (.int .i64 ((k : Int) + 1))).cell? ⟨b, off + k, none⟩ = some (.int .i64 x) := by rw [World.cell?_setCell_other _ _ _ _ (fun e => hne2 (congrArg Addr.block e).symm)]; exact d01
  have HWB := hideIt hwb
  clear h hwb ct cf c0 c1 c2 c3 hx hnb d0 hk hf ho hx2
  subst hW
  go_enter Tryz.func54, Tryz.ntmps54
  go_wp2
  go_ret2
  generalize w.alloc (.cells #[.int .i64 lo, .int .i64 n] 61) = W at HI HWB ct1 cf1 e1 ⊢
  have hg := GoesX.set qt W O T k (k + 1) (.int .i64 ((k : Int) + 1))
  have hc := cntN_out HX.out.2.1
  refine ⟨.int .i64 x, (O, T, k + 1), rfl, HI.out.goes hg (HI.out.bk.set HI.out.ct.2.2 _) ⟨e1, by rw [World.frozen?_setCell]; exact cf1, HI.out.ct.2.2⟩ HX.out.2.2.1, ?_, by rw [hc], 1, x, rfl, HX.out.2.2.2, Or.inl ⟨HX.out.2.1, ?_⟩⟩
  · exact (Goes.pre HWB.out hg).more (Nat.zero_le _)
  · have hk := (List.getElem?_eq_some_iff.1 HX.out.1)
    obtain ⟨hk1, hk2⟩ := hk
    rw [List.drop_eq_getElem_cons hk1, hk2]
end Go.Proofs.YtmhbfplaglipnaaGreatDoor
