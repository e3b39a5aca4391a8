/-
  What is proved here: route's within, One; over this program.
-/
import Derived.Test.YtafhmbgnldmedaaDoorPF
namespace Go.Proofs.YtafhmbgnldmedaaDoor
open Go.RowKit Go.Extern.Stop Go.Stop Go.Extern

/-- the place behind the last piece of a range -/
def EndIs (l : List Pc) (tk : List UInt8) (b : Nat) : Prop := (tk = [] ∧ b = l.length) ∨ (tk ≠ [] ∧ FindIs (fun x => !(Op.bytesLess x.1 tk)) l b)
theorem end_le {l : List Pc} {tk : List UInt8} {b : Nat} (h : EndIs l tk b) : b ≤ l.length := by
  rcases h with ⟨_, rfl⟩ | ⟨_, h⟩
  · exact Nat.le_refl _
  · exact h.1
theorem end_up {l : List Pc} {tk : List UInt8} {b j : Nat} {x : Pc} (h : EndIs l tk b) (hj : b ≤ j) (hx : l[j]? = some x) : tk ≠ [] ∧ ¬ kLt x.1 tk := by
  rcases h with ⟨_, rfl⟩ | ⟨h0, h⟩
  · have := (List.getElem?_eq_some_iff.1 hx).1; omega
  · refine ⟨h0, fun hk => ?_⟩
    have h1 : (!(Op.bytesLess x.1 tk)) = true := h.2.2 j x hj hx
    rw [show Op.bytesLess x.1 tk = true from hk] at h1; cases h1
theorem end_low {l : List Pc} {tk : List UInt8} {b j : Nat} {x : Pc} (h : EndIs l tk b) (hj : j < b) (hx : l[j]? = some x) : tk = [] ∨ kLt x.1 tk := by
  rcases h with ⟨h0, rfl⟩ | ⟨h0, h⟩
  · exact Or.inl h0
  · refine Or.inr ?_
    have h1 : (!(Op.bytesLess x.1 tk)) = false := h.2.1 j x hj hx
    cases h2 : Op.bytesLess x.1 tk with
    | true => exact h2
    | false => rw [h2] at h1; cases h1
theorem hold_end {l : List Pc} {fk tk : List UInt8} {a b : Nat} (hr : IsRange fk tk) (ha : HoldIs l fk a) (hb : EndIs l tk b) : a < b := by
  refine Classical.byContradiction fun h => ?_
  have hx := List.getElem?_eq_getElem ha.1
  obtain ⟨h1, h2⟩ := end_up hb (show b ≤ a by omega) hx
  rcases hr.2 with h3 | ⟨h3, _⟩
  · exact h1 h3
  · exact h2 (kLe_lt (ha.2.1 a _ (Nat.le_refl _) hx) h3)
theorem alone_iff {l : List Pc} {fk tk : List UInt8} {a b : Nat} (ha : HoldIs l fk a) (hb : EndIs l tk b) (hab : a < b) : b - a ≤ 1 ↔ Alone l fk tk := by
  constructor
  · intro h q hq hf ht
    obtain ⟨j, hj⟩ := List.getElem?_of_mem hq
    by_cases hja : j ≤ a
    · exact ha.2.1 j q hja hj hf
    · obtain ⟨h1, h2⟩ := end_up hb (show b ≤ j by omega) hj
      rcases ht with ht | ht
      · exact h1 ht
      · exact h2 ht
  · intro h
    refine Classical.byContradiction fun h2 => ?_
    have hl := end_le hb
    have hx := List.getElem?_eq_getElem (show a + 1 < l.length by omega)
    exact h _ (List.mem_of_getElem? hx) (ha.2.2 _ _ (by omega) hx) (end_low hb (by omega) hx)

set_option maxRecDepth 100000 in
set_option maxHeartbeats 4000000 in
theorem rqwithin_any (w : World) (A : Nat → Prop) (g off cap : Nat) (l : List Pc) (fk tk : List UInt8) (hv : PcsIn w A (.slice (some ⟨g, off, none⟩) l.length cap) l) (hcap : l.length ≤ cap) (hlin : Lin l) (hl : l.length ≤ 100000) (hr : IsRange fk tk) :
    Calls Tryd.prog 29 #[.slice (some ⟨g, off, none⟩) l.length cap, .string ⟨fk.toArray⟩, .string ⟨tk.toArray⟩] w fun e w' => ∃ a b : Nat, HoldIs l fk a ∧ EndIs l tk b ∧ a < b ∧ e = .returned (.slice (some ⟨g, off + a * 3, none⟩) (b - a) (cap - a)) ∧ Below w.heap.size w w' := by
  obtain ⟨W, hW⟩ : ∃ W, W = w.alloc (.cells #[.string ⟨tk.toArray⟩] 9) := ⟨_, rfl⟩
  have hbb : Below w.heap.size w W := by rw [hW]; exact (Below.refl _ _).alloc (Nat.le_refl _) _
  have c1 : W.cell? ⟨w.heap.size, 0, none⟩ = some (.string ⟨tk.toArray⟩) := by rw [hW, cell_box]
  have HC := hideIt (rqholder_any W A _ l fk (RowIn.kept hv (Kept.of_all hbb)) hlin hl)
  have HF := hideIt (fun (W2 : World) (h2 : Below W.heap.size W W2) => rqfind_any 49 #[.pointer (some ⟨w.heap.size, 0, none⟩)] _ W2 A _ l (RowIn.kept hv (Kept.of_all (hbb.trans (h2.mono hbb.size)))) (tells_from tk _ W2 ((h2.cell (lt_of_cell c1)).trans c1)) hl (fun i j a b hij ha hb h => by
    by_cases e : i = j
    · subst e; rw [ha] at hb; cases hb; exact h
    · have h3 : ¬ kLt a.1 tk := fun hk => by
        have h4 : (!(Op.bytesLess a.1 tk)) = true := h
        rw [show Op.bytesLess a.1 tk = true from hk] at h4; cases h4
      have h5 : ¬ kLt b.1 tk := fun hk => h3 (kLt_trans (hlin.rise.at (by omega) ha hb) hk)
      show (!(Op.bytesLess b.1 tk)) = true
      rw [bl_false h5]; rfl))
  have HR := hideIt hr
  have HB := hideIt hbb
  have HC1 := hideIt c1
  have HWW := hideIt hW
  clear hv hlin hr hbb hW c1
  go_enter Tryd.func29, Tryd.ntmps29
  go_wp2_with fail
  rw [← HWW.out]
  refine HC.out.mono ?_
  rintro e w1 ⟨a, rfl, ha, hb1⟩
  have HA := hideIt ha
  have HB1 := hideIt hb1
  have d1 := (hb1.cell (lt_of_cell HC1.out)).trans HC1.out
  have ha1 := ha.1
  clear ha hb1
  cases ht : (tk == []) with
  | true =>
    have htk : tk = [] := by simpa using ht
    have HE : Hid (EndIs l tk l.length) := hideIt (Or.inl ⟨htk, rfl⟩)
    have k1 : ((l.length : Int) - (a : Int)) = ((l.length - a : Nat) : Int) := by omega
    go_wp2
    go_ret
    exact ⟨a, l.length, HA.out, HE.out, ha1, rfl, HB.out.trans (HB1.out.mono HB.out.size)⟩
  | false =>
    have htk : tk ≠ [] := by simpa using ht
    have HT := hideIt htk
    clear htk
    go_wp2_with fail
    refine (HF.out w1 HB1.out).mono ?_
    rintro e w2 ⟨b, rfl, hf, hb2⟩
    have HE : Hid (EndIs l tk b) := hideIt (Or.inr ⟨HT.out, hf⟩)
    have hab := hold_end HR.out HA.out HE.out
    have hbl := end_le HE.out
    have HB2 := hideIt (HB.out.trans ((HB1.out.trans (hb2.mono HB1.out.size)).mono HB.out.size))
    have k1 : (a : Int) ≤ (b : Int) := by omega
    have k2 : (b : Int) ≤ (cap : Int) := by omega
    have k3 : ((b : Int) - (a : Int)) = ((b - a : Nat) : Int) := by omega
    clear hf hb2
    go_wp2
    go_ret
    exact ⟨a, b, HA.out, HE.out, hab, rfl, HB2.out⟩

set_option maxRecDepth 100000 in
set_option maxHeartbeats 4000000 in
theorem rqOne_any (w : World) (p : Nat) (A : Nat → Prop) (l : List Pc) (fk tk : List UInt8) (h : Rt w p A l) (hlin : Lin l) (hl : l.length ≤ 100000) :
    Calls Tryd.prog 13 #[.pointer (some ⟨p, 0, none⟩), .string ⟨fk.toArray⟩, .string ⟨tk.toArray⟩] w fun e w' => ∃ (x : Pc) (is : Bool), e = .returned (.tuple #[pcV x, .bool is]) ∧ OneIs l fk tk x is ∧ Below w.heap.size w w' := by
  obtain ⟨W, hW, hwb, hws, z0, z1, z2⟩ := room3 w 39 (.string ⟨#[]⟩) (.int .i64 0) (.int .i64 0)
  have hzf := fun j => (show W.frozen? ⟨w.heap.size, j, none⟩ = false by rw [hW]; exact World.frozen?_alloc_at _ _ _ _ rfl)
  obtain ⟨v, c0, _, hv, _⟩ := h.next hwb
  obtain ⟨x0, hx0⟩ : ∃ x0, l[0]? = some x0 := ⟨l[0]'(List.length_pos_iff.2 hlin.one), by simp [List.length_pos_iff.2 hlin.one]⟩
  obtain ⟨a, cap, rfl⟩ := hv.1.form
  have hcap := hv.2 _ _ rfl
  obtain ⟨g, off, rfl, _, _, _, _⟩ := PcsIn.at hv.1 hx0
  have HV := hideIt hv.1
  have HLIN := hideIt hlin
  have HB := hideIt hwb
  have HPUT0 := hideIt (room3_put W w.heap.size _ _ _ (.string ⟨#[]⟩) (.int .i64 0) (.int .i64 0) ⟨z0, z1, z2⟩)
  have HISR := hideIt (rqisRange_any fk tk W)
  obtain ⟨rb, hrb⟩ : ∃ rb, rb = rangeB fk tk := ⟨_, rfl⟩
  rw [← hrb] at HISR
  have HRB := hideIt hrb
  have f0 := hzf 0
  have f1 := hzf 1
  have f2 := hzf 2
  have hwl : w.heap.size < W.heap.size := by omega
  clear hv h hwb hlin hx0 hrb
  cases rb with
  | false =>
    have HN : Hid (OneIs l fk tk zeroP false) := hideIt (Or.inr ⟨rfl, fun hh => (by have := rangeB_iff.2 hh.1; rw [← HRB.out] at this; cases this), rfl⟩)
    go_enter Tryd.func13, Tryd.ntmps13
    go_wp2_with fail
    rw [← hW]
    clear hW
    refine HISR.out.mono ?_
    rintro e w1 ⟨rfl, rfl⟩
    go_wp2
    obtain ⟨⟨v0, v1, v2⟩, hgr⟩ := HPUT0.out
    generalize (((w1.setCell ⟨w.heap.size, 0, none⟩ (.string ⟨#[]⟩)).setCell ⟨w.heap.size, 1, none⟩ (.int .i64 0)).setCell ⟨w.heap.size, 2, none⟩ (.int .i64 0)) = W4 at v0 v1 v2 hgr ⊢
    refine bodyPost_ret (v := .tuple #[pcV zeroP, .bool false]) (by simp [results, Tryd.results13, go_sem, v0, v1, v2, pcV, zeroP]) rfl ?_
    exact ⟨_, _, rfl, HN.out, HB.out.grown hgr HB.out.size (fun k hk => by cases hk; exact Nat.le_refl _)⟩
  | true =>
    have HR := hideIt (rangeB_iff.1 HRB.out.symm)
    have HWI := hideIt (rqwithin_any W A g off cap l fk tk HV.out hcap HLIN.out hl HR.out)
    have HC0 := hideIt c0
    have HZ := hideIt (And.intro hzf (And.intro z0 (And.intro z1 z2)))
    go_enter Tryd.func13, Tryd.ntmps13
    go_wp2_with fail
    rw [← hW]
    clear hW
    refine HISR.out.mono ?_
    rintro e w1 ⟨rfl, rfl⟩
    go_wp2_with fail
    refine HWI.out.mono ?_
    rintro e w2 ⟨i, j, hi, hj, hij, rfl, hb2⟩
    have HI := hideIt (And.intro hi (And.intro hj (And.intro hij hb2)))
    have hblk : w2.heap[w.heap.size]? = w1.heap[w.heap.size]? := hb2.block _ hwl
    have y0 := (World.cell?_of_block (a := ⟨w.heap.size, 0, none⟩) hblk).trans HZ.out.2.1
    have y1 := (World.cell?_of_block (a := ⟨w.heap.size, 1, none⟩) hblk).trans HZ.out.2.2.1
    have y2 := (World.cell?_of_block (a := ⟨w.heap.size, 2, none⟩) hblk).trans HZ.out.2.2.2
    have f0 := (World.frozen?_of_block (a := ⟨w.heap.size, 0, none⟩) hblk).trans (HZ.out.1 0)
    have f1 := (World.frozen?_of_block (a := ⟨w.heap.size, 1, none⟩) hblk).trans (HZ.out.1 1)
    have f2 := (World.frozen?_of_block (a := ⟨w.heap.size, 2, none⟩) hblk).trans (HZ.out.1 2)
    have HB2 := hideIt (HB.out.trans (hb2.mono HB.out.size))
    clear hi hj hblk z0 z1 z2 c0
    by_cases h1 : j - i ≤ 1
    · obtain ⟨x, hx⟩ : ∃ x, l[i]? = some x := ⟨l[i]'HI.out.1.1, by simp [HI.out.1.1]⟩
      have HX := hideIt (show OwnIs l fk x from ⟨i, HI.out.1, hx⟩)
      obtain ⟨_, _, e9, _, e0, e1, e2⟩ := PcsIn.at (RowIn.kept HV.out (Kept.of_all hb2)) hx
      cases e9
      have hji : j - i = 1 := by omega
      have HN : Hid (OneIs l fk tk x true) := hideIt (Or.inl ⟨rfl, HR.out, (alone_iff HI.out.1 HI.out.2.1 hij).1 h1, HX.out⟩)
      have HPUT := hideIt (room3_put w2 w.heap.size _ _ _ (.string ⟨x.1.toArray⟩) (.int .i64 x.2.1) (.int .i64 x.2.2) ⟨y0, y1, y2⟩)
      rw [hji]
      clear hx hb2 h1 hji hij
      go_wp2
      obtain ⟨⟨v0, v1, v2⟩, hgr⟩ := HPUT.out
      generalize (((w2.setCell ⟨w.heap.size, 0, none⟩ (.string ⟨x.1.toArray⟩)).setCell ⟨w.heap.size, 1, none⟩ (.int .i64 x.2.1)).setCell ⟨w.heap.size, 2, none⟩ (.int .i64 x.2.2)) = W4 at v0 v1 v2 hgr ⊢
      refine bodyPost_ret (v := .tuple #[pcV x, .bool true]) (by simp [results, Tryd.results13, go_sem, v0, v1, v2, pcV]) rfl ?_
      exact ⟨_, _, rfl, HN.out, HB2.out.grown hgr HB2.out.size (fun k hk => by cases hk; exact Nat.le_refl _)⟩
    · have HN : Hid (OneIs l fk tk zeroP false) := hideIt (Or.inr ⟨rfl, fun hh => h1 ((alone_iff HI.out.1 HI.out.2.1 hij).2 hh.2), rfl⟩)
      have HPUT := hideIt (room3_put w2 w.heap.size _ _ _ (.string ⟨#[]⟩) (.int .i64 0) (.int .i64 0) ⟨y0, y1, y2⟩)
      obtain ⟨m, hm⟩ : ∃ m : Nat, m = j - i := ⟨_, rfl⟩
      rw [← hm] at h1 ⊢
      have h2 : (1 : Int) < (m : Int) := by omega
      clear hm hb2 h1 hij
      go_wp2
      obtain ⟨⟨v0, v1, v2⟩, hgr⟩ := HPUT.out
      generalize (((w2.setCell ⟨w.heap.size, 0, none⟩ (.string ⟨#[]⟩)).setCell ⟨w.heap.size, 1, none⟩ (.int .i64 0)).setCell ⟨w.heap.size, 2, none⟩ (.int .i64 0)) = W4 at v0 v1 v2 hgr ⊢
      refine bodyPost_ret (v := .tuple #[pcV zeroP, .bool false]) (by simp [results, Tryd.results13, go_sem, v0, v1, v2, pcV, zeroP]) rfl ?_
      exact ⟨_, _, rfl, HN.out, HB2.out.grown hgr HB2.out.size (fun k hk => by cases hk; exact Nat.le_refl _)⟩
end Go.Proofs.YtafhmbgnldmedaaDoor
