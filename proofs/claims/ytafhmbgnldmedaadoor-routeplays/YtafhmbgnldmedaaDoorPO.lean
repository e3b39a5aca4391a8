/-
  What is proved here: the document's is, at, Owner, One (cohortref09), told; over this program.
-/
import Derived.Test.YtafhmbgnldmedaaDoorPL
import Derived.Test.YtafhmbgnldmedaaDoorSame
import Derived.Deep.RegionWith
namespace Go.Proofs.YtafhmbgnldmedaaDoor
open Go.RowKit Go.Extern.Stop Go.Stop Go.Extern

set_option maxHeartbeats 4000000 in
theorem dris_any (fk tk : List UInt8) (w : World) : Calls Tryd.prog 31 #[.string ⟨fk.toArray⟩, .string ⟨tk.toArray⟩] w fun e w' => e = .returned (.bool (rangeB fk tk)) ∧ w' = w := by
  have q1 := leq_iff tk fk
  obtain ⟨b, hb⟩ : ∃ b, b = rangeB fk tk := ⟨_, rfl⟩
  rw [← hb]
  unfold rangeB at hb
  by_cases h1 : (fk.length : Int) ≤ 16
  case neg =>
    rw [decide_eq_false (show ¬ fk.length ≤ 16 by omega)] at hb
    simp at hb
    subst hb
    go_enter Tryd.func31, Tryd.ntmps31
    go_wp2
    go_ret
    exact ⟨rfl, rfl⟩
  rw [decide_eq_true (show fk.length ≤ 16 by omega)] at hb
  cases h2 : (tk == []) with
  | true =>
    rw [h2] at hb
    simp at hb
    subst hb
    go_enter Tryd.func31, Tryd.ntmps31
    go_wp2
    go_ret
    exact ⟨rfl, rfl⟩
  | false =>
    rw [h2] at hb
    cases h3 : Op.bytesLess fk tk with
    | false =>
      rw [h3] at hb q1
      simp at hb
      subst hb
      go_enter Tryd.func31, Tryd.ntmps31
      go_wp2
      go_ret
      exact ⟨rfl, rfl⟩
    | true =>
      rw [h3] at hb q1
      by_cases h4 : (tk.length : Int) ≤ 16
      · rw [decide_eq_true (show tk.length ≤ 16 by omega)] at hb
        simp at hb
        subst hb
        go_enter Tryd.func31, Tryd.ntmps31
        go_wp2
        go_ret
        exact ⟨rfl, rfl⟩
      · rw [decide_eq_false (show ¬ tk.length ≤ 16 by omega)] at hb
        simp at hb
        subst hb
        go_enter Tryd.func31, Tryd.ntmps31
        go_wp2
        go_ret
        exact ⟨rfl, rfl⟩
/-- of the first k pieces the last one that begins at the key or below stands at m -/
def AtK (l : List Pc) (key : List UInt8) (k m : Nat) : Prop := (k = 0 ∧ m = 0) ∨ (m < k ∧ ∀ j x, j < k → l[j]? = some x → (j ≤ m ↔ ¬ kLt key x.1))
theorem at_yes {l : List Pc} {key : List UInt8} {k : Nat} {x : Pc} (hl : Lin l) (hx : l[k]? = some x) (hk : ¬ kLt key x.1) : AtK l key (k + 1) k := by
  refine Or.inr ⟨by omega, fun j y hj hy => ⟨fun _ => ?_, fun _ => by omega⟩⟩
  by_cases e : j = k
  · subst e; rw [hx] at hy; cases hy; exact hk
  · exact fun h => hk (kLt_trans h (hl.rise.at (by omega) hy hx))
theorem at_no {l : List Pc} {key : List UInt8} {k m : Nat} {x : Pc} (hl : Lin l) (h : AtK l key k m) (hx : l[k]? = some x) (hk : kLt key x.1) : AtK l key (k + 1) m := by
  rcases h with ⟨rfl, rfl⟩ | ⟨h1, h2⟩
  · have := hl.first x hx
    rw [this] at hk; exact absurd hk (kLt_nil _)
  · refine Or.inr ⟨by omega, fun j y hj hy => ?_⟩
    by_cases e : j = k
    · subst e; rw [hx] at hy; cases hy
      exact ⟨fun h => by omega, fun h => absurd hk h⟩
    · exact h2 j y (by omega) hy
theorem at_end {l : List Pc} {key : List UInt8} {m : Nat} (hl : Lin l) (h : AtK l key l.length m) : HoldIs l key m := by
  rcases h with ⟨h1, _⟩ | ⟨h1, h2⟩
  · exact absurd (List.eq_nil_of_length_eq_zero h1) hl.one
  · exact ⟨h1, fun j x hj hx => (h2 j x (List.getElem?_eq_some_iff.1 hx).1 hx).1 hj, fun j x hj hx => Classical.byContradiction fun c => by
      have := (h2 j x (List.getElem?_eq_some_iff.1 hx).1 hx).2 c; omega⟩
set_option maxRecDepth 100000 in
set_option maxHeartbeats 4000000 in
theorem drat_any (w : World) (p : Nat) (A : Nat → Prop) (l : List Pc) (key : List UInt8) (h : Rt w p A l) (hlin : Lin l) (hl : l.length ≤ 100000) :
    Calls Tryd.prog 30 #[.pointer (some ⟨p, 0, none⟩), .string ⟨key.toArray⟩] w fun e w' => ∃ a : Nat, e = .returned (.int .i64 a) ∧ HoldIs l key a ∧ Below w.heap.size w w' := by
  have HRT := hideIt h
  have HLIN := hideIt hlin
  obtain ⟨v, c0, _, hv, _⟩ := h
  obtain ⟨a, cap, rfl⟩ := hv.1.form
  have HV := hideIt hv.1
  have HC0 := hideIt c0
  clear hv hlin
  go_enter Tryd.func30, Tryd.ntmps30
  go_wp2
  go_loopw [5, 6] (fun nv i wr => ∃ k m : Nat, k ≤ l.length ∧ i = .int .i64 k ∧ nv = .int .i64 m ∧ Hid (AtK l key k m) ∧ Hid (Below w.heap.size w wr)) (fun _ i _ => l.length - (intOf i).toNat)
  case atStart => exact ⟨0, 0, Nat.zero_le _, rfl, rfl, Or.inl ⟨rfl, rfl⟩, Below.refl _ _⟩
  case round =>
    obtain ⟨k, m, hk, rfl, rfl, HK, HB⟩ := hrel
    have c0 := (HB.out.cell (lt_of_cell HC0.out)).trans HC0.out
    by_cases hlt : k < l.length
    · obtain ⟨x, hx⟩ : ∃ x, l[k]? = some x := ⟨l[k], by simp [hlt]⟩
      obtain ⟨b, off, rfl, _, d0, _, _⟩ := PcsIn.at (RowIn.kept HV.out (Kept.of_all HB.out)) hx
      have q1 := leq_iff x.1 key
      have HX := hideIt hx
      clear hx
      cases g1 : Op.bytesLess key x.1 with
      | true =>
        rw [g1] at q1
        have HN := hideIt (at_no HLIN.out HK.out HX.out g1)
        go_wp2
        exact ⟨⟨k + 1, m, by omega, by go_num, rfl, HN, HB⟩, by simp [intOf]; omega⟩
      | false =>
        rw [g1] at q1
        have HN := hideIt (at_yes HLIN.out HX.out (fun h => by unfold kLt at h; rw [g1] at h; cases h))
        go_wp2
        exact ⟨⟨k + 1, k, by omega, by go_num, rfl, HN, HB⟩, by simp [intOf]; omega⟩
    · obtain rfl : k = l.length := by omega
      have HN := hideIt (at_end HLIN.out HK.out)
      go_wp2
      go_ret
      exact ⟨m, rfl, HN.out, HB.out⟩
set_option maxRecDepth 100000 in
set_option maxHeartbeats 4000000 in
theorem drOwner_any (w : World) (p : Nat) (A : Nat → Prop) (l : List Pc) (key : List UInt8) (h : Rt w p A l) (hlin : Lin l) (hl : l.length ≤ 100000) :
    Calls Tryd.prog 20 #[.pointer (some ⟨p, 0, none⟩), .string ⟨key.toArray⟩] w fun e w' => ∃ x : Pc, e = .returned (pcV x) ∧ OwnIs l key x ∧ Below w.heap.size w w' := by
  obtain ⟨W, hW, hwb, hws, z0, z1, z2⟩ := room3 w 39 (.string ⟨#[]⟩) (.int .i64 0) (.int .i64 0)
  have hzf := fun j => (show W.frozen? ⟨w.heap.size, j, none⟩ = false by rw [hW]; exact World.frozen?_alloc_at _ _ _ _ rfl)
  have hrt := h.next hwb
  obtain ⟨v, c0, _, hv, _⟩ := h.next hwb
  have HC := hideIt (fun (W2 : World) (h2 : Below W.heap.size W W2) => drat_any W2 p A l key (hrt.next h2) hlin hl)
  have HV := hideIt hv.1
  obtain ⟨a, cap, rfl⟩ := hv.1.form
  have HB := hideIt hwb
  have HZ := hideIt (And.intro hzf (And.intro z0 (And.intro z1 z2)))
  have HC0 := hideIt c0
  clear hv hrt h hwb z0 z1 z2 hzf hlin
  have hwl : w.heap.size < W.heap.size := by omega
  go_enter Tryd.func20, Tryd.ntmps20
  go_wp2_with fail
  rw [← hW]
  clear hW
  have HBD : Hid (Below W.heap.size W W.drew) := hideIt (Below.refl _ _).drew
  go_region_with (go_at_call 30
                  refine (HC.out _ HBD.out).mono ?_
                  rintro e w3 ⟨i, rfl, hh, hb3⟩
                  have hb := HBD.out.trans hb3
                  obtain ⟨x, hx⟩ : ∃ x, l[i]? = some x := ⟨l[i]'hh.1, by simp [hh.1]⟩
                  have HX := hideIt (show OwnIs l key x from ⟨i, hh, hx⟩)
                  have hil : (i : Int) < (l.length : Int) := by have := hh.1; omega
                  obtain ⟨b, off, rfl, _, e0, e1, e2⟩ := PcsIn.at (RowIn.kept HV.out (Kept.of_all hb)) hx
                  have hblk : w3.heap[w.heap.size]? = W.heap[w.heap.size]? := hb.block _ hwl
                  have y0 := (World.cell?_of_block (a := ⟨w.heap.size, 0, none⟩) hblk).trans HZ.out.2.1
                  have y1 := (World.cell?_of_block (a := ⟨w.heap.size, 1, none⟩) hblk).trans HZ.out.2.2.1
                  have y2 := (World.cell?_of_block (a := ⟨w.heap.size, 2, none⟩) hblk).trans HZ.out.2.2.2
                  have f0 := (World.frozen?_of_block (a := ⟨w.heap.size, 0, none⟩) hblk).trans (HZ.out.1 0)
                  have f1 := (World.frozen?_of_block (a := ⟨w.heap.size, 1, none⟩) hblk).trans (HZ.out.1 1)
                  have f2 := (World.frozen?_of_block (a := ⟨w.heap.size, 2, none⟩) hblk).trans (HZ.out.1 2)
                  have g0 := (hb.cell (lt_of_cell HC0.out)).trans HC0.out
                  have HPUT := hideIt (room3_put w3 w.heap.size _ _ _ (.string ⟨x.1.toArray⟩) (.int .i64 x.2.1) (.int .i64 x.2.2) ⟨y0, y1, y2⟩)
                  have HB3 := hideIt (HB.out.trans (hb.mono HB.out.size))
                  clear hh hx hblk hb hb3)
  all_goals
    go_wp2
    obtain ⟨⟨v0, v1, v2⟩, hgr⟩ := HPUT.out
    generalize ((w3.setCell ⟨w.heap.size, 0, none⟩ (.string ⟨x.1.toArray⟩)).setCell ⟨w.heap.size, 1, none⟩ (.int .i64 x.2.1)).setCell ⟨w.heap.size, 2, none⟩ (.int .i64 x.2.2) = W4 at v0 v1 v2 hgr ⊢
    refine bodyPost_ret (v := pcV x) (by simp [results, Tryd.results20, go_sem, v0, v1, v2, pcV]) rfl ?_
    exact ⟨x, rfl, HX.out, HB3.out.grown hgr HB3.out.size (fun k hk => by cases hk; exact Nat.le_refl _)⟩
set_option maxRecDepth 100000 in
set_option maxHeartbeats 4000000 in
theorem drOne_any (w : World) (p : Nat) (A : Nat → Prop) (l : List Pc) (fk tk : List UInt8) (h : Rt w p A l) (hlin : Lin l) (hl : l.length ≤ 100000) :
    Calls Tryd.prog 14 #[.pointer (some ⟨p, 0, none⟩), .string ⟨fk.toArray⟩, .string ⟨tk.toArray⟩] w fun e w' => ∃ (x : Pc) (is : Bool), e = .returned (.tuple #[pcV x, .bool is]) ∧ OneIs l fk tk x is ∧ Below w.heap.size w w' := by
  obtain ⟨W, hW, hwb, hws, z0, z1, z2⟩ := room3 w 39 (.string ⟨#[]⟩) (.int .i64 0) (.int .i64 0)
  have hzf := fun j => (show W.frozen? ⟨w.heap.size, j, none⟩ = false by rw [hW]; exact World.frozen?_alloc_at _ _ _ _ rfl)
  obtain ⟨v, c0, _, hv, _⟩ := h.next hwb
  obtain ⟨x0, hx0⟩ : ∃ x0, l[0]? = some x0 := ⟨l[0]'(List.length_pos_iff.2 hlin.one), by simp [List.length_pos_iff.2 hlin.one]⟩
  obtain ⟨a, cap, rfl⟩ := hv.1.form
  have hcap := hv.2 _ _ rfl
  obtain ⟨g, off, rfl, _, _, _, _⟩ := PcsIn.at hv.1 hx0
  have HV := hideIt hv.1
  have HLIN := hideIt hlin
  have HB := hideIt hwb
  have HISR := hideIt (dris_any fk tk W)
  obtain ⟨rb, hrb⟩ : ∃ rb, rb = rangeB fk tk := ⟨_, rfl⟩
  rw [← hrb] at HISR
  have HRB := hideIt hrb
  have HAT := hideIt (drat_any W p A l fk (h.next hwb) hlin hl)
  have HZ := hideIt (And.intro hzf (And.intro z0 (And.intro z1 z2)))
  have HC0 := hideIt c0
  have hwl : w.heap.size < W.heap.size := by omega
  clear hv h hwb hlin hx0 hrb z0 z1 z2 hzf c0
  go_enter Tryd.func14, Tryd.ntmps14
  go_wp2_with fail
  rw [← hW]
  clear hW
  refine HAT.out.mono ?_
  rintro e w1 ⟨i, rfl, hi, hb1⟩
  have HI := hideIt hi
  have HB1 := hideIt (HB.out.trans (hb1.mono HB.out.size))
  have HV1 := hideIt (RowIn.kept HV.out (Kept.of_all hb1))
  have g0 := (hb1.cell (lt_of_cell HC0.out)).trans HC0.out
  have hblk : w1.heap[w.heap.size]? = W.heap[w.heap.size]? := hb1.block _ hwl
  have y0 := (World.cell?_of_block (a := ⟨w.heap.size, 0, none⟩) hblk).trans HZ.out.2.1
  have y1 := (World.cell?_of_block (a := ⟨w.heap.size, 1, none⟩) hblk).trans HZ.out.2.2.1
  have y2 := (World.cell?_of_block (a := ⟨w.heap.size, 2, none⟩) hblk).trans HZ.out.2.2.2
  have f0 := (World.frozen?_of_block (a := ⟨w.heap.size, 0, none⟩) hblk).trans (HZ.out.1 0)
  have f1 := (World.frozen?_of_block (a := ⟨w.heap.size, 1, none⟩) hblk).trans (HZ.out.1 1)
  have f2 := (World.frozen?_of_block (a := ⟨w.heap.size, 2, none⟩) hblk).trans (HZ.out.1 2)
  have HPUT0 := hideIt (room3_put w1 w.heap.size _ _ _ (.string ⟨#[]⟩) (.int .i64 0) (.int .i64 0) ⟨y0, y1, y2⟩)
  have hil : (i : Int) < (l.length : Int) := by have := hi.1; omega
  have HIS := hideIt (dris_any fk tk w1)
  rw [HRB.out.symm] at HIS
  clear hi hb1 hblk HISR
  cases rb with
  | false =>
    have HN : Hid (OneIs l fk tk zeroP false) := hideIt (Or.inr ⟨rfl, fun hh => (by have := rangeB_iff.2 hh.1; rw [← HRB.out] at this; cases this), rfl⟩)
    go_wp2_with fail
    refine HIS.out.mono ?_
    rintro e w2 ⟨rfl, rfl⟩
    go_wp2
    obtain ⟨⟨v0, v1, v2⟩, hgr⟩ := HPUT0.out
    generalize (((w2.setCell ⟨w.heap.size, 0, none⟩ (.string ⟨#[]⟩)).setCell ⟨w.heap.size, 1, none⟩ (.int .i64 0)).setCell ⟨w.heap.size, 2, none⟩ (.int .i64 0)) = W4 at v0 v1 v2 hgr ⊢
    refine bodyPost_ret (v := .tuple #[pcV zeroP, .bool false]) (by simp [results, Tryd.results14, go_sem, v0, v1, v2, pcV, zeroP]) rfl ?_
    exact ⟨zeroP, false, rfl, HN.out, HB1.out.grown hgr HB1.out.size (fun k hk => by cases hk; exact Nat.le_refl _)⟩
  | true =>
    have HR := hideIt (rangeB_iff.1 HRB.out.symm)
    obtain ⟨x, hx⟩ : ∃ x, l[i]? = some x := ⟨l[i]'HI.out.1, by simp [HI.out.1]⟩
    have HX := hideIt (show OwnIs l fk x from ⟨i, HI.out, hx⟩)
    obtain ⟨_, _, e9, _, e0, e1, e2⟩ := PcsIn.at HV1.out hx
    cases e9
    have HPUT := hideIt (room3_put w1 w.heap.size _ _ _ (.string ⟨x.1.toArray⟩) (.int .i64 x.2.1) (.int .i64 x.2.2) ⟨y0, y1, y2⟩)
    have hl63 : IntKind.i64.wrap ((i : Int) + 1) = (i : Int) + 1 := by simp [IntKind.wrap, IntKind.bits, IntKind.signed]; omega
    clear hx
    go_wp2_with fail
    refine HIS.out.mono ?_
    rintro e w2 ⟨rfl, rfl⟩
    by_cases hn : i + 1 < l.length
    · obtain ⟨y, hy⟩ : ∃ y, l[i + 1]? = some y := ⟨l[i + 1], by simp [hn]⟩
      obtain ⟨_, _, e9, _, d0, _, _⟩ := PcsIn.at HV1.out hy
      cases e9
      have HY := hideIt hy
      have hni : (i : Int) + 1 < (l.length : Int) := by omega
      have hfy : kLt fk y.1 := HI.out.2.2 _ y (by omega) hy
      have HFY := hideIt hfy
      clear hy hfy
      cases ht : (tk == []) with
      | true =>
        have htk : tk = [] := by simpa using ht
        have HN : Hid (OneIs l fk tk zeroP false) := hideIt (Or.inr ⟨rfl, fun hh => hh.2 y (List.mem_of_getElem? HY.out) HFY.out (Or.inl htk), rfl⟩)
        clear htk
        go_wp2
        obtain ⟨⟨v0, v1, v2⟩, hgr⟩ := HPUT0.out
        generalize (((w2.setCell ⟨w.heap.size, 0, none⟩ (.string ⟨#[]⟩)).setCell ⟨w.heap.size, 1, none⟩ (.int .i64 0)).setCell ⟨w.heap.size, 2, none⟩ (.int .i64 0)) = W4 at v0 v1 v2 hgr ⊢
        refine bodyPost_ret (v := .tuple #[pcV zeroP, .bool false]) (by simp [results, Tryd.results14, go_sem, v0, v1, v2, pcV, zeroP]) rfl ?_
        exact ⟨zeroP, false, rfl, HN.out, HB1.out.grown hgr HB1.out.size (fun k hk => by cases hk; exact Nat.le_refl _)⟩
      | false =>
        cases hy2 : Op.bytesLess y.1 tk with
        | true =>
          have HN : Hid (OneIs l fk tk zeroP false) := hideIt (Or.inr ⟨rfl, fun hh => hh.2 y (List.mem_of_getElem? HY.out) HFY.out (Or.inr hy2), rfl⟩)
          go_wp2
          obtain ⟨⟨v0, v1, v2⟩, hgr⟩ := HPUT0.out
          generalize (((w2.setCell ⟨w.heap.size, 0, none⟩ (.string ⟨#[]⟩)).setCell ⟨w.heap.size, 1, none⟩ (.int .i64 0)).setCell ⟨w.heap.size, 2, none⟩ (.int .i64 0)) = W4 at v0 v1 v2 hgr ⊢
          refine bodyPost_ret (v := .tuple #[pcV zeroP, .bool false]) (by simp [results, Tryd.results14, go_sem, v0, v1, v2, pcV, zeroP]) rfl ?_
          exact ⟨zeroP, false, rfl, HN.out, HB1.out.grown hgr HB1.out.size (fun k hk => by cases hk; exact Nat.le_refl _)⟩
        | false =>
          have HN : Hid (OneIs l fk tk x true) := hideIt (Or.inl ⟨rfl, HR.out, fun q hq hfq hqt => (by
            obtain ⟨j, hj⟩ := List.getElem?_of_mem hq
            have hji : i < j := Classical.byContradiction fun c => HI.out.2.1 j q (by omega) hj hfq
            have hyq : ¬ kLt q.1 y.1 := by
              by_cases e : i + 1 = j
              · subst e; rw [HY.out] at hj; cases hj; exact kLt_irrefl _
              · exact kLt_asymm (HLIN.out.rise.at (by omega) HY.out hj)
            rcases hqt with h | h
            · rw [h] at ht; simp at ht
            · have := kLe_lt hyq h
              unfold kLt at this; rw [hy2] at this; cases this), HX.out⟩)
          go_wp2
          obtain ⟨⟨v0, v1, v2⟩, hgr⟩ := HPUT.out
          generalize (((w2.setCell ⟨w.heap.size, 0, none⟩ (.string ⟨x.1.toArray⟩)).setCell ⟨w.heap.size, 1, none⟩ (.int .i64 x.2.1)).setCell ⟨w.heap.size, 2, none⟩ (.int .i64 x.2.2)) = W4 at v0 v1 v2 hgr ⊢
          refine bodyPost_ret (v := .tuple #[pcV x, .bool true]) (by simp [results, Tryd.results14, go_sem, v0, v1, v2, pcV]) rfl ?_
          exact ⟨x, true, rfl, HN.out, HB1.out.grown hgr HB1.out.size (fun k hk => by cases hk; exact Nat.le_refl _)⟩
    · have hni : ¬ (i : Int) + 1 < (l.length : Int) := by omega
      have HN : Hid (OneIs l fk tk x true) := hideIt (Or.inl ⟨rfl, HR.out, fun q hq hfq hqt => (by
        obtain ⟨j, hj⟩ := List.getElem?_of_mem hq
        have h1 := (List.getElem?_eq_some_iff.1 hj).1
        exact HI.out.2.1 j q (by omega) hj hfq), HX.out⟩)
      go_wp2
      obtain ⟨⟨v0, v1, v2⟩, hgr⟩ := HPUT.out
      generalize (((w2.setCell ⟨w.heap.size, 0, none⟩ (.string ⟨x.1.toArray⟩)).setCell ⟨w.heap.size, 1, none⟩ (.int .i64 x.2.1)).setCell ⟨w.heap.size, 2, none⟩ (.int .i64 x.2.2)) = W4 at v0 v1 v2 hgr ⊢
      refine bodyPost_ret (v := .tuple #[pcV x, .bool true]) (by simp [results, Tryd.results14, go_sem, v0, v1, v2, pcV]) rfl ?_
      exact ⟨x.1, x.2.1, x.2.2, Or.inr ⟨rfl, HN.out, HB1.out.grown hgr HB1.out.size (fun k hk => by cases hk; exact Nat.le_refl _)⟩⟩
set_option maxRecDepth 100000 in
set_option maxHeartbeats 8000000 in
theorem told9_one (v : Value) (n : Int) (k : Int) (w0 w : World) (h : At w0 n v [(routeS, k)] w) (hn : (n == 0) = false) : Calls Tryd.prog 12 #[v, .int .i64 n, .int .i64 k] w fun e w' => e = .returned (.bool true) ∧ Below w.heap.size w w' := by
  have HA1 := hideIt h
  obtain ⟨ty, y, rfl⟩ := h.ch.iface
  clear h
  go_enter Tryd.func12, Tryd.ntmps12
  go_wp2_with fail
  refine HA1.out.code.mono ?_
  rintro e w2 ⟨rfl, HA2, HB2⟩
  go_wp2_with fail
  refine (HA2.out.trail (by simp)).mono ?_
  rintro e w3 ⟨a3, cap3, rfl, HS3, HA3, HB3⟩
  have HB4 : Hid (Below w.heap.size w w3) := HB2.out.trans (HB3.out.mono HB2.out.size)
  have hab : Below w3.heap.size w3 (w3.alloc (.cells #[.string ⟨#[114, 111, 117, 116, 101]⟩, .int .i64 k] 66)) := (Below.refl _ _).alloc (Nat.le_refl _) _
  have hlit := lit_steps w3 routeS k
  unfold routeS at hlit HS3
  have HL := hideIt (And.intro (HS3.out.kept hab) (And.intro hlit hab))
  clear hab hlit
  go_wp2_with fail
  refine (Same_true _ _ _ _ [(⟨#[114, 111, 117, 116, 101]⟩, k)] _ HL.out.1 HL.out.2.1 (by simp)).mono ?_
  rintro e w4 ⟨rfl, b4⟩
  have HB5 : Hid (Below w.heap.size w w4) := HB4.out.trans ((HL.out.2.2.trans (b4.mono (by simp))).mono HB4.out.size)
  clear b4
  go_wp2
  go_ret
  exact ⟨rfl, HB5.out⟩
theorem told9_none (k : Int) (w : World) : Calls Tryd.prog 12 #[.nilIface, .int .i64 0, .int .i64 k] w fun e w' => e = .returned (.bool true) ∧ Below w.heap.size w w' := by
  go_enter Tryd.func12, Tryd.ntmps12
  go_wp2
  go_ret
  exact ⟨rfl, Below.refl _ _⟩
end Go.Proofs.YtafhmbgnldmedaaDoor
