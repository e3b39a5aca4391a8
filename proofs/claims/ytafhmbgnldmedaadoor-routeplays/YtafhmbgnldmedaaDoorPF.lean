/-
  What is proved here: a route in memory: Of, Pieces, Owner, within, One; over this program.
-/
import Derived.Test.YtafhmbgnldmedaaDoorPD
import Derived.Test.YtafhmbgnldmedaaDoorPE
namespace Go.Proofs.YtafhmbgnldmedaaDoor
open Go.RowKit Go.Extern.Stop Go.Stop Go.Extern

theorem own_in {w : World} {B e size : Nat} {v : Value} {n : Nat} {cs : List Value} (h : w.ownsRow B e size v n cs) : RowIn w (fun k => v.ownBlock = some k) v n cs := by
  have hc := h
  obtain ⟨h1, h2⟩ := h
  rcases h2 with ⟨rfl, h3⟩ | ⟨g, cap, cur, rfl, hg, hh, r⟩
  · subst h3
    have : cs = [] := List.eq_nil_of_length_eq_zero (by simpa using h1)
    exact ⟨none, 0, rfl, fun _ => ⟨rfl, rfl, this⟩, fun k x hx => by rw [this] at hx; simp at hx⟩
  · refine ⟨some ⟨g, 0, none⟩, cap, rfl, (fun e => nomatch e), fun k x hx => ⟨g, 0, rfl, rfl, ?_⟩⟩
    have := hc.cells (g := g) rfl k x hx
    rw [addr_add] at this; exact this
theorem own_mono {w : World} {B B' e size n : Nat} {v : Value} {xs : List Value} (h : w.ownsRow B e size v n xs) (hb : B' ≤ B) : w.ownsRow B' e size v n xs := by
  obtain ⟨h1, h2⟩ := h
  refine ⟨h1, ?_⟩
  rcases h2 with h2 | ⟨g, cap, cur, e1, e2, e3⟩
  · exact Or.inl h2
  · exact Or.inr ⟨g, cap, cur, e1, Nat.le_trans hb e2, e3⟩
/-- a result room of three cells, written -/
theorem room3_put (w : World) (q : Nat) (x y z X Y Z : Value) (h : w.cell? ⟨q, 0, none⟩ = some x ∧ w.cell? ⟨q, 1, none⟩ = some y ∧ w.cell? ⟨q, 2, none⟩ = some z) :
    let W := ((w.setCell ⟨q, 0, none⟩ X).setCell ⟨q, 1, none⟩ Y).setCell ⟨q, 2, none⟩ Z
    (W.cell? ⟨q, 0, none⟩ = some X ∧ W.cell? ⟨q, 1, none⟩ = some Y ∧ W.cell? ⟨q, 2, none⟩ = some Z) ∧ w.grownBy W (some q) := by
  obtain ⟨c0, c1, c2⟩ := h
  intro W
  refine ⟨⟨?_, ?_, ?_⟩, grown_set (grown_set (grown_set (grown_refl _ _) _ _) _ _) _ _⟩
  · rw [World.cell?_setCell_other _ _ _ _ (by simp), World.cell?_setCell_other _ _ _ _ (by simp)]
    exact World.cell?_setCell_same _ _ _ c0
  · rw [World.cell?_setCell_other _ _ _ _ (by simp)]
    exact World.cell?_setCell_same _ _ _ (by rw [World.cell?_setCell_other _ _ _ _ (by simp)]; exact c1)
  · exact World.cell?_setCell_same _ _ _ (by rw [World.cell?_setCell_other _ _ _ _ (by simp), World.cell?_setCell_other _ _ _ _ (by simp)]; exact c2)

/-- a slice of pieces whose cap is no less than its length -/
def PcsC (w : World) (A : Nat → Prop) (v : Value) (l : List Pc) : Prop := PcsIn w A v l ∧ ∀ a cap, v = .slice a l.length cap → l.length ≤ cap
/-- a Route at p with the pieces l, which lie in blocks of A -/
def Rt (w : World) (p : Nat) (A : Nat → Prop) (l : List Pc) : Prop :=
  ∃ v, w.cell? ⟨p, 0, none⟩ = some v ∧ w.frozen? ⟨p, 0, none⟩ = false ∧ PcsC w A v l ∧ ¬ A p
theorem Rt.lt {w : World} {p : Nat} {A : Nat → Prop} {l : List Pc} (h : Rt w p A l) : p < w.heap.size := by
  obtain ⟨v, h1, _⟩ := h
  exact lt_of_cell (a := ⟨p, 0, none⟩) h1
theorem Rt.next {w w' : World} {p : Nat} {A : Nat → Prop} {l : List Pc} (h : Rt w p A l) (hb : Below w.heap.size w w') : Rt w' p A l := by
  obtain ⟨v, h1, h2, h3, h4⟩ := h
  exact ⟨v, (hb.cell (lt_of_cell h1)).trans h1, (World.frozen?_of_block (a := ⟨p, 0, none⟩) (hb.block p (lt_of_cell h1))).trans h2, ⟨RowIn.kept h3.1 (Kept.of_all hb), h3.2⟩, h4⟩
theorem Rt.grown {w w' : World} {p q : Nat} {A : Nat → Prop} {l : List Pc} (h : Rt w p A l) (hg : w.grownBy w' (some q)) (hq : q ≠ p) (hA : ¬ A q) : Rt w' p A l := by
  obtain ⟨v, h1, h2, h3, h4⟩ := h
  have hb := hg.block p (lt_of_cell (a := ⟨p, 0, none⟩) h1) (fun e => hq (by cases e; rfl))
  exact ⟨v, (World.cell?_of_block (a := ⟨p, 0, none⟩) hb).trans h1, (World.frozen?_of_block (a := ⟨p, 0, none⟩) hb).trans h2, ⟨RowIn.kept h3.1 (Kept.of_grown hg hA), h3.2⟩, h4⟩
theorem Rt.mono {w : World} {p : Nat} {A A' : Nat → Prop} {l : List Pc} (h : Rt w p A l) (hA : ∀ k, A k → k < w.heap.size → A' k) (hp : ¬ A' p) : Rt w p A' l := by
  obtain ⟨v, h1, h2, h3, h4⟩ := h
  exact ⟨v, h1, h2, ⟨RowIn.mono h3.1 hA, h3.2⟩, hp⟩
theorem own_capC {w : World} {B e size : Nat} {v : Value} {n : Nat} {xs : List Value} (h : w.ownsRow B e size v n xs) : ∀ a cap, v = .slice a n cap → n ≤ cap := by
  intro a cap hv
  obtain ⟨a', cap', e1, h1⟩ := own_cap h
  rw [e1] at hv; cases hv; exact h1
/-- a new route -/
def NewRt (w w' : World) (p : Nat) (l : List Pc) : Prop := w.heap.size ≤ p ∧ Rt w' p (fun k => w.heap.size ≤ k ∧ k ≠ p) l ∧ Below w.heap.size w w'
theorem new_rt (w w1 : World) (t : TypeId) (l : List Pc) (v : Value) (ho : w1.ownsRow w.heap.size 39 3 v l.length (pcsCells l)) (hb : Below w.heap.size w w1) : NewRt w (w1.alloc (.cells #[v] t)) w1.heap.size l := by
  have hb2 := (Below.refl w1.heap.size w1).alloc (Nat.le_refl _) (.cells #[v] t)
  refine ⟨hb.size, ⟨v, by rw [World.cell?_alloc_at _ _ _ _ rfl]; rfl, World.frozen?_alloc_at _ _ _ _ rfl, ⟨?_, own_capC ho⟩, fun h => h.2 rfl⟩, hb.trans (hb2.mono hb.size)⟩
  refine RowIn.kept (RowIn.mono (own_in ho) (fun k hk hl => ?_)) (Kept.of_all hb2)
  exact ⟨(World.ownsRow.lt ho k hk).1, by omega⟩
/-- what Of comes to -/
def OfPost (w : World) (l : List Pc) (e : Ending) (w' : World) : Prop :=
  ∃ n k, OfIs l n k ∧ ((n ≠ 0 ∧ ∃ er, e = .returned (.tuple #[.pointer none, er]) ∧ One w' (w.heap.size ≤ ·) er n routeS k ∧ Below w.heap.size w w') ∨
    (n = 0 ∧ ∃ p : Nat, e = .returned (.tuple #[.pointer (some ⟨p, 0, none⟩), .nilIface]) ∧ NewRt w w' p l))

set_option maxRecDepth 100000 in
set_option maxHeartbeats 4000000 in
theorem rqOf_any (w : World) (A : Nat → Prop) (v : Value) (l : List Pc) (hv : PcsIn w A v l) (hl : l.length ≤ maxLen) :
    Calls Tryd.prog 10 #[v] w (OfPost w l) := by
  have HV := hideIt (hv.mono (A' := (· < w.heap.size)) (fun _ _ h => h))
  obtain ⟨a, cap, rfl⟩ := hv.form
  clear hv
  unfold maxLen at hl
  by_cases h0 : l.length = 0
  · have hnil : l = [] := List.eq_nil_of_length_eq_zero h0
    subst hnil
    go_enter Tryd.func10, Tryd.ntmps10
    go_wp2_with fail
    refine (rqwrong_any w 1 0 (by decide)).mono ?_
    rintro e w9 ⟨er, rfl, ho, hb9⟩
    have HO := hideIt (And.intro ho hb9)
    obtain ⟨ty, y, rfl⟩ := ho.iface
    clear ho hb9
    go_wp2
    refine bodyPost_ret (v := .tuple #[.pointer none, .iface ty y]) (by simp [results, Tryd.results10, go_sem]) rfl ?_
    exact ⟨1, 0, Or.inl ⟨rfl, rfl, rfl⟩, Or.inl ⟨by decide, _, rfl, HO.out.1, HO.out.2⟩⟩
  have hne : ((l.length : Int) == 0) = false := by simp only [beq_eq_false_iff_ne, ne_eq]; omega
  have hne2 : l ≠ [] := fun e => h0 (by rw [e]; rfl)
  have HNE := hideIt hne2
  clear hne2 h0
  by_cases h1 : (32 : Int) < (l.length : Int)
  · go_enter Tryd.func10, Tryd.ntmps10
    go_wp2_with fail
    refine (rqwrong_any w 71 l.length (by decide)).mono ?_
    rintro e w9 ⟨er, rfl, ho, hb9⟩
    have HO := hideIt (And.intro ho hb9)
    obtain ⟨ty, y, rfl⟩ := ho.iface
    clear ho hb9
    go_wp2
    refine bodyPost_ret (v := .tuple #[.pointer none, .iface ty y]) (by simp [results, Tryd.results10, go_sem]) rfl ?_
    exact ⟨71, l.length, Or.inr (Or.inl ⟨HNE.out, by omega, rfl, rfl⟩), Or.inl ⟨by decide, _, rfl, HO.out.1, HO.out.2⟩⟩
  · go_enter Tryd.func10, Tryd.ntmps10
    go_wp2
    go_loopw [17] (fun i wr => ∃ k : Nat, k ≤ l.length ∧ i = .int .i64 k ∧ Hid (FitTo l k) ∧ Hid (Below w.heap.size w wr)) (fun i _ => l.length - (intOf i).toNat)
    case atStart => exact ⟨0, Nat.zero_le _, rfl, hideIt (fun j hj => by omega), Below.refl _ _⟩
    case round =>
      obtain ⟨k, hk, rfl, HR, HB⟩ := hrel
      have hsz := HB.out.size
      by_cases hlt : k < l.length
      · obtain ⟨x, hx⟩ : ∃ x, l[k]? = some x := ⟨l[k], by simp [hlt]⟩
        have HVr : Hid (PcsIn wr (· < w.heap.size) (.slice a l.length cap) l) := RowIn.kept HV.out (Kept.of_below HB.out (fun _ h _ => h))
        have HM := hideIt (rqmayBe_any wr _ _ l k x HVr.out hx (by omega))
        clear hx
        go_wp2_with fail
        refine HM.out.mono ?_
        rintro e w2 ⟨b, rfl, hb, hb2⟩
        have HB2 := hideIt (HB.out.trans (hb2.mono HB.out.size))
        have HBI := hideIt hb
        clear hb hb2 HM
        cases b with
        | false =>
          have HN : Hid (¬ MayAt l k) := hideIt (fun h => by have := HBI.out.2 h; cases this)
          go_wp2_with fail
          refine (rqwrong_any w2 1 k (by decide)).mono ?_
          rintro e w9 ⟨er, rfl, ho, hb9⟩
          have HO := hideIt (And.intro (ho.mono (A' := (w.heap.size ≤ ·)) (fun k hk _ => Nat.le_trans HB2.out.size hk)) (HB2.out.trans (hb9.mono HB2.out.size)))
          obtain ⟨ty, y, rfl⟩ := ho.iface
          clear ho hb9
          go_wp2
          refine bodyPost_ret (v := .tuple #[.pointer none, .iface ty y]) (by simp [results, Tryd.results10, go_sem]) rfl ?_
          exact ⟨1, k, Or.inr (Or.inr (Or.inl ⟨HNE.out, by omega, k, hlt, HR.out, HN.out, rfl, rfl⟩)), Or.inl ⟨by decide, _, rfl, HO.out.1, HO.out.2⟩⟩
        | true =>
          have HN : Hid (FitTo l (k + 1)) := hideIt (fun j hj => by
            by_cases e : j = k
            · subst e; exact HBI.out.1 rfl
            · exact HR.out j (by omega))
          go_wp2
          exact ⟨⟨k + 1, by omega, by go_num, HN, HB2⟩, by simp [intOf]; omega⟩
      · have HFT : Hid (FitP l) := hideIt ⟨HNE.out, by omega, by have := HR.out; rw [show k = l.length by omega] at this; exact this⟩
        go_wp2_with fail
        refine (cloneP_any wr _ _ l (RowIn.kept HV.out (Kept.of_below HB.out (fun _ h _ => h))) (by omega)).mono ?_
        rintro e w2 ⟨z, rfl, ho, hb2⟩
        have H := hideIt (new_rt w w2 61 l z (own_mono ho hsz) (HB.out.trans (hb2.mono hsz)))
        obtain ⟨az, cz, rfl⟩ := own_form ho
        clear ho hb2
        go_wp2
        refine bodyPost_ret (v := .tuple #[.pointer (some ⟨w2.heap.size, 0, none⟩), .nilIface]) (by simp [results, Tryd.results10, go_sem]) rfl ?_
        exact ⟨0, 0, Or.inr (Or.inr (Or.inr ⟨HFT.out, rfl, rfl⟩)), Or.inr ⟨rfl, _, rfl, H.out⟩⟩

set_option maxRecDepth 100000 in
set_option maxHeartbeats 4000000 in
theorem rqPieces_any (w : World) (p : Nat) (A : Nat → Prop) (l : List Pc) (h : Rt w p A l) (hl : l.length ≤ 100000) :
    Calls Tryd.prog 18 #[.pointer (some ⟨p, 0, none⟩)] w fun e w' => ∃ z, e = .returned z ∧ w'.ownsRow w.heap.size 39 3 z l.length (pcsCells l) ∧ Below w.heap.size w w' := by
  obtain ⟨v, c0, _, hv, _⟩ := h
  have HC := hideIt (cloneP_any w A v l hv.1 hl)
  obtain ⟨a, cap, rfl⟩ := hv.1.form
  clear hv
  go_enter Tryd.func18, Tryd.ntmps18
  go_wp2_with fail
  refine HC.out.mono ?_
  rintro e w2 ⟨z, rfl, ho, hb2⟩
  have HO := hideIt (And.intro ho hb2)
  obtain ⟨az, cz, rfl⟩ := own_form ho
  clear ho hb2
  go_wp2
  go_ret
  exact ⟨_, rfl, HO.out.1, HO.out.2⟩

set_option maxRecDepth 100000 in
set_option maxHeartbeats 4000000 in
theorem rqOwner_any (w : World) (p : Nat) (A : Nat → Prop) (l : List Pc) (key : List UInt8) (h : Rt w p A l) (hlin : Lin l) (hl : l.length ≤ 100000) :
    Calls Tryd.prog 19 #[.pointer (some ⟨p, 0, none⟩), .string ⟨key.toArray⟩] w fun e w' => ∃ x : Pc, e = .returned (pcV x) ∧ OwnIs l key x ∧ Below w.heap.size w w' := by
  obtain ⟨W, hW, hwb, hws, z0, z1, z2⟩ := room3 w 39 (.string ⟨#[]⟩) (.int .i64 0) (.int .i64 0)
  have hzf := fun j => (show W.frozen? ⟨w.heap.size, j, none⟩ = false by rw [hW]; exact World.frozen?_alloc_at _ _ _ _ rfl)
  obtain ⟨v, c0, _, hv, _⟩ := h.next hwb
  have HC := hideIt (fun (W2 : World) (h2 : Below W.heap.size W W2) => rqholder_any W2 A v l key (RowIn.kept hv.1 (Kept.of_all h2)) hlin hl)
  have HV := hideIt hv.1
  obtain ⟨a, cap, rfl⟩ := hv.1.form
  have HB := hideIt hwb
  have HZ := hideIt (And.intro hzf (And.intro z0 (And.intro z1 z2)))
  have HC0 := hideIt c0
  clear hv h hwb z0 z1 z2 hzf hlin
  have hwl : w.heap.size < W.heap.size := by omega
  go_enter Tryd.func19, Tryd.ntmps19
  go_wp2_with fail
  rw [← hW]
  clear hW
  have HBD : Hid (Below W.heap.size W W.drew) := hideIt (Below.refl _ _).drew
  go_region_with (go_at_call 37
                  refine (HC.out _ HBD.out).mono ?_
                  rintro e w3 ⟨i, rfl, hh, hb3⟩
                  have hb := HBD.out.trans hb3
                  obtain ⟨x, hx⟩ : ∃ x, l[i]? = some x := ⟨l[i]'hh.1, by simp [hh.1]⟩
                  have HX := hideIt (show OwnIs l key x from ⟨i, hh, hx⟩)
                  have hil : (i : Int) < (l.length : Int) := by have := hh.1; omega
                  obtain ⟨b, off, rfl, _, e0, e1, e2⟩ := PcsIn.at (RowIn.kept HV.out (Kept.of_all hb)) hx
                  have hblk : w3.heap[w.heap.size]? = W.heap[w.heap.size]? := hb.block _ hwl
                  have y0 := (World.cell?_of_block (a := ⟨w.heap.size, 0, none⟩) hblk).trans HZ.out.2.1
                  have y1 := (World.cell?_of_block (a := ⟨w.heap.size, 1, none⟩) hblk).trans HZ.out.2.2.1
                  have y2 := (World.cell?_of_block (a := ⟨w.heap.size, 2, none⟩) hblk).trans HZ.out.2.2.2
                  have f0 := (World.frozen?_of_block (a := ⟨w.heap.size, 0, none⟩) hblk).trans (HZ.out.1 0)
                  have f1 := (World.frozen?_of_block (a := ⟨w.heap.size, 1, none⟩) hblk).trans (HZ.out.1 1)
                  have f2 := (World.frozen?_of_block (a := ⟨w.heap.size, 2, none⟩) hblk).trans (HZ.out.1 2)
                  have g0 := (hb.cell (lt_of_cell HC0.out)).trans HC0.out
                  have HPUT := hideIt (room3_put w3 w.heap.size _ _ _ (.string ⟨x.1.toArray⟩) (.int .i64 x.2.1) (.int .i64 x.2.2) ⟨y0, y1, y2⟩)
                  have HB3 := hideIt (HB.out.trans (hb.mono HB.out.size))
                  clear hh hx hblk hb hb3)
  all_goals
    go_wp2
    obtain ⟨⟨v0, v1, v2⟩, hgr⟩ := HPUT.out
    generalize ((w3.setCell ⟨w.heap.size, 0, none⟩ (.string ⟨x.1.toArray⟩)).setCell ⟨w.heap.size, 1, none⟩ (.int .i64 x.2.1)).setCell ⟨w.heap.size, 2, none⟩ (.int .i64 x.2.2) = W4 at v0 v1 v2 hgr ⊢
    refine bodyPost_ret (v := pcV x) (by simp [results, Tryd.results19, go_sem, v0, v1, v2, pcV]) rfl ?_
    exact ⟨x, rfl, HX.out, HB3.out.grown hgr HB3.out.size (fun k hk => by cases hk; exact Nat.le_refl _)⟩
end Go.Proofs.YtafhmbgnldmedaaDoor
