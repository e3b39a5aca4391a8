/-
  What is proved here: the walk of cohortlaw03.BookOwn, over this program.
-/
import Derived.Test.YtongebdafjedjaaDoorBE
namespace Go.Proofs.YtongebdafjedjaaDoor
open Go.RowKit Go.Extern.Stop Go.Stop Go.Extern

theorem infoI : (Tryd.prog.info? 3).map (fun i => (i.zero, i.size, i.bytes)) = some (some (.int .i64 0), 1, 8) := by kernel_rfl

/-- what the digests of the first k texts are: -1 of one that is too long, else its place -/
def Known (l T : List (List UInt8)) (ds : List Int) (k : Nat) : Prop :=
  ds.length = k ∧ ∀ (j : Nat) x, j < k → l[j]? = some x → (ds[j]? = some (-1) ∧ 65536 < x.length) ∨ ∃ d : Nat, ds[j]? = some (d : Int) ∧ T[d]? = some x
theorem Known.long {l T : List (List UInt8)} {ds : List Int} {k : Nat} {x : List UInt8} (h : Known l T ds k) (hx : l[k]? = some x) (hl : 65536 < x.length) : Known l T (ds ++ [-1]) (k + 1) := by
  refine ⟨by simp [h.1], fun j y hj hy => ?_⟩
  by_cases e : j = k
  · subst e
    rw [hx] at hy; cases hy
    exact Or.inl ⟨by rw [← h.1]; simp, hl⟩
  · have hjk : j < k := by omega
    rw [List.getElem?_append_left (by rw [h.1]; exact hjk)]
    exact h.2 j y hjk hy
theorem Known.short {l T : List (List UInt8)} {ds : List Int} {k : Nat} {x : List UInt8} {d : Nat} (h : Known l T ds k) (hx : l[k]? = some x) (hd : (comes T x)[d]? = some x) : Known l (comes T x) (ds ++ [(d : Int)]) (k + 1) := by
  refine ⟨by simp [h.1], fun j y hj hy => ?_⟩
  by_cases e : j = k
  · subst e
    rw [hx] at hy; cases hy
    exact Or.inr ⟨d, by rw [← h.1]; simp, hd⟩
  · have hjk : j < k := by omega
    rw [List.getElem?_append_left (by rw [h.1]; exact hjk)]
    rcases h.2 j y hjk hy with h1 | ⟨d', h1, h2⟩
    · exact Or.inl h1
    · exact Or.inr ⟨d', h1, comes_old h2⟩

theorem own_cell {w : World} {B e : Nat} {v : Value} {n : Nat} {ds : List Int} (h : w.ownsRow B e 1 v n (numCells ds)) {j : Nat} {z : Int} (hz : ds[j]? = some z) : ∃ g cap, v = .slice (some ⟨g, 0, none⟩) n cap ∧ w.cell? ⟨g, j, none⟩ = some (.int .i64 z) ∧ n ≤ cap := by
  have hc := h
  have hj := (List.getElem?_eq_some_iff.1 hz).1
  rcases h.2 with ⟨rfl, e⟩ | ⟨g, cap, cur, rfl, _, _, hle, _⟩
  · have := h.1; simp [numCells] at this; omega
  · have := hc.cells (g := g) rfl j (.int .i64 z) (by simp [numCells, hz])
    rw [addr_add, Nat.zero_add] at this
    exact ⟨g, cap, rfl, this, hle⟩
theorem own_drew {w : World} {B e size n : Nat} {v : Value} {xs : List Value} (h : w.ownsRow B e size v n xs) (m : Nat) : (w.drewN m).ownsRow B e size v n xs := ownsRow_of_block h (fun _ _ => rfl)

set_option maxRecDepth 100000 in
set_option maxHeartbeats 8000000 in
theorem own_true (v : Value) (l : List (List UInt8)) (w : World) (hv : TextsIn w (· < w.heap.size) v l) (hll : l.length ≤ maxLen) (hsz : ∀ x ∈ l, x.length ≤ maxLen) (hg : ET w) (ht : PT w) :
    Calls Tryd.prog 4 #[v] w fun e w' => e = .returned (.bool true) ∧ Below w.heap.size w w' := by
  have HV0 : Hid (Env w w) := ⟨Below.refl _ _, hg, ht⟩
  have HH := hideIt (head03_true w hg ht)
  have HY := hideIt hv
  have HZ := hideIt (And.intro hll hsz)
  obtain ⟨a, cap, rfl⟩ := hv.form
  obtain ⟨i0, hi, hi2⟩ := Option.map_eq_some_iff.1 infoI
  obtain ⟨hz0, hz1, hz2⟩ : i0.zero = some (.int .i64 0) ∧ i0.size = 1 ∧ i0.bytes = 8 := by
    simp only [Prod.mk.injEq] at hi2; exact hi2
  have HI := hideIt (And.intro hi (And.intro hz0 (And.intro hz1 hz2)))
  clear hg ht hv hll hsz hi2 hi hz0 hz1 hz2
  go_enter Tryd.func4, Tryd.ntmps4
  go_wp2_with fail
  refine HH.out.mono ?_
  rintro e w1 ⟨rfl, hb1⟩
  have HV1 := hideIt (HV0.out.next hb1)
  clear hb1 HH HV0
  go_wp2_with fail
  refine (bNew_any w1).mono ?_
  rintro e w2 ⟨p, rfl, hs, hb⟩
  have HV2 := hideIt (HV1.out.next hb)
  have HS2 := hideIt hs
  have hlo := HV1.out.1.size
  have HY2 := hideIt (HY.out.kept (Kept.of_below HV2.out.1 (fun _ h _ => h)))
  clear hs hb HV1
  go_wp2_with fail
  refine (great03_any _ _ l w2 HY2.out HZ.out.1 HZ.out.2).mono ?_
  rintro e w3 ⟨⟨g, rfl, hgr⟩, rfl⟩
  cases g with
  | true =>
    go_wp2
    go_ret
    exact ⟨rfl, HV2.out.1⟩
  | false =>
    have HGR := hideIt (hgr rfl).2
    have hl3 : l.length ≤ 300 := (hgr rfl).1
    clear hgr
    go_wp2
    go_loopw [5, 6] (fun al i wr => ∃ (k : Nat) (O : Nat → Prop) (T : List (List UInt8)) (ds : List Int) (aa : Option Addr) (ac : Nat), k ≤ l.length ∧ i = .int .i64 k ∧ al = .slice aa k ac ∧ T.length ≤ k ∧ Hid (BookSt wr p O T) ∧ Hid (∀ j, O j → w.heap.size ≤ j ∧ j < wr.heap.size) ∧ Hid (Env w wr) ∧ Hid (wr.ownsRow w.heap.size 3 1 (.slice aa k ac) k (numCells ds)) ∧ Hid (∀ g, Value.ownBlock (.slice aa k ac) = some g → ¬ O g) ∧ Hid (Known l T ds k)) (fun _ i _ => l.length - (intOf i).toNat)
    case atStart => exact ⟨0, _, [], [], none, 0, Nat.zero_le _, rfl, rfl, Nat.le_refl _, HS2.out, fun j hj => ⟨by have := hj.1; omega, hj.2⟩, HV2.out, World.ownsRow_nil _ _ _ 1, (fun g hg => nomatch hg), ⟨rfl, fun j x hj => by omega⟩⟩
    case round =>
      clear HS2 HV2 hlo HY2
      obtain ⟨k, O, T, ds, aa, ac, hk, rfl, rfl, hTk, HS, HO, HV, HR, HD, HK⟩ := hrel
      by_cases hlt : k < l.length
      · obtain ⟨x, hx⟩ : ∃ x, l[k]? = some x := ⟨l[k], by simp [hlt]⟩
        have hy := HY.out.kept (Kept.of_below HV.out.1 (fun _ h _ => h))
        obtain ⟨b, off, u, rfl, hbw, c0, y0⟩ := hy.at hx
        have hx3 := HGR.out x (List.mem_of_getElem? hx)
        have HX := hideIt hx
        have HY0 := hideIt y0
        have HBW := hideIt hbw
        obtain ⟨a1, cap1, rfl, _⟩ := y0.form
        have hwr : w.heap.size ≤ wr.heap.size := HV.out.1.size
        clear hx hy y0 hbw
        by_cases hlong : (65536 : Int) < (x.length : Int)
        · go_wp2_with fail
          refine (bDigest_long _ p O _ T _ x HS.out HY0.out (by omega) (by unfold maxLen; omega)).mono ?_
          rintro e w4 ⟨er, rfl, ho, hb4⟩
          obtain ⟨ty, y, rfl⟩ := ho.iface
          have HV4 := hideIt (HV.out.next hb4)
          have HS4 := hideIt (HS.out.kept (Kept.of_all hb4))
          have HR4 : Hid (w4.ownsRow w.heap.size 3 1 (.slice aa k ac) k (numCells ds)) := ownsRow_of_block HR.out (fun g hg => hb4.block g (ownsRow_lt HR.out hg))
          have c4 : w4.cell? ⟨b, off + k, none⟩ = some (.slice a1 x.length cap1) := (hb4.cell (lt_of_cell c0)).trans c0
          have hs4 := hb4.size
          clear ho hb4 c0
          go_wp2_with (at_builtin; refine wpList_append_own_at _ rfl _ _ 23 rfl w.heap.size 3 i0 (.int .i64 0) 1 8 Tryd.underlying23 HI.out.1 HI.out.2.1 HI.out.2.2.1 HI.out.2.2.2 rfl (by decide) _ _ _ rfl (HR4.out.alloc _) ⟨w4.heap.size, 0, none⟩ 1 1 [.int .i64 (-1)] rfl rfl ?k1 ?k2 ?k3 ?k4 ?k5 ?_)
          case k1 => exact cell_one_new _ _ _
          case k2 => intro u hu; simp at hu; subst hu; rfl
          case k3 => unfold maxLen; omega
          case k4 => omega
          case k5 => simp; omega
          intro v' w5 hown' hgrow _ hat
          have hgr := hgrow.size
          simp at hgr
          have HG5 := hideIt (grown_trans (World.grownBy_alloc w4 _ _) hgrow)
          have HO5 : Hid (w5.ownsRow w.heap.size 3 1 v' (k + 1) (numCells (ds ++ [-1]))) := hideIt (by simpa [numCells] using hown')
          have HAT := hideIt hat
          obtain ⟨a', cap', hv'⟩ := own_form hown'
          subst hv'
          clear hown' hgrow hat
          go_wp2
          have hk5 : Kept O w4 w5 := fun j hj hl => HG5.out.block j hl (fun e => HD.out j e.symm hj)
          refine ⟨⟨k + 1, O, T, ds ++ [-1], a', cap', by omega, by go_num, rfl, by omega, HS4.out.kept hk5, fun j hj => ⟨(HO.out j hj).1, by have := (HO.out j hj).2; omega⟩, ?_, HO5.out, ?_, HK.out.long HX.out (by omega)⟩, by simp [intOf]; omega⟩
          · exact ⟨HV4.out.1.trans ⟨HG5.out.os, HG5.out.tape, HG5.out.output, HG5.out.size, fun j hj => HG5.out.block j (by omega) (fun e => by have := (HR4.out.lt j e.symm).1; omega)⟩, HV4.out.2⟩
          · intro g hg ho
            rcases HAT.out with e | e
            · rw [e] at hg; exact HD.out g hg ho
            · rw [e] at hg; simp at hg; have := (HO.out g ho).2; omega
        · have hT6 : T.length < 65536 := by omega
          go_wp2_with fail
          refine (bDigest_ok _ p O _ T _ x HS.out HY0.out (by omega) hT6).mono ?_
          rintro e w4 ⟨d, O', rfl, hd, hs4, ht4, ho4⟩
          have hcl := comes_le T x
          have HKN := hideIt (HK.out.short HX.out hd)
          have hdl : d < (comes T x).length := (List.getElem?_eq_some_iff.1 hd).1
          have HDX := hideIt hd
          generalize comes T x = T' at HKN hs4 hdl hcl HDX
          have HV4 := hideIt (HV.out.turned ht4 (fun k hk => (HO.out k hk).1))
          have HS4 := hideIt hs4
          have HO4 : Hid (∀ j, O' j → w.heap.size ≤ j ∧ j < w4.heap.size) := fun j hj => by
            obtain ⟨h1 | h1, h2⟩ := ho4 j hj
            · exact ⟨(HO.out j h1).1, h2⟩
            · exact ⟨by omega, h2⟩
          have HD4 : Hid (∀ g, Value.ownBlock (.slice aa k ac) = some g → ¬ O' g) := fun g hg ho => by
            obtain ⟨h1 | h1, h2⟩ := ho4 g ho
            · exact HD.out g hg h1
            · have := ownsRow_lt HR.out hg; omega
          have HR4 : Hid (w4.ownsRow w.heap.size 3 1 (.slice aa k ac) k (numCells ds)) := ownsRow_of_block HR.out (fun g hg => ht4.block g (ownsRow_lt HR.out hg) (HD.out g hg))
          have hs4 := ht4.size
          have c4 : w4.cell? ⟨b, off + k, none⟩ = some (.slice a1 x.length cap1) := by
            rw [World.cell?_of_block (a := ⟨b, off + k, none⟩) (HV4.out.1.block b HBW.out), ← World.cell?_of_block (a := ⟨b, off + k, none⟩) (HV.out.1.block b HBW.out)]; exact c0
          clear hd ht4 ho4 c0 HS HO HV HR HD HK
          have hnd : ¬ (T'.length : Int) ≤ (d : Int) := by omega
          have hd0 : ¬ (d : Int) < 0 := by omega
          go_wp2_with fail
          refine (bMany_any _ p O' T' HS4.out).mono ?_
          rintro e w5 ⟨rfl, rfl⟩
          go_wp2_with (at_builtin; refine wpList_append_own_at _ rfl _ _ 23 rfl w.heap.size 3 i0 (.int .i64 0) 1 8 Tryd.underlying23 HI.out.1 HI.out.2.1 HI.out.2.2.1 HI.out.2.2.2 rfl (by decide) _ _ _ rfl (HR4.out.alloc _) ⟨w5.heap.size, 0, none⟩ 1 1 [.int .i64 d] rfl rfl ?k1 ?k2 ?k3 ?k4 ?k5 ?_)
          case k1 => exact cell_one_new _ _ _
          case k2 => intro u hu; simp at hu; subst hu; rfl
          case k3 => unfold maxLen; omega
          case k4 => omega
          case k5 => simp; omega
          intro v' w6 hown' hgrow _ hat
          have hgr := hgrow.size
          simp at hgr
          have HG6 := hideIt (grown_trans (World.grownBy_alloc w5 _ _) hgrow)
          have HO6 : Hid (w6.ownsRow w.heap.size 3 1 v' (k + 1) (numCells (ds ++ [(d : Int)]))) := hideIt (by simpa [numCells] using hown')
          have HD6 : Hid (∀ g, Value.ownBlock v' = some g → ¬ O' g) := by
            intro g hg ho
            rcases hat with e | e
            · rw [e] at hg; exact HD4.out g hg ho
            · rw [e] at hg; simp at hg; have := (HO4.out g ho).2; omega
          have HS6 : Hid (BookSt w6 p O' T') := HS4.out.kept (fun j hj hl => HG6.out.block j hl (fun e => HD4.out j e.symm hj))
          have HV6 : Hid (Env w w6) := ⟨HV4.out.1.trans ⟨HG6.out.os, HG6.out.tape, HG6.out.output, HG6.out.size, fun j hj => HG6.out.block j (by omega) (fun e => by have := (HR4.out.lt j e.symm).1; omega)⟩, HV4.out.2⟩
          obtain ⟨a', cap', hv'⟩ := own_form hown'
          subst hv'
          clear hown' hgrow hat HD4 HS4 HV4 HR4 c4
          go_wp2_with fail
          refine (bText_ok _ p O' T' x d HS6.out HDX.out).mono ?_
          rintro e w7 ⟨cap7, rfl, y7, _, _, hb7⟩
          have HV7 := hideIt (HV6.out.next hb7)
          have HS7 := hideIt (HS6.out.kept (Kept.of_all hb7))
          have HO7 : Hid (w7.ownsRow w.heap.size 3 1 (.slice a' (k + 1) cap') (k + 1) (numCells (ds ++ [(d : Int)]))) := ownsRow_of_block HO6.out (fun g hg => hb7.block g (ownsRow_lt HO6.out hg))
          have hy := HY.out.kept (Kept.of_below HV7.out.1 (fun _ h _ => h))
          obtain ⟨b', off', u', e7, _, c7, y0⟩ := hy.at HX.out
          cases e7
          have hs7 := hb7.size
          have hst1 := fun m => BytesIn.str (RowIn.kept y7 (Kept.of_all (below_drewN w7 m)))
          have hst2 := fun m => BytesIn.str (RowIn.kept y0 (Kept.of_all (below_drewN w7 m)))
          obtain ⟨a2, cap2, rfl, _⟩ := y0.form
          clear HS6 HV6 HO6 y7 hb7 hy y0
          go_wp2
          go_quiet (fail)
          have HV8 := hideIt (HV7.out.next (below_drewN w7 nq))
          have HS8 := hideIt (HS7.out.kept (Kept.of_all (below_drewN w7 nq)))
          have HO8 := hideIt (own_drew HO7.out nq)
          have hs8 : w7.heap.size ≤ (w7.drewN nq).heap.size := (below_drewN w7 nq).size
          generalize w7.drewN nq = w8 at HV8 HS8 HO8 hs8 ⊢
          clear hst1 hst2 HV7 HS7 HO7 c7
          go_wp2
          go_loopw [11] (fun i wq => ∃ j : Nat, j ≤ k ∧ i = .int .i64 j ∧ Hid (BookSt wq p O' T') ∧ Hid (Env w wq) ∧ Hid (wq.ownsRow w.heap.size 3 1 (.slice a' (k + 1) cap') (k + 1) (numCells (ds ++ [(d : Int)]))) ∧ w8.heap.size ≤ wq.heap.size) (fun i _ => k - (intOf i).toNat)
          case atStart => exact ⟨0, Nat.zero_le _, rfl, HS8.out, HV8.out, HO8.out, Nat.le_refl _⟩
          case round =>
            clear HS8 HV8 HO8
            obtain ⟨j, hj, rfl, HS, HV, HR, hsq⟩ := hrel
            by_cases hlj : j < k
            · obtain ⟨z, hz⟩ : ∃ z, l[j]? = some z := ⟨l[j], by simp [show j < l.length by omega]⟩
              have hy := HY.out.kept (Kept.of_below HV.out.1 (fun _ h _ => h))
              obtain ⟨b1, off1, u1, e1, _, c1, y1⟩ := hy.at hz
              cases e1
              obtain ⟨b2, off2, u2, e2, _, c2, y2⟩ := hy.at HX.out
              cases e2
              rcases HKN.out.2 j z (by omega) hz with ⟨hdj, _⟩ | ⟨dj, hdj, htj⟩
              · obtain ⟨g, gc, e3, c3, _⟩ := own_cell HR.out hdj
                simp only [Value.slice.injEq] at e3
                obtain ⟨rfl, _, rfl⟩ := e3
                clear hdj hz hy y1 y2 c1 c2
                go_wp2
                go_quiet (fail)
                have HV9 := hideIt (HV.out.next (below_drewN wr nq))
                have HS9 := hideIt (HS.out.kept (Kept.of_all (below_drewN wr nq)))
                have HO9 := hideIt (own_drew HR.out nq)
                have hs9 : wr.heap.size ≤ (wr.drewN nq).heap.size := (below_drewN wr nq).size
                generalize wr.drewN nq = w9 at HV9 HS9 HO9 hs9 ⊢
                go_wp2
                exact ⟨⟨j + 1, by omega, by go_num, HS9.out, HV9.out, HO9.out, by omega⟩, by simp [intOf]; omega⟩
              · obtain ⟨g, gc, e3, c3, _⟩ := own_cell HR.out hdj
                simp only [Value.slice.injEq] at e3
                obtain ⟨rfl, _, rfl⟩ := e3
                have hst1 := fun m => BytesIn.str (RowIn.kept y1 (Kept.of_all (below_drewN wr m)))
                have hst2 := fun m => BytesIn.str (RowIn.kept y2 (Kept.of_all (below_drewN wr m)))
                obtain ⟨a3, cap3, rfl, _⟩ := y1.form
                obtain ⟨a4, cap4, rfl, _⟩ := y2.form
                have hd0 : ¬ (dj : Int) < 0 := by omega
                have hiff : (dj : Int) = (d : Int) ↔ z = x := by
                  constructor
                  · intro e
                    have e : dj = d := by omega
                    subst e
                    have := HDX.out
                    rw [htj] at this
                    cases this; rfl
                  · rintro rfl
                    have := HS.out.once htj HDX.out
                    omega
                clear hdj htj hz hy y1 y2
                by_cases hzx : z = x
                · have hdd : (dj : Int) = (d : Int) := hiff.2 hzx
                  subst hzx
                  rw [hdd] at c3
                  clear hiff hdd
                  go_wp2
                  go_quiet (fail)
                  have HV9 := hideIt (HV.out.next (below_drewN wr nq))
                  have HS9 := hideIt (HS.out.kept (Kept.of_all (below_drewN wr nq)))
                  have HO9 := hideIt (own_drew HR.out nq)
                  have hs9 : wr.heap.size ≤ (wr.drewN nq).heap.size := (below_drewN wr nq).size
                  generalize wr.drewN nq = w9 at HV9 HS9 HO9 hs9 ⊢
                  go_wp2
                  exact ⟨⟨j + 1, by omega, by go_num, HS9.out, HV9.out, HO9.out, by omega⟩, by simp [intOf]; omega⟩
                · have hdd : ((dj : Int) == (d : Int)) = false := by simp; have := fun e => hzx (hiff.1 e); omega
                  have hss : (z == x) = false := by simp [hzx]
                  clear hiff hzx
                  go_wp2
                  go_quiet (fail)
                  have HV9 := hideIt (HV.out.next (below_drewN wr nq))
                  have HS9 := hideIt (HS.out.kept (Kept.of_all (below_drewN wr nq)))
                  have HO9 := hideIt (own_drew HR.out nq)
                  have hs9 : wr.heap.size ≤ (wr.drewN nq).heap.size := (below_drewN wr nq).size
                  generalize wr.drewN nq = w9 at HV9 HS9 HO9 hs9 ⊢
                  go_wp2
                  exact ⟨⟨j + 1, by omega, by go_num, HS9.out, HV9.out, HO9.out, by omega⟩, by simp [intOf]; omega⟩
            · go_wp2
              refine ⟨⟨k + 1, O', T', ds ++ [(d : Int)], a', cap', by omega, by go_num, rfl, by omega, HS.out, fun j hj => ⟨(HO4.out j hj).1, by have := (HO4.out j hj).2; omega⟩, HV.out, HR.out, HD6.out, HKN.out⟩, by simp [intOf]; omega⟩
      · go_wp2
        go_ret
        exact ⟨rfl, HV.out.1⟩
end Go.Proofs.YtongebdafjedjaaDoor
