/-
  What is proved here: the statement's function cohortlaw02.WireWrites returns true, over this program. Conditions: the Ops lie in memory as slices of them do; the library's variables lie as they are laid.
-/
import Derived.Test.YtaaaibnalhmmgaaDoorWZ2
import Derived.Deep.RegionHeld3
import Derived.Deep.RegionHeldLaw
namespace Go.Proofs.YtaaaibnalhmmgaaDoor
open Go.RowKit Go.Extern.Stop Go.Stop Go.Extern

/-- the blocks that the program's Writer at p may lean on, beside the document's at p + 1, whose bytes are v -/
def AV (p : Nat) (v : Value) (k : Nat) : Prop := k ≠ p ∧ k ≠ p + 1 ∧ v.ownBlock ≠ some k
theorem WSt.mono {w : World} {p : Nat} {A A' : Nat → Prop} {st : List UInt8 × Bool} (h : WSt w p A st) (hA : ∀ k, A k → k < w.heap.size → A' k) : WSt w p A' st := by
  unfold WSt at *
  split
  · rename_i h1; rw [if_pos h1] at h; obtain ⟨v, e1, e2⟩ := h; exact ⟨v, e1, e2.mono hA⟩
  · rename_i h1; rw [if_neg h1] at h; obtain ⟨e0, q, cs, e1, e2, e3, e4, e5⟩ := h; exact ⟨e0, q, cs, e1, e2, e3, e4.mono hA, e5⟩
theorem WSt.after {w w' : World} {p : Nat} {v v' : Value} {st st' : List UInt8 × Bool} (h : WSt w p (AV p v) st) (hd : DSt w (p + 1) v st') (hg : DGrown w w' (p + 1) v v') : WSt w' p (AV p v') st := by
  have h1 : WSt w p (fun k => AV p v k ∧ AV p v' k) st := h.mono (fun k hk hl => ⟨hk, hk.1, hk.2.1, fun e => by
    rcases hg.own with e2 | e2
    · rw [e2] at e; exact hk.2.2 e
    · have := e2 k e; omega⟩)
  refine WSt.mono (h1.kept ?_ ?_) (fun k hk _ => hk.2)
  · exact hg.block p h.lt (by omega) (fun e => by have := (hd.own.lt p e).1; omega)
  · exact fun k hk hl => hg.block k hl hk.1.2.1 hk.1.2.2
theorem Env.dgrown {w0 w w' : World} {p : Nat} {v v' : Value} {st : List UInt8 × Bool} (h : Env w0 w) (hp : w0.heap.size ≤ p) (hd : DSt w (p + 1) v st) (hg : DGrown w w' (p + 1) v v') : Env w0 w' := by
  refine ⟨h.1.trans ⟨hg.os, hg.tape, hg.output, hg.size, fun k hk => hg.block k (Nat.lt_of_lt_of_le hk h.1.size) (by omega) (fun e => by have := (hd.own.lt k e).1; omega)⟩, h.2⟩
theorem fresh_doc (w : World) : DSt (w.alloc (.cells #[.slice none 0 0, .int .i64 0, .int .i64 0] 35)) w.heap.size (.slice none 0 0) ([], false) :=
  ⟨fun j => World.frozen?_alloc_at _ _ _ _ rfl, World.ownsRow_nil _ _ _ _, by rw [World.cell?_alloc_at _ _ _ _ rfl]; rfl, by rw [World.cell?_alloc_at _ _ _ _ rfl]; rfl, 0, by rw [World.cell?_alloc_at _ _ _ _ rfl]; rfl, fun h => by cases h⟩

set_option maxRecDepth 100000 in
set_option maxHeartbeats 8000000 in
theorem law_writes (sl : Value) (l : List OpD) (w : World) (hs : OpsIn w (· < w.heap.size) sl l) (hlen : l.length ≤ maxLen) (hok : ∀ x ∈ l, OpOk x) (hg : ET w) (ht : PT w) :
    Calls Tryd.prog 3 #[sl] w fun e w' => e = .returned (.bool true) ∧ Below w.heap.size w w' := by
  have HH := hideIt (head_true w hg ht)
  have HE := hideIt (And.intro hg ht)
  have HS := hideIt hs
  have HZ := hideIt (And.intro hlen hok)
  obtain ⟨a, cap, rfl, hs0⟩ := hs
  clear hs0
  unfold maxLen at hlen
  clear hg ht hok
  go_enter Tryd.func3, Tryd.ntmps3
  go_wp2_with fail
  refine HH.out.mono ?_
  rintro e w0 ⟨rfl, b0⟩
  have HV0 : Hid (Env w w0) := ⟨b0, HE.out⟩
  have HS0 := hideIt (HS.out.kept (Kept.of_all b0))
  clear b0 HH HE HS
  go_wp2_with fail
  refine (Great_any _ _ l w0 HS0.out HZ.out.1 HZ.out.2).mono ?_
  rintro e w1 ⟨⟨g, rfl, hgr⟩, b1⟩
  have HV1 := hideIt (HV0.out.next b1)
  have HS1 := hideIt (HS0.out.kept (Kept.of_all b1))
  clear b1 HV0 HS0
  cases g
  · have HWT : Hid (opsW l < 400000) := hgr rfl
    clear hgr
    go_wp2
    have hal : Below w1.heap.size w1 (w1.alloc (.cells #[.pointer none, .int .i64 0, .nilIface] 30)) := (Below.refl _ _).alloc (Nat.le_refl _) _
    have hsz1 : (w1.alloc (.cells #[.pointer none, .int .i64 0, .nilIface] 30)).heap.size = w1.heap.size + 1 := by simp
    have hal2 : Below (w1.alloc (.cells #[.pointer none, .int .i64 0, .nilIface] 30)).heap.size (w1.alloc (.cells #[.pointer none, .int .i64 0, .nilIface] 30)) ((w1.alloc (.cells #[.pointer none, .int .i64 0, .nilIface] 30)).alloc (.cells #[.slice none 0 0, .int .i64 0, .int .i64 0] 35)) := (Below.refl _ _).alloc (Nat.le_refl _) _
    have HD2 : Hid (DSt ((w1.alloc (.cells #[.pointer none, .int .i64 0, .nilIface] 30)).alloc (.cells #[.slice none 0 0, .int .i64 0, .int .i64 0] 35)) (w1.heap.size + 1) (.slice none 0 0) ([], false)) := by
      have h := fresh_doc (w1.alloc (.cells #[.pointer none, .int .i64 0, .nilIface] 30))
      rw [hsz1] at h; exact h
    have HW2 : Hid (WSt ((w1.alloc (.cells #[.pointer none, .int .i64 0, .nilIface] 30)).alloc (.cells #[.slice none 0 0, .int .i64 0, .int .i64 0] 35)) w1.heap.size (AV w1.heap.size (.slice none 0 0)) ([], false)) := by
      have h := (fresh_writer w1).mono (A' := AV w1.heap.size (.slice none 0 0)) (fun k hk hl => ⟨hk, by rw [hsz1] at hl; omega, by simp [Value.ownBlock]⟩)
      exact kept_below h hal2
    have HV2 := hideIt ((HV1.out.next hal).next hal2)
    have HS2 := hideIt ((HS1.out.kept (Kept.of_all hal)).kept (Kept.of_all hal2))
    have hpw : w.heap.size ≤ w1.heap.size := HV1.out.1.size
    obtain ⟨p, hp⟩ : ∃ p, p = w1.heap.size := ⟨_, rfl⟩
    have hps : w.heap.size ≤ p := by omega
    have hpl2 : p + 1 < ((w1.alloc (.cells #[.pointer none, .int .i64 0, .nilIface] 30)).alloc (.cells #[.slice none 0 0, .int .i64 0, .int .i64 0] 35)).heap.size := by rw [hp]; simp
    rw [← hp] at HW2 HD2 ⊢
    generalize (w1.alloc (.cells #[.pointer none, .int .i64 0, .nilIface] 30)).alloc (.cells #[.slice none 0 0, .int .i64 0, .int .i64 0] 35) = w2 at HW2 HD2 HV2 HS2 hpl2 ⊢
    clear hal hal2 hsz1 hpw HV1 HS1 hp
    have HRL := hideIt (run_len l HWT.out)
    have HWL := hideIt (fun k => opsW_le_of_take l k)
    go_loopw [6] (fun i wr => ∃ (k : Nat) (st : List UInt8 × Bool) (v : Value), k ≤ l.length ∧ i = .int .i64 k ∧ Hid (st = run (l.take k)) ∧ Hid (WSt wr p (AV p v) st) ∧ Hid (DSt wr (p + 1) v st) ∧ Hid (Env w wr) ∧ Hid (OpsIn wr (· < w.heap.size) (.slice a l.length cap) l) ∧ p + 1 < wr.heap.size) (fun i _ => l.length - (intOf i).toNat)
    case atStart => exact ⟨0, ([], false), _, Nat.zero_le _, rfl, rfl, HW2.out, HD2.out, HV2.out, HS2.out, hpl2⟩
    case round =>
      obtain ⟨k, st, v, hk, rfl, HST, HW, HDd, HV, HSr, hpl⟩ := hrel
      have hstl : st.1.length ≤ 400000 := by
        have h1 := HRL.out k; have h2 := HWL.out k; have h3 := HWT.out
        rw [← HST.out] at h1; omega
      by_cases hlt : k < l.length
      · obtain ⟨x, hx⟩ : ∃ x, l[k]? = some x := ⟨l[k], by simp [hlt]⟩
        obtain ⟨a', cap', e1, hst⟩ := HSr.out
        cases e1
        obtain ⟨b, off, vs, vl, vm, rfl, hbb, c0, c1, c2, c3, c4, y2, y3, y4⟩ := hst k x hx
        have HY2 := hideIt y2
        have HY3 := hideIt y3
        have HY4 := hideIt y4
        obtain ⟨a2, cap2, rfl, _⟩ := y2.form
        obtain ⟨a3, cap3, rfl⟩ := y3.form
        obtain ⟨a4, cap4, rfl⟩ := y4.form
        have HOK := hideIt (HZ.out.2 x (List.mem_of_getElem? hx))
        have HRT := hideIt (run_take l k x hx)
        have hbp : b ≠ p := by omega
        have HAF : Hid (∀ k, wr.heap.size ≤ k → AV p v k) := fun k hk => ⟨by omega, by omega, fun e => by have := (HDd.out.own.lt k e).2; omega⟩
        have HAP : Hid (¬ AV p v p) := fun h => h.1 rfl
        clear hst hx y2 y3 y4
        rcases kinds x.1 with hk0 | hk1 | hk2 | hk3
        · have hand : Go.bits BinOp.and IntKind.i64 x.1 3 = 0 := by rw [and3]; exact hk0
          have HO := hideIt (opO_0 hk0)
          clear hk0
          go_wp2_with fail
          refine (wNum_any p _ st x.2.1 wr HW.out HAF.out HAP.out (by omega)).mono ?_
          rintro e w4 ⟨rfl, h1, h2⟩
          have HW4 : Hid (WSt w4 p (AV p v) (put st (opO x))) := by rw [HO.out]; exact h1
          have HD4 := hideIt (HDd.out.grown h2 (Nat.lt_succ_self p))
          have HV4 := hideIt (HV.out.grown h2 hps)
          have HS4 := hideIt (HSr.out.kept (Kept.of_grown h2 (fun h => by omega)))
          have hs4 := h2.size
          have dd : w4.cell? ⟨b, off + k * 5 + 1, none⟩ = some (.int .i64 x.2.1) := h2.cell c1 (by simpa using hbp)
          clear h1 h2 c0 c1 c2 c3 c4
          go_wp2_with fail
          refine (dNum_any (p + 1) v st x.2.1 w4 HD4.out (by omega)).mono ?_
          rintro e w5 ⟨rfl, v5, hd5, hg5⟩
          have HD5 : Hid (DSt w5 (p + 1) v5 (put st (opO x))) := by rw [HO.out]; exact hd5
          have HW5 := hideIt (HW4.out.after HD4.out hg5)
          have HV5 := hideIt (HV4.out.dgrown hps HD4.out hg5)
          have HS5 := hideIt (HS4.out.kept (fun j hj hl => (hg5.kept HD4.out) j (by have : j < w.heap.size := hj; show j < p + 1; omega) hl))
          have hs5 := hg5.size
          clear hd5 hg5 dd
          go_wp2
          exact ⟨⟨k + 1, _, v5, by omega, by go_num, by rw [HRT.out, ← HST.out]; exact rfl, HW5.out, HD5.out, HV5.out, HS5.out, by omega⟩, by simp [intOf]; omega⟩
        · have hand : Go.bits BinOp.and IntKind.i64 x.1 3 = 1 := by rw [and3]; exact hk1
          have HO := hideIt (opO_1 hk1)
          clear hk1
          go_wp2_with fail
          refine (wText_any p _ _ st _ (OpD.s x) wr HW.out HY2.out HOK.out.2.2.1 HAF.out HAP.out (by omega)).mono ?_
          rintro e w4 ⟨rfl, h1, h2⟩
          have HW4 : Hid (WSt w4 p (AV p v) (put st (opO x))) := by rw [HO.out]; exact h1
          have HD4 := hideIt (HDd.out.grown h2 (Nat.lt_succ_self p))
          have HV4 := hideIt (HV.out.grown h2 hps)
          have HS4 := hideIt (HSr.out.kept (Kept.of_grown h2 (fun h => by omega)))
          have hs4 := h2.size
          have HYd := hideIt (RowIn.mono (RowIn.kept HY2.out (Kept.of_grown h2 (fun h => by omega))) (A' := (· < p + 1)) (fun j hj _ => by have : j < w.heap.size := hj; show j < p + 1; omega))
          have dd : w4.cell? ⟨b, off + k * 5 + 2, none⟩ = some (.slice a2 (OpD.s x).length cap2) := h2.cell c2 (by simpa using hbp)
          clear h1 h2 c0 c1 c2 c3 c4
          go_wp2_with fail
          refine (dText_any (p + 1) v st _ (OpD.s x) w4 HD4.out HYd.out HOK.out.2.2.1 (by omega)).mono ?_
          rintro e w5 ⟨rfl, v5, hd5, hg5⟩
          have HD5 : Hid (DSt w5 (p + 1) v5 (put st (opO x))) := by rw [HO.out]; exact hd5
          have HW5 := hideIt (HW4.out.after HD4.out hg5)
          have HV5 := hideIt (HV4.out.dgrown hps HD4.out hg5)
          have HS5 := hideIt (HS4.out.kept (fun j hj hl => (hg5.kept HD4.out) j (by have : j < w.heap.size := hj; show j < p + 1; omega) hl))
          have hs5 := hg5.size
          clear hd5 hg5 dd
          go_wp2
          exact ⟨⟨k + 1, _, v5, by omega, by go_num, by rw [HRT.out, ← HST.out]; exact rfl, HW5.out, HD5.out, HV5.out, HS5.out, by omega⟩, by simp [intOf]; omega⟩
        · have hand : Go.bits BinOp.and IntKind.i64 x.1 3 = 2 := by rw [and3]; exact hk2
          have HO := hideIt (opO_2 hk2)
          clear hk2
          go_wp2_with fail
          refine (wList_any p _ _ st _ (OpD.l x) wr HW.out HY3.out HOK.out.2.2.2.1.1 HOK.out.2.2.2.1.2 HAF.out HAP.out (by omega)).mono ?_
          rintro e w4 ⟨rfl, h1, h2⟩
          have HW4 : Hid (WSt w4 p (AV p v) (put st (opO x))) := by rw [HO.out]; exact h1
          have HD4 := hideIt (HDd.out.grown h2 (Nat.lt_succ_self p))
          have HV4 := hideIt (HV.out.grown h2 hps)
          have HS4 := hideIt (HSr.out.kept (Kept.of_grown h2 (fun h => by omega)))
          have hs4 := h2.size
          have HYd := hideIt ((HY3.out.kept (Kept.of_grown h2 (fun h => by omega))).mono (A' := (· < p + 1)) (fun j hj _ => by have : j < w.heap.size := hj; show j < p + 1; omega))
          have dd : w4.cell? ⟨b, off + k * 5 + 3, none⟩ = some (.slice a3 (OpD.l x).length cap3) := h2.cell c3 (by simpa using hbp)
          clear h1 h2 c0 c1 c2 c3 c4
          go_wp2_with fail
          refine (dList_any (p + 1) v st _ (OpD.l x) w4 HD4.out HYd.out HOK.out.2.2.2.1.1 HOK.out.2.2.2.1.2 (by omega)).mono ?_
          rintro e w5 ⟨rfl, v5, hd5, hg5⟩
          have HD5 : Hid (DSt w5 (p + 1) v5 (put st (opO x))) := by rw [HO.out]; exact hd5
          have HW5 := hideIt (HW4.out.after HD4.out hg5)
          have HV5 := hideIt (HV4.out.dgrown hps HD4.out hg5)
          have HS5 := hideIt (HS4.out.kept (fun j hj hl => (hg5.kept HD4.out) j (by have : j < w.heap.size := hj; show j < p + 1; omega) hl))
          have hs5 := hg5.size
          clear hd5 hg5 dd
          go_wp2
          exact ⟨⟨k + 1, _, v5, by omega, by go_num, by rw [HRT.out, ← HST.out]; exact rfl, HW5.out, HD5.out, HV5.out, HS5.out, by omega⟩, by simp [intOf]; omega⟩
        · have hand : Go.bits BinOp.and IntKind.i64 x.1 3 = 3 := by rw [and3]; exact hk3
          have HO := hideIt (opO_3 hk3)
          clear hk3
          go_wp2_with fail
          refine (wNums_any p _ _ st _ (OpD.m x) wr HW.out HY4.out HOK.out.2.2.2.2.1 HAF.out HAP.out (by omega)).mono ?_
          rintro e w4 ⟨rfl, h1, h2⟩
          have HW4 : Hid (WSt w4 p (AV p v) (put st (opO x))) := by rw [HO.out]; exact h1
          have HD4 := hideIt (HDd.out.grown h2 (Nat.lt_succ_self p))
          have HV4 := hideIt (HV.out.grown h2 hps)
          have HS4 := hideIt (HSr.out.kept (Kept.of_grown h2 (fun h => by omega)))
          have hs4 := h2.size
          have HYd := hideIt (RowIn.mono (RowIn.kept HY4.out (Kept.of_grown h2 (fun h => by omega))) (A' := (· < p + 1)) (fun j hj _ => by have : j < w.heap.size := hj; show j < p + 1; omega))
          have dd : w4.cell? ⟨b, off + k * 5 + 4, none⟩ = some (.slice a4 (OpD.m x).length cap4) := h2.cell c4 (by simpa using hbp)
          clear h1 h2 c0 c1 c2 c3 c4
          go_wp2_with fail
          refine (dNums_any (p + 1) v st _ (OpD.m x) w4 HD4.out HYd.out HOK.out.2.2.2.2.1 (by omega)).mono ?_
          rintro e w5 ⟨rfl, v5, hd5, hg5⟩
          have HD5 : Hid (DSt w5 (p + 1) v5 (put st (opO x))) := by rw [HO.out]; exact hd5
          have HW5 := hideIt (HW4.out.after HD4.out hg5)
          have HV5 := hideIt (HV4.out.dgrown hps HD4.out hg5)
          have HS5 := hideIt (HS4.out.kept (fun j hj hl => (hg5.kept HD4.out) j (by have : j < w.heap.size := hj; show j < p + 1; omega) hl))
          have hs5 := hg5.size
          clear hd5 hg5 dd
          go_wp2
          exact ⟨⟨k + 1, _, v5, by omega, by go_num, by rw [HRT.out, ← HST.out]; exact rfl, HW5.out, HD5.out, HV5.out, HS5.out, by omega⟩, by simp [intOf]; omega⟩
      · clear HST
        obtain ⟨bs, bad⟩ := st
        simp only at hstl
        cases bad
        · have HW5 : Hid (WOk wr p (AV p v) bs) := HW.out
          go_wp2_with fail
          refine (wBytes_ok p _ bs wr HW5.out (by omega)).mono ?_
          rintro e w5 ⟨v5, rfl, ho5, hb5⟩
          have HV5 := hideIt (HV.out.next hb5)
          have HD5 := hideIt ((HDd.out.next hb5).next (below_drew w5))
          have hy5 : BytesIn w5 (fun _ => True) v5 bs := RowIn.of_own ho5 (fun _ _ => trivial)
          have HY5 := hideIt hy5
          obtain ⟨a5, cap5, rfl⟩ := own_form ho5
          have hst0 := BytesIn.str (RowIn.kept hy5 (Kept.of_all (below_drew w5)))
          obtain ⟨z, hz, _⟩ := HD5.out.c2
          have hz0 : w5.drew.cell? ⟨p + 1, 1, none⟩ = some (.int .i64 0) := HD5.out.c1
          have hpd : p + 1 < w5.drew.heap.size := HD5.out.lt
          clear ho5 hb5 hy5 HW HW5 HV HSr
          go_wp2
          go_region_held_law (fun w' => w'.cell? ⟨p + 1, 1, none⟩ = some (.int .i64 0) ∧ w'.cell? ⟨p + 1, 2, none⟩ = some (.int .i64 z) ∧ (convert 32 9 (.slice a5 bs.length cap5)).run Tryd.prog w' = .ok (.string ⟨bs.toArray⟩) w') (first | exact ⟨hz0, hz, hst0⟩ | exact HK6.out | exact HK7.out | go_keep)
            (first
            | (go_at_call 20; refine (dBytes_ok (p + 1) v bs _ (by exact HD5.out) (by omega)).mono ?_; rintro e w6 ⟨v6, rfl, ho6, hb6⟩; have hy6 : BytesIn w6 (fun _ => True) v6 bs := RowIn.of_own ho6 (fun _ _ => trivial); have HY6 := hideIt (RowIn.kept (RowIn.kept HY5.out (Kept.of_all (below_drew w5))) (Kept.of_all hb6)); have hst2 := BytesIn.str hy6; obtain ⟨a6, cap6, rfl⟩ := own_form ho6; have HK6 := hideIt (And.intro ((hb6.cell (p := ⟨p + 1, 1, none⟩) hpd).trans hz0) (And.intro ((hb6.cell (p := ⟨p + 1, 2, none⟩) hpd).trans hz) (BytesIn.str HY6.out))); have hpd6 : p + 1 < w6.heap.size := Nat.lt_of_lt_of_le hpd hb6.size; have HV6 := hideIt ((HV5.out.next (below_drew w5)).next hb6); clear ho6 hb6 hy6)
            | (go_at_call 21; refine (told_none _ _ _).mono ?_; rintro e w7 ⟨rfl, b7⟩; have HV7 := hideIt (HV6.out.next b7); have HK7 := hideIt (And.intro ((b7.cell (p := ⟨p + 1, 1, none⟩) hpd6).trans HK6.out.1) (And.intro ((b7.cell (p := ⟨p + 1, 2, none⟩) hpd6).trans HK6.out.2.1) (BytesIn.str (RowIn.kept HY6.out (Kept.of_all b7))))); clear b7))
          all_goals
            go_wp2
            go_ret
            exact ⟨by simp, HV7.out.1⟩
        · have HW5 : Hid (WBad wr p (AV p v) bs) := HW.out
          go_wp2_with fail
          refine (wBytes_bad p _ bs wr HW5.out).mono ?_
          rintro e w5 ⟨v5, rfl, ho5, hb5⟩
          have HV5 := hideIt ((HV.out.next hb5).next (below_drew w5))
          have HD5 := hideIt ((HDd.out.next hb5).next (below_drew w5))
          have HA5 := hideIt (HV5.out.at (ho5.kept (Kept.of_all (below_drew w5))))
          obtain ⟨ty, y5, rfl⟩ := ho5.iface
          obtain ⟨z, hz, hzl⟩ := HD5.out.c2
          have hzl2 := hzl rfl
          subst hzl2
          have hz0 : w5.drew.cell? ⟨p + 1, 1, none⟩ = some (.int .i64 2) := HD5.out.c1
          have hpd : p + 1 < w5.drew.heap.size := HD5.out.lt
          clear ho5 hb5 HW HW5 HV HSr hzl
          go_wp2
          have hsn := fun w' => BytesIn.str (BytesIn.nil w' (fun _ => True))
          go_region_held3 (fun w' => w'.cell? ⟨p + 1, 1, none⟩ = some (.int .i64 2) ∧ w'.cell? ⟨p + 1, 2, none⟩ = some (.int .i64 bs.length)) (first | exact ⟨hz0, hz⟩ | exact HK7.out | go_keep)
            (first
            | (go_at_call 20; refine (dBytes_bad (p + 1) v bs _ (by exact HD5.out)).mono ?_; rintro e w6 ⟨rfl, rfl⟩)
            | (go_at_call 21; refine (told_one _ _ _ _ _ (by exact HA5.out)).mono ?_; rintro e w7 ⟨rfl, b7⟩; have HV7 := hideIt (HV5.out.next b7); have HK7 := hideIt (And.intro ((b7.cell (p := ⟨p + 1, 1, none⟩) hpd).trans hz0) ((b7.cell (p := ⟨p + 1, 2, none⟩) hpd).trans hz)); clear b7))
          all_goals
            go_wp2
            go_ret
            exact ⟨by simp, HV7.out.1⟩
  · go_wp2
    go_ret
    exact ⟨rfl, HV1.out.1⟩
end Go.Proofs.YtaaaibnalhmmgaaDoor
