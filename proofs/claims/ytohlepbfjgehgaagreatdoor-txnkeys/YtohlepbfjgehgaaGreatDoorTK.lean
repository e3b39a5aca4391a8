/-
  What is proved here: the reading of reads and writes; over this program.
-/
import Derived.Test.YtohlepbfjgehgaaGreatDoorTJ
namespace Go.Proofs.YtohlepbfjgehgaaGreatDoor
open Go.RowKit Go.Extern.Stop Go.Stop Go.Extern

theorem trst_mono {w : World} {p : Nat} {A A' : Nat → Prop} {bs : List UInt8} {st : RS} (h : RSt w p A bs st) (hA : ∀ k, A k → k < w.heap.size → A' k) : RSt w p A' bs st := by
  match st, h with
  | .ok k, h => exact ROk.mono h hA
  | .error (n, s, j), ⟨v, h1, h2⟩ => exact ⟨v, h1, h2.mono hA⟩
theorem room2_put (w : World) (q : Nat) (x y X Y : Value) (h : w.cell? ⟨q, 0, none⟩ = some x ∧ w.cell? ⟨q, 1, none⟩ = some y) :
    let W := (w.setCell ⟨q, 0, none⟩ X).setCell ⟨q, 1, none⟩ Y
    (W.cell? ⟨q, 0, none⟩ = some X ∧ W.cell? ⟨q, 1, none⟩ = some Y) ∧ w.grownBy W (some q) := by
  obtain ⟨c0, c1⟩ := h
  intro W
  refine ⟨⟨?_, ?_⟩, grown_set (grown_set (grown_refl _ _) _ _) _ _⟩
  · rw [World.cell?_setCell_other _ _ _ _ (by simp)]
    exact World.cell?_setCell_same _ _ _ c0
  · exact World.cell?_setCell_same _ _ _ (by rw [World.cell?_setCell_other _ _ _ _ (by simp)]; exact c1)
/-- a row that grows, beside a reader -/
theorem trst_push {w3 w5 : World} {p : Nat} {bs : List UInt8} {st : RS} {Z : Nat → Prop} {r r' : Option Nat} (h : RSt w3 p (fun b => Z b ∧ r ≠ some b) bs st) (hg : w3.grownBy w5 r) (hp : r ≠ some p) (hr : r' = r ∨ ∃ n, r' = some n ∧ w3.heap.size ≤ n) :
    RSt w5 p (fun b => Z b ∧ r' ≠ some b) bs st := by
  have h1 : RSt w3 p (fun b => (Z b ∧ r ≠ some b) ∧ b < w3.heap.size) bs st := trst_mono h (fun k a hk => ⟨a, hk⟩)
  have h2 : RSt w5 p (fun b => (Z b ∧ r ≠ some b) ∧ b < w3.heap.size) bs st := h1.kept (hg.block p h1.lt (fun e => hp e.symm)) (fun k hk hl => hg.block k hl (fun e => hk.1.2 e.symm))
  refine trst_mono h2 (fun k a _ => ⟨a.1.1, ?_⟩)
  rcases hr with rfl | ⟨n, rfl, hn⟩
  · exact a.1.2
  · intro e
    cases e
    omega

def twoR (bs : List UInt8) (st : RS) : Int × RS := stepR (0 : Int) sNum rdNum bs st
def oneR (bs : List UInt8) (st : RS) : Rd × RS := (((stepR [] sText rdText bs st).1, (twoR bs (stepR [] sText rdText bs st).2).1), (twoR bs (stepR [] sText rdText bs st).2).2)
def manyR (bs : List UInt8) : Nat → RS → List Rd × RS
  | 0, st => ([], st)
  | n + 1, st => ((oneR bs st).1 :: (manyR bs n (oneR bs st).2).1, (manyR bs n (oneR bs st).2).2)
def getR (bs : List UInt8) (st : RS) : List Rd × RS := manyR bs (stepR (0 : Int) sInt (rdInt 8) bs st).1.toNat (stepR (0 : Int) sInt (rdInt 8) bs st).2
set_option maxRecDepth 100000 in
set_option maxHeartbeats 8000000 in
theorem txGeA_any (key : List UInt8) (p q : Nat) (A : Nat → Prop) (bs : List UInt8) (st : RS) (w : World) (hq : w.cell? ⟨q, 0, none⟩ = some (.pointer (some ⟨p, 0, none⟩))) (hr : RSt w p A bs st) (hp : ¬ A p) (hA : ∀ k, w.heap.size ≤ k → A k) (hl : bs.length ≤ 1000000000000) :
    Calls Tryz.prog 43 (#[.string ⟨key.toArray⟩] ++ #[.pointer (some ⟨q, 0, none⟩)]) w fun e w' => e = .returned (rdV (key, (twoR bs st).1)) ∧ RSt w' p A bs (twoR bs st).2 ∧ w.grownBy w' (some p) := by
  have hpl := hr.lt
  obtain ⟨W, hW, hwb, hws, c0, c1⟩ := room2 w 54 (.string ⟨#[]⟩) (.int .i64 0)
  have hf0 := fun j => (show W.frozen? ⟨w.heap.size, j, none⟩ = false by rw [hW]; exact World.frozen?_alloc_at _ _ _ _ rfl)
  have HR := hideIt ((trst_mono (A' := fun k => A k ∧ k ≠ w.heap.size) hr (fun k a hk => ⟨a, by omega⟩)).next hwb)
  have HP : Hid (¬ (A p ∧ p ≠ w.heap.size)) := hideIt (fun h => hp h.1)
  have HA : Hid (∀ k, W.heap.size ≤ k → A k ∧ k ≠ w.heap.size) := hideIt (fun k hk => ⟨hA k (by omega), by omega⟩)
  have HWB := hideIt hwb
  have hne : w.heap.size ≠ p := by omega
  have d0 : (w.alloc (.cells #[.string ⟨#[]⟩, .int .i64 0] 54)).cell? ⟨q, 0, none⟩ = some (.pointer (some ⟨p, 0, none⟩)) := by rw [← hW]; exact (hwb.cell (lt_of_cell hq)).trans hq
  clear hr hp hA hwb
  go_enter Tryz.func43, Tryz.ntmps43
  go_wp2_with fail
  rw [← hW]
  clear hW hq d0
  refine (rNum_any p _ bs st W HR.out HP.out HA.out hl).mono ?_
  rintro e w2 ⟨v, rfl, hv, hs2, hg2⟩
  obtain ⟨y, hy⟩ : ∃ y, y = (stepR (0 : Int) sNum rdNum bs st).1 := ⟨_, rfl⟩
  have hv' : v = .int .i64 y := by rw [hy]; exact hv
  subst hv'
  have HY : Hid (y = (twoR bs st).1) := hideIt hy
  have HS2 : Hid (RSt w2 p (fun k => A k ∧ k ≠ w.heap.size) bs (twoR bs st).2) := hideIt hs2
  have HG2 := hideIt (grown_trans (grown_below HWB.out _) hg2)
  have y0 := tgrown_cell hg2 c0 hne
  have y1 := tgrown_cell hg2 c1 hne
  have hblk : w2.heap[w.heap.size]? = W.heap[w.heap.size]? := hg2.block w.heap.size (by omega) (fun e => hne (by injection e))
  have f0 := (World.frozen?_of_block (a := ⟨w.heap.size, 0, none⟩) hblk).trans (hf0 0)
  have f1 := (World.frozen?_of_block (a := ⟨w.heap.size, 1, none⟩) hblk).trans (hf0 1)
  have hsw : w.heap.size < w2.heap.size := lt_of_cell y0
  have HPUT := hideIt (room2_put w2 w.heap.size _ _ (.string ⟨key.toArray⟩) (.int .i64 y) ⟨y0, y1⟩)
  clear hs2 hg2 hv hy c0 c1 hblk hf0 HR HA
  go_wp2
  obtain ⟨⟨v0, v1⟩, hgr⟩ := HPUT.out
  have hne2 : w.heap.size ≠ p := by
    have := HS2.out.lt
    exact hne
  generalize (w2.setCell ⟨w.heap.size, 0, none⟩ (.string ⟨key.toArray⟩)).setCell ⟨w.heap.size, 1, none⟩ (.int .i64 y) = W4 at v0 v1 hgr ⊢
  refine bodyPost_ret (v := rdV (key, y)) (by simp [results, Tryz.results43, go_sem, v0, v1, rdV]) rfl ?_
  refine ⟨by rw [HY.out], ?_, grown_then HG2.out (Below.grown (Below.refl _ _) hgr (by omega) (fun k hk => by cases hk; exact Nat.le_refl _))⟩
  exact trst_mono (HS2.out.kept (hgr.block p HS2.out.lt (fun e => hne2 (by first | exact Option.some.inj e | exact (Option.some.inj e).symm))) (fun k hk hl => hgr.block k hl (fun e => hk.2 (by first | exact Option.some.inj e | exact (Option.some.inj e).symm)))) (fun k a _ => a.1)
def twoW (bs : List UInt8) (st : RS) : List UInt8 × RS := stepR [] sText rdText bs st
def oneW (bs : List UInt8) (st : RS) : Wr × RS := (((stepR [] sText rdText bs st).1, (twoW bs (stepR [] sText rdText bs st).2).1), (twoW bs (stepR [] sText rdText bs st).2).2)
def manyW (bs : List UInt8) : Nat → RS → List Wr × RS
  | 0, st => ([], st)
  | n + 1, st => ((oneW bs st).1 :: (manyW bs n (oneW bs st).2).1, (manyW bs n (oneW bs st).2).2)
def getW (bs : List UInt8) (st : RS) : List Wr × RS := manyW bs (stepR (0 : Int) sInt (rdInt 8) bs st).1.toNat (stepR (0 : Int) sInt (rdInt 8) bs st).2
set_option maxRecDepth 100000 in
set_option maxHeartbeats 8000000 in
theorem txGeB_any (key : List UInt8) (p q : Nat) (A : Nat → Prop) (bs : List UInt8) (st : RS) (w : World) (hq : w.cell? ⟨q, 0, none⟩ = some (.pointer (some ⟨p, 0, none⟩))) (hr : RSt w p A bs st) (hp : ¬ A p) (hA : ∀ k, w.heap.size ≤ k → A k) (hl : bs.length ≤ 1000000000000) :
    Calls Tryz.prog 45 (#[.string ⟨key.toArray⟩] ++ #[.pointer (some ⟨q, 0, none⟩)]) w fun e w' => e = .returned (wrV (key, (twoW bs st).1)) ∧ RSt w' p A bs (twoW bs st).2 ∧ w.grownBy w' (some p) := by
  have hpl := hr.lt
  obtain ⟨W, hW, hwb, hws, c0, c1⟩ := room2 w 48 (.string ⟨#[]⟩) (.string ⟨#[]⟩)
  have hf0 := fun j => (show W.frozen? ⟨w.heap.size, j, none⟩ = false by rw [hW]; exact World.frozen?_alloc_at _ _ _ _ rfl)
  have HR := hideIt ((trst_mono (A' := fun k => A k ∧ k ≠ w.heap.size) hr (fun k a hk => ⟨a, by omega⟩)).next hwb)
  have HP : Hid (¬ (A p ∧ p ≠ w.heap.size)) := hideIt (fun h => hp h.1)
  have HA : Hid (∀ k, W.heap.size ≤ k → A k ∧ k ≠ w.heap.size) := hideIt (fun k hk => ⟨hA k (by omega), by omega⟩)
  have HWB := hideIt hwb
  have hne : w.heap.size ≠ p := by omega
  have d0 : (w.alloc (.cells #[.string ⟨#[]⟩, .string ⟨#[]⟩] 48)).cell? ⟨q, 0, none⟩ = some (.pointer (some ⟨p, 0, none⟩)) := by rw [← hW]; exact (hwb.cell (lt_of_cell hq)).trans hq
  clear hr hp hA hwb
  go_enter Tryz.func45, Tryz.ntmps45
  go_wp2_with fail
  rw [← hW]
  clear hW hq d0
  refine (rText_any p _ bs st W HR.out HP.out HA.out hl).mono ?_
  rintro e w2 ⟨v, rfl, hv, hs2, hg2⟩
  obtain ⟨y, hy⟩ : ∃ y, y = (stepR [] sText rdText bs st).1 := ⟨_, rfl⟩
  have hv' : BytesIn w2 (fun k => A k ∧ k ≠ w.heap.size) v y := by rw [hy]; exact hv
  have hst := hv'.str
  obtain ⟨av, cv, rfl, _⟩ := hv'.form
  clear hv'
  have HY : Hid (y = (twoW bs st).1) := hideIt hy
  have HS2 : Hid (RSt w2 p (fun k => A k ∧ k ≠ w.heap.size) bs (twoW bs st).2) := hideIt hs2
  have HG2 := hideIt (grown_trans (grown_below HWB.out _) hg2)
  have y0 := tgrown_cell hg2 c0 hne
  have y1 := tgrown_cell hg2 c1 hne
  have hblk : w2.heap[w.heap.size]? = W.heap[w.heap.size]? := hg2.block w.heap.size (by omega) (fun e => hne (by injection e))
  have f0 := (World.frozen?_of_block (a := ⟨w.heap.size, 0, none⟩) hblk).trans (hf0 0)
  have f1 := (World.frozen?_of_block (a := ⟨w.heap.size, 1, none⟩) hblk).trans (hf0 1)
  have hsw : w.heap.size < w2.heap.size := lt_of_cell y0
  have HPUT := hideIt (room2_put w2 w.heap.size _ _ (.string ⟨key.toArray⟩) (.string ⟨(y).toArray⟩) ⟨y0, y1⟩)
  clear hs2 hg2 hv hy c0 c1 hblk hf0 HR HA
  go_wp2
  obtain ⟨⟨v0, v1⟩, hgr⟩ := HPUT.out
  have hne2 : w.heap.size ≠ p := by
    have := HS2.out.lt
    exact hne
  generalize (w2.setCell ⟨w.heap.size, 0, none⟩ (.string ⟨key.toArray⟩)).setCell ⟨w.heap.size, 1, none⟩ (.string ⟨(y).toArray⟩) = W4 at v0 v1 hgr ⊢
  refine bodyPost_ret (v := wrV (key, y)) (by simp [results, Tryz.results45, go_sem, v0, v1, wrV]) rfl ?_
  refine ⟨by rw [HY.out], ?_, grown_then HG2.out (Below.grown (Below.refl _ _) hgr (by omega) (fun k hk => by cases hk; exact Nat.le_refl _))⟩
  exact trst_mono (HS2.out.kept (hgr.block p HS2.out.lt (fun e => hne2 (by first | exact Option.some.inj e | exact (Option.some.inj e).symm))) (fun k hk hl => hgr.block k hl (fun e => hk.2 (by first | exact Option.some.inj e | exact (Option.some.inj e).symm)))) (fun k a _ => a.1)
theorem int8_le (bs : List UInt8) (st : RS) : 0 ≤ (stepR (0 : Int) sInt (rdInt 8) bs st).1 ∧ (stepR (0 : Int) sInt (rdInt 8) bs st).1 ≤ 8 := by
  unfold stepR
  split
  · simp
  · split
    · simp
    · rename_i h
      unfold rdInt at h
      split at h
      · cases h
      · split at h
        · cases h
        · split at h
          · cases h
          · injection h with h
            injection h with h1 _
            rw [← h1]
            simp only
            omega
set_option maxRecDepth 100000 in
set_option maxHeartbeats 16000000 in
theorem txgaR_any (p q : Nat) (S : Nat → Prop) (bs : List UInt8) (st : RS) (w : World) (hq : w.cell? ⟨q, 0, none⟩ = some (.pointer (some ⟨p, 0, none⟩))) (hqp : q ≠ p) (hr : RSt w p (fun b => b ≠ p ∧ S b) bs st) (hS : ∀ k, w.heap.size ≤ k → S k) (hl : bs.length ≤ 1000000000000) :
    Calls Tryz.prog 42 #[.pointer (some ⟨p, 0, none⟩), .func (.func 43) #[] #[.pointer (some ⟨q, 0, none⟩)]] w fun e w' => ∃ z, e = .returned z ∧ w'.ownsRow w.heap.size 54 2 z (getR bs st).1.length (rdsCells (getR bs st).1) ∧ RSt w' p (fun b => b ≠ p ∧ S b) bs (getR bs st).2 ∧ w.grownBy w' (some p) ∧ (getR bs st).1.length ≤ 8 := by
  obtain ⟨i0, hi, hi2⟩ := Option.map_eq_some_iff.1 infoRd
  obtain ⟨hz0, hz1, hz2⟩ : i0.zero = some (.agg #[.string ⟨#[]⟩, .int .i64 0]) ∧ i0.size = 2 ∧ i0.bytes = 24 := by
    simp only [Prod.mk.injEq] at hi2; exact hi2
  have HI := hideIt (And.intro hi (And.intro hz0 (And.intro hz1 hz2)))
  have hpl := hr.lt
  have HRS := hideIt hr
  have HQ := hideIt hq
  have HSS := hideIt hS
  clear hi hi2 hz0 hz1 hz2 hr hq hS
  go_enter Tryz.func42, Tryz.ntmps42
  go_wp2_with fail
  refine (rInt_any p _ 8 bs st w HRS.out (fun h => h.1 rfl) (fun k hk => ⟨by omega, HSS.out k hk⟩) hl).mono ?_
  rintro e w1 ⟨v, rfl, hv, hs1, hg1⟩
  have hle := int8_le bs st
  obtain ⟨N, hN⟩ : ∃ N : Nat, (stepR (0 : Int) sInt (rdInt 8) bs st).1 = N := ⟨_, (Int.toNat_of_nonneg hle.1).symm⟩
  have hv' : v = .int .i64 N := by rw [← hN]; exact hv
  subst hv'
  have hN8 : N ≤ 8 := by omega
  obtain ⟨st1, hst1⟩ : ∃ s, s = (stepR (0 : Int) sInt (rdInt 8) bs st).2 := ⟨_, rfl⟩
  have HGT : Hid (getR bs st = manyR bs N st1) := hideIt (by unfold getR; rw [hN, hst1]; rfl)
  have HS1 : Hid (RSt w1 p (fun b => b ≠ p ∧ S b) bs st1) := hideIt (by rw [hst1]; exact hs1)
  have HG1 := hideIt hg1
  clear hv hs1 hg1 hle hN hst1 HRS
  go_wp2
  go_loopw [5, 8] (fun ov i wr => ∃ (k : Nat) (aa : Option Addr) (ac : Nat) (acc : List Rd) (stk : RS), k ≤ N ∧ i = .int .i64 k ∧ ov = .slice aa k ac ∧ Hid (acc.length = k) ∧ Hid (manyR bs N st1 = (acc ++ (manyR bs (N - k) stk).1, (manyR bs (N - k) stk).2)) ∧ Hid (wr.ownsRow w.heap.size 54 2 (.slice aa k ac) k (rdsCells acc)) ∧ Hid (RSt wr p (fun b => (b ≠ p ∧ S b) ∧ (Value.slice aa k ac).ownBlock ≠ some b) bs stk) ∧ Hid (w.grownBy wr (some p))) (fun _ i _ => N - (intOf i).toNat)
  case atStart => exact ⟨0, none, 0, [], st1, Nat.zero_le _, rfl, rfl, rfl, by simp [Hid], World.ownsRow_nil _ _ _ _, hideIt (trst_mono HS1.out (fun k a _ => ⟨a, fun e => nomatch e⟩)), HG1.out⟩
  case round =>
    obtain ⟨k, aa, ac, acc, stk, hk, rfl, rfl, HAC, HMN, HR, HST, HG⟩ := hrel
    by_cases hlt : k < N
    · have hown : ∀ g, (Value.slice aa k ac).ownBlock = some g → w.heap.size ≤ g ∧ g < wr.heap.size := fun g hg => ⟨(HR.out.lt g hg).1, ownsRow_lt HR.out hg⟩
      have hnp : (Value.slice aa k ac).ownBlock ≠ some p := fun e => by have := (hown p e).1; omega
      have HNP := hideIt hnp
      have HAk : Hid (∀ X : World, wr.heap.size ≤ X.heap.size → ∀ b, X.heap.size ≤ b → (b ≠ p ∧ S b) ∧ (Value.slice aa k ac).ownBlock ≠ some b) := hideIt (fun X hX b hb => ⟨⟨by have := HST.out.lt; omega, HSS.out b (by have := HG.out.size; omega)⟩, fun e => by have := (hown b e).2; omega⟩)
      have HNA : Hid (¬ ((p ≠ p ∧ S p) ∧ (Value.slice aa k ac).ownBlock ≠ some p)) := hideIt (fun h => h.1.1 rfl)
      have hsw : w.heap.size ≤ wr.heap.size := HG.out.size
      clear hown hnp
      go_wp2_with fail
      refine (rText_any p _ bs stk wr HST.out HNA.out (HAk.out wr (Nat.le_refl _)) hl).mono ?_
      rintro e w2 ⟨v, rfl, hv, hs2, hg2⟩
      obtain ⟨key, hkey⟩ : ∃ y, y = (stepR [] sText rdText bs stk).1 := ⟨_, rfl⟩
      have hv' : BytesIn w2 (fun b => (b ≠ p ∧ S b) ∧ (Value.slice aa k ac).ownBlock ≠ some b) v key := by rw [hkey]; exact hv
      have hst := hv'.str
      obtain ⟨av, cv, rfl, _⟩ := hv'.form
      have HKEY := hideIt hkey
      have hs2' := hg2.size
      have HC := hideIt (txGeA_any key p q _ bs _ w2 (tgrown_cell hg2 (tgrown_cell HG.out HQ.out hqp) hqp) hs2 HNA.out (HAk.out w2 hs2') hl)
      have HR2 := hideIt (own_grown HR.out hg2 hpl)
      have HG2 := hideIt (grown_trans HG.out hg2)
      unfold rdV at HC
      clear hv hv' hs2 hg2 hkey HR
      go_wp2_with fail
      refine HC.out.mono ?_
      rintro e w3 ⟨rfl, hs3, hg3⟩
      obtain ⟨x2, hx2⟩ : ∃ y, y = (twoR bs (stepR [] sText rdText bs stk).2).1 := ⟨_, rfl⟩
      rw [← hx2]
      have HX2 := hideIt hx2
      obtain ⟨st3, hst3⟩ : ∃ s, s = (twoR bs (stepR [] sText rdText bs stk).2).2 := ⟨_, rfl⟩
      rw [← hst3] at hs3
      have HST3 := hideIt hst3
      have HS3 := hideIt hs3
      have HR3 := hideIt (own_grown HR2.out hg3 hpl)
      have HG3 := hideIt (grown_trans HG2.out hg3)
      have hs3' := hg3.size
      clear hs3 hg3 hx2 hst3 HC HR2 HG2 hst
      go_wp2_with (at_builtin; refine wpList_append_own_at _ rfl _ _ 22 rfl w.heap.size 54 i0 (.agg #[.string ⟨#[]⟩, .int .i64 0]) 2 24 Tryz.underlying22 HI.out.1 HI.out.2.1 HI.out.2.2.1 HI.out.2.2.2 rfl (by decide) _ _ _ rfl (HR3.out.alloc _) ⟨w3.heap.size, 0, none⟩ 1 1 (rdsCells [(key, x2)]) rfl rfl ?k1 ?k2 ?k3 ?k4 ?k5 ?_)
      case k1 =>
        obtain ⟨U, hU, _, _, hUo⟩ := lit_rd w3 (key, x2)
        rw [hU] at hUo
        exact hUo.cells rfl
      case k2 => exact rdsCells_one _
      case k3 => unfold maxLen; omega
      case k4 => omega
      case k5 => simp; omega
      intro v' w5 hown' hgrow _ hvb
      have HG5 := hideIt (grown_trans (World.grownBy_alloc w3 _ _) hgrow)
      have HO5 : Hid (w5.ownsRow w.heap.size 54 2 v' (k + 1) (rdsCells (acc ++ [(key, x2)]))) := hideIt (by rw [rdsCells_append]; simpa using hown')
      have HS5 : Hid (RSt w5 p (fun b => (b ≠ p ∧ S b) ∧ v'.ownBlock ≠ some b) bs st3) := hideIt (trst_push HS3.out HG5.out HNP.out (hvb.imp id (fun h => ⟨_, h, by simp⟩)))
      have HB5 := hideIt (grown_then HG3.out (Below.grown (Below.refl _ _) HG5.out (by omega) (fun j hj => (HR3.out.lt j hj).1)))
      have HL5 : Hid ((acc ++ [(key, x2)]).length = k + 1) := hideIt (by rw [List.length_append, HAC.out]; rfl)
      have HM5 : Hid (manyR bs N st1 = ((acc ++ [(key, x2)]) ++ (manyR bs (N - (k + 1)) st3).1, (manyR bs (N - (k + 1)) st3).2)) := hideIt (by
        rw [HMN.out, show N - k = (N - (k + 1)) + 1 by omega]
        simp only [manyR, oneR, ← HKEY.out, ← HX2.out, ← HST3.out, List.append_assoc, List.singleton_append])
      obtain ⟨a', cap', hv'⟩ := own_form hown'
      subst hv'
      clear hown' hgrow hvb
      go_wp2
      exact ⟨⟨k + 1, a', cap', _, st3, by omega, by go_num, rfl, HL5.out, HM5.out, HO5.out, HS5.out, HB5.out⟩, by simp [intOf]; omega⟩
    · have ek : k = N := by omega
      have HE : Hid (getR bs st = (acc, stk)) := hideIt (by
        rw [HGT.out, HMN.out, ek, Nat.sub_self]
        simp [manyR])
      have HRE : Hid (wr.ownsRow w.heap.size 54 2 (.slice aa k ac) (getR bs st).1.length (rdsCells (getR bs st).1)) := hideIt (by
        rw [HE.out]
        simp only
        rw [HAC.out]
        exact HR.out)
      have HSE : Hid (RSt wr p (fun b => b ≠ p ∧ S b) bs (getR bs st).2) := hideIt (by rw [HE.out]; exact trst_mono HST.out (fun k a _ => a.1))
      have HLE : Hid ((getR bs st).1.length ≤ 8) := hideIt (by rw [HE.out]; simp only; rw [HAC.out]; omega)
      clear HMN HR HST ek
      go_wp2
      go_ret
      exact ⟨_, rfl, HRE.out, HSE.out, HG.out, HLE.out⟩
set_option maxRecDepth 100000 in
set_option maxHeartbeats 16000000 in
theorem txgaW_any (p q : Nat) (S : Nat → Prop) (bs : List UInt8) (st : RS) (w : World) (hq : w.cell? ⟨q, 0, none⟩ = some (.pointer (some ⟨p, 0, none⟩))) (hqp : q ≠ p) (hr : RSt w p (fun b => b ≠ p ∧ S b) bs st) (hS : ∀ k, w.heap.size ≤ k → S k) (hl : bs.length ≤ 1000000000000) :
    Calls Tryz.prog 44 #[.pointer (some ⟨p, 0, none⟩), .func (.func 45) #[] #[.pointer (some ⟨q, 0, none⟩)]] w fun e w' => ∃ z, e = .returned z ∧ w'.ownsRow w.heap.size 48 2 z (getW bs st).1.length (wrsCells (getW bs st).1) ∧ RSt w' p (fun b => b ≠ p ∧ S b) bs (getW bs st).2 ∧ w.grownBy w' (some p) ∧ (getW bs st).1.length ≤ 8 := by
  obtain ⟨i0, hi, hi2⟩ := Option.map_eq_some_iff.1 infoWr
  obtain ⟨hz0, hz1, hz2⟩ : i0.zero = some (.agg #[.string ⟨#[]⟩, .string ⟨#[]⟩]) ∧ i0.size = 2 ∧ i0.bytes = 32 := by
    simp only [Prod.mk.injEq] at hi2; exact hi2
  have HI := hideIt (And.intro hi (And.intro hz0 (And.intro hz1 hz2)))
  have hpl := hr.lt
  have HRS := hideIt hr
  have HQ := hideIt hq
  have HSS := hideIt hS
  clear hi hi2 hz0 hz1 hz2 hr hq hS
  go_enter Tryz.func44, Tryz.ntmps44
  go_wp2_with fail
  refine (rInt_any p _ 8 bs st w HRS.out (fun h => h.1 rfl) (fun k hk => ⟨by omega, HSS.out k hk⟩) hl).mono ?_
  rintro e w1 ⟨v, rfl, hv, hs1, hg1⟩
  have hle := int8_le bs st
  obtain ⟨N, hN⟩ : ∃ N : Nat, (stepR (0 : Int) sInt (rdInt 8) bs st).1 = N := ⟨_, (Int.toNat_of_nonneg hle.1).symm⟩
  have hv' : v = .int .i64 N := by rw [← hN]; exact hv
  subst hv'
  have hN8 : N ≤ 8 := by omega
  obtain ⟨st1, hst1⟩ : ∃ s, s = (stepR (0 : Int) sInt (rdInt 8) bs st).2 := ⟨_, rfl⟩
  have HGT : Hid (getW bs st = manyW bs N st1) := hideIt (by unfold getW; rw [hN, hst1]; rfl)
  have HS1 : Hid (RSt w1 p (fun b => b ≠ p ∧ S b) bs st1) := hideIt (by rw [hst1]; exact hs1)
  have HG1 := hideIt hg1
  clear hv hs1 hg1 hle hN hst1 HRS
  go_wp2
  go_loopw [5, 8] (fun ov i wr => ∃ (k : Nat) (aa : Option Addr) (ac : Nat) (acc : List Wr) (stk : RS), k ≤ N ∧ i = .int .i64 k ∧ ov = .slice aa k ac ∧ Hid (acc.length = k) ∧ Hid (manyW bs N st1 = (acc ++ (manyW bs (N - k) stk).1, (manyW bs (N - k) stk).2)) ∧ Hid (wr.ownsRow w.heap.size 48 2 (.slice aa k ac) k (wrsCells acc)) ∧ Hid (RSt wr p (fun b => (b ≠ p ∧ S b) ∧ (Value.slice aa k ac).ownBlock ≠ some b) bs stk) ∧ Hid (w.grownBy wr (some p))) (fun _ i _ => N - (intOf i).toNat)
  case atStart => exact ⟨0, none, 0, [], st1, Nat.zero_le _, rfl, rfl, rfl, by simp [Hid], World.ownsRow_nil _ _ _ _, hideIt (trst_mono HS1.out (fun k a _ => ⟨a, fun e => nomatch e⟩)), HG1.out⟩
  case round =>
    obtain ⟨k, aa, ac, acc, stk, hk, rfl, rfl, HAC, HMN, HR, HST, HG⟩ := hrel
    by_cases hlt : k < N
    · have hown : ∀ g, (Value.slice aa k ac).ownBlock = some g → w.heap.size ≤ g ∧ g < wr.heap.size := fun g hg => ⟨(HR.out.lt g hg).1, ownsRow_lt HR.out hg⟩
      have hnp : (Value.slice aa k ac).ownBlock ≠ some p := fun e => by have := (hown p e).1; omega
      have HNP := hideIt hnp
      have HAk : Hid (∀ X : World, wr.heap.size ≤ X.heap.size → ∀ b, X.heap.size ≤ b → (b ≠ p ∧ S b) ∧ (Value.slice aa k ac).ownBlock ≠ some b) := hideIt (fun X hX b hb => ⟨⟨by have := HST.out.lt; omega, HSS.out b (by have := HG.out.size; omega)⟩, fun e => by have := (hown b e).2; omega⟩)
      have HNA : Hid (¬ ((p ≠ p ∧ S p) ∧ (Value.slice aa k ac).ownBlock ≠ some p)) := hideIt (fun h => h.1.1 rfl)
      have hsw : w.heap.size ≤ wr.heap.size := HG.out.size
      clear hown hnp
      go_wp2_with fail
      refine (rText_any p _ bs stk wr HST.out HNA.out (HAk.out wr (Nat.le_refl _)) hl).mono ?_
      rintro e w2 ⟨v, rfl, hv, hs2, hg2⟩
      obtain ⟨key, hkey⟩ : ∃ y, y = (stepR [] sText rdText bs stk).1 := ⟨_, rfl⟩
      have hv' : BytesIn w2 (fun b => (b ≠ p ∧ S b) ∧ (Value.slice aa k ac).ownBlock ≠ some b) v key := by rw [hkey]; exact hv
      have hst := hv'.str
      obtain ⟨av, cv, rfl, _⟩ := hv'.form
      have HKEY := hideIt hkey
      have hs2' := hg2.size
      have HC := hideIt (txGeB_any key p q _ bs _ w2 (tgrown_cell hg2 (tgrown_cell HG.out HQ.out hqp) hqp) hs2 HNA.out (HAk.out w2 hs2') hl)
      have HR2 := hideIt (own_grown HR.out hg2 hpl)
      have HG2 := hideIt (grown_trans HG.out hg2)
      unfold wrV at HC
      clear hv hv' hs2 hg2 hkey HR
      go_wp2_with fail
      refine HC.out.mono ?_
      rintro e w3 ⟨rfl, hs3, hg3⟩
      obtain ⟨x2, hx2⟩ : ∃ y, y = (twoW bs (stepR [] sText rdText bs stk).2).1 := ⟨_, rfl⟩
      rw [← hx2]
      have HX2 := hideIt hx2
      obtain ⟨st3, hst3⟩ : ∃ s, s = (twoW bs (stepR [] sText rdText bs stk).2).2 := ⟨_, rfl⟩
      rw [← hst3] at hs3
      have HST3 := hideIt hst3
      have HS3 := hideIt hs3
      have HR3 := hideIt (own_grown HR2.out hg3 hpl)
      have HG3 := hideIt (grown_trans HG2.out hg3)
      have hs3' := hg3.size
      clear hs3 hg3 hx2 hst3 HC HR2 HG2 hst
      go_wp2_with (at_builtin; refine wpList_append_own_at _ rfl _ _ 23 rfl w.heap.size 48 i0 (.agg #[.string ⟨#[]⟩, .string ⟨#[]⟩]) 2 32 Tryz.underlying23 HI.out.1 HI.out.2.1 HI.out.2.2.1 HI.out.2.2.2 rfl (by decide) _ _ _ rfl (HR3.out.alloc _) ⟨w3.heap.size, 0, none⟩ 1 1 (wrsCells [(key, x2)]) rfl rfl ?k1 ?k2 ?k3 ?k4 ?k5 ?_)
      case k1 =>
        obtain ⟨U, hU, _, _, hUo⟩ := lit_wr w3 (key, x2)
        rw [hU] at hUo
        exact hUo.cells rfl
      case k2 => exact wrsCells_one _
      case k3 => unfold maxLen; omega
      case k4 => omega
      case k5 => simp; omega
      intro v' w5 hown' hgrow _ hvb
      have HG5 := hideIt (grown_trans (World.grownBy_alloc w3 _ _) hgrow)
      have HO5 : Hid (w5.ownsRow w.heap.size 48 2 v' (k + 1) (wrsCells (acc ++ [(key, x2)]))) := hideIt (by rw [wrsCells_append]; simpa using hown')
      have HS5 : Hid (RSt w5 p (fun b => (b ≠ p ∧ S b) ∧ v'.ownBlock ≠ some b) bs st3) := hideIt (trst_push HS3.out HG5.out HNP.out (hvb.imp id (fun h => ⟨_, h, by simp⟩)))
      have HB5 := hideIt (grown_then HG3.out (Below.grown (Below.refl _ _) HG5.out (by omega) (fun j hj => (HR3.out.lt j hj).1)))
      have HL5 : Hid ((acc ++ [(key, x2)]).length = k + 1) := hideIt (by rw [List.length_append, HAC.out]; rfl)
      have HM5 : Hid (manyW bs N st1 = ((acc ++ [(key, x2)]) ++ (manyW bs (N - (k + 1)) st3).1, (manyW bs (N - (k + 1)) st3).2)) := hideIt (by
        rw [HMN.out, show N - k = (N - (k + 1)) + 1 by omega]
        simp only [manyW, oneW, ← HKEY.out, ← HX2.out, ← HST3.out, List.append_assoc, List.singleton_append])
      obtain ⟨a', cap', hv'⟩ := own_form hown'
      subst hv'
      clear hown' hgrow hvb
      go_wp2
      exact ⟨⟨k + 1, a', cap', _, st3, by omega, by go_num, rfl, HL5.out, HM5.out, HO5.out, HS5.out, HB5.out⟩, by simp [intOf]; omega⟩
    · have ek : k = N := by omega
      have HE : Hid (getW bs st = (acc, stk)) := hideIt (by
        rw [HGT.out, HMN.out, ek, Nat.sub_self]
        simp [manyW])
      have HRE : Hid (wr.ownsRow w.heap.size 48 2 (.slice aa k ac) (getW bs st).1.length (wrsCells (getW bs st).1)) := hideIt (by
        rw [HE.out]
        simp only
        rw [HAC.out]
        exact HR.out)
      have HSE : Hid (RSt wr p (fun b => b ≠ p ∧ S b) bs (getW bs st).2) := hideIt (by rw [HE.out]; exact trst_mono HST.out (fun k a _ => a.1))
      have HLE : Hid ((getW bs st).1.length ≤ 8) := hideIt (by rw [HE.out]; simp only; rw [HAC.out]; omega)
      clear HMN HR HST ek
      go_wp2
      go_ret
      exact ⟨_, rfl, HRE.out, HSE.out, HG.out, HLE.out⟩
end Go.Proofs.YtohlepbfjgehgaaGreatDoor
