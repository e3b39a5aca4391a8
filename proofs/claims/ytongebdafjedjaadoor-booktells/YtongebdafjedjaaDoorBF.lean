/-
  What is proved here: the document's own Book (package cohortref03), over this program.
-/
import Derived.Test.YtongebdafjedjaaDoorBE
import Derived.Test.YtongebdafjedjaaDoorStep
namespace Go.Proofs.YtongebdafjedjaaDoor
open Go.RowKit Go.Extern.Stop Go.Stop Go.Extern

theorem infoBs : (Tryd.prog.info? 31).map (fun i => (i.zero, i.size, i.bytes)) = some (some (.slice none 0 0), 1, 24) := by kernel_rfl

/-- the document's Book at q that has the texts T; its memory lies in blocks of O -/
def DBSt (w : World) (q : Nat) (O : Nat → Prop) (T : List (List UInt8)) : Prop :=
  ∃ (v : Value) (vs : List Value), w.cell? ⟨q, 0, none⟩ = some v ∧ w.frozen? ⟨q, 0, none⟩ = false ∧ w.ownsRow 0 31 1 v T.length vs ∧
    (∀ (k : Nat) (s : List UInt8) (u : Value), T[k]? = some s → vs[k]? = some u → BytesIn w (fun b => O b ∧ b ≠ q ∧ v.ownBlock ≠ some b) u s) ∧ O q ∧ (∀ g, v.ownBlock = some g → O g ∧ g ≠ q) ∧ T.length ≤ 65536 ∧ ∀ s ∈ T, s.length ≤ 65536
theorem DBSt.lt {w : World} {q : Nat} {O : Nat → Prop} {T : List (List UInt8)} (h : DBSt w q O T) : q < w.heap.size := by
  obtain ⟨v, vs, c0, _⟩ := h
  exact lt_of_cell (a := ⟨q, 0, none⟩) c0
theorem DBSt.kept {w w' : World} {q : Nat} {O : Nat → Prop} {T : List (List UInt8)} (h : DBSt w q O T) (hk : Kept O w w') : DBSt w' q O T := by
  have hlt := h.lt
  obtain ⟨v, vs, c0, f0, hr, hb, o1, o2, r⟩ := h
  have hp := hk q o1 hlt
  exact ⟨v, vs, (World.cell?_of_block (a := ⟨q, 0, none⟩) hp).trans c0, (World.frozen?_of_block (a := ⟨q, 0, none⟩) hp).trans f0, ownsRow_of_block hr (fun g hg => hk g (o2 g hg).1 (ownsRow_lt hr hg)), fun k s u h1 h2 => RowIn.kept (hb k s u h1 h2) (fun j hj hl => hk j hj.1 hl), o1, o2, r⟩
theorem DBSt.mono {w : World} {q : Nat} {O O' : Nat → Prop} {T : List (List UInt8)} (h : DBSt w q O T) (hO : ∀ k, O k → k < w.heap.size → O' k) : DBSt w q O' T := by
  have hlt := h.lt
  obtain ⟨v, vs, c0, f0, hr, hb, o1, o2, r⟩ := h
  exact ⟨v, vs, c0, f0, hr, fun k s u h1 h2 => RowIn.mono (hb k s u h1 h2) (fun j hj hl => ⟨hO j hj.1 hl, hj.2⟩), hO q o1 hlt, fun g hg => ⟨hO g (o2 g hg).1 (ownsRow_lt hr hg), (o2 g hg).2⟩, r⟩

theorem DBSt.put {w0 w1 w2 : World} {q : Nat} {O : Nat → Prop} {T : List (List UInt8)} {v v1 v2 : Value} {vs : List Value} {s : List UInt8} (c0 : w0.cell? ⟨q, 0, none⟩ = some v) (f0 : w0.frozen? ⟨q, 0, none⟩ = false) (hr : w0.ownsRow 0 31 1 v T.length vs)
    (hb : ∀ (k : Nat) (s : List UInt8) (u : Value), T[k]? = some s → vs[k]? = some u → BytesIn w0 (fun b => O b ∧ b ≠ q ∧ v.ownBlock ≠ some b) u s) (oq : O q) (og : ∀ g, v.ownBlock = some g → O g ∧ g ≠ q) (hT : T.length < 65536) (hsh : ∀ s ∈ T, s.length ≤ 65536) (hs : s.length ≤ 65536)
    (hb1 : Below w0.heap.size w0 w1) (ho1 : w1.ownsRow w0.heap.size 5 1 v1 s.length (Lib.byteCells s)) (hg2 : (w1.alloc (.cells #[v1] 31)).grownBy w2 v.ownBlock) (ho2 : w2.ownsRow 0 31 1 v2 (T.length + 1) (vs ++ [v1])) (hat : v2.ownBlock = v.ownBlock ∨ v2.ownBlock = some (w1.alloc (.cells #[v1] 31)).heap.size) :
    DBSt (w2.setCell ⟨q, 0, none⟩ v2) q (fun k => (O k ∨ w0.heap.size ≤ k) ∧ k < (w2.setCell ⟨q, 0, none⟩ v2).heap.size) (T ++ [s]) ∧ Turn O w0 (w2.setCell ⟨q, 0, none⟩ v2) := by
  have hq0 : q < w0.heap.size := lt_of_cell (a := ⟨q, 0, none⟩) c0
  have hs1 := hb1.size
  have hs2 := hg2.size
  have hvs : vs.length = T.length := by have := hr.1; omega
  simp only [World.size_alloc] at hs2 hat
  have hgl : ∀ g, v.ownBlock = some g → g < w0.heap.size := fun g hg => ownsRow_lt hr hg
  have blk : ∀ k, k < w1.heap.size → k ≠ q → v.ownBlock ≠ some k → (w2.setCell ⟨q, 0, none⟩ v2).heap[k]? = w1.heap[k]? := fun k hk hkq hkv => by
    rw [Below.heap_setCell w2 ⟨q, 0, none⟩ v2 k hkq, hg2.block k (by simp; omega) (fun e => hkv e.symm)]
    exact ((Below.refl w1.heap.size w1).alloc (Nat.le_refl _) _).block k hk
  have hqb : w2.heap[q]? = w0.heap[q]? := by
    rw [hg2.block q (by simp; omega) (fun e => (og q e.symm).2 rfl), ((Below.refl w1.heap.size w1).alloc (Nat.le_refl _) _).block q (by omega), hb1.block q hq0]
  have c2 : w2.cell? ⟨q, 0, none⟩ = some v := (World.cell?_of_block (a := ⟨q, 0, none⟩) hqb).trans c0
  have hg2l : ∀ g, v2.ownBlock = some g → g ≠ q := fun g hg => by
    rcases hat with e | e
    · rw [e] at hg; exact (og g hg).2
    · rw [e] at hg; simp at hg; omega
  refine ⟨⟨v2, vs ++ [v1], World.cell?_setCell_same _ _ _ c2, ?_, ?_, fun k x u hk hu => ?_, ⟨Or.inl oq, by rw [size_set]; omega⟩, fun g hg => ⟨⟨?_, by rw [size_set]; exact ownsRow_lt ho2 hg⟩, hg2l g hg⟩, by simp; omega, ?_⟩, ?_⟩
  · rw [World.frozen?_setCell, World.frozen?_of_block (w := w0) (a := ⟨q, 0, none⟩) hqb]; exact f0
  · have := ownsRow_of_block (w' := w2.setCell ⟨q, 0, none⟩ v2) ho2 (fun g hg => Below.heap_setCell w2 ⟨q, 0, none⟩ v2 g (hg2l g hg))
    simpa using this
  · by_cases hlt : k < T.length
    · rw [List.getElem?_append_left hlt] at hk
      rw [List.getElem?_append_left (by omega)] at hu
      have h1 := hb k x u hk hu
      have h2 : Kept (fun b => O b ∧ b ≠ q ∧ v.ownBlock ≠ some b) w0 (w2.setCell ⟨q, 0, none⟩ v2) := fun j hj hl => by
        rw [blk j (by omega) hj.2.1 hj.2.2, hb1.block j hl]
      have h3 := RowIn.mono h1 (A' := fun b => (O b ∧ b ≠ q ∧ v.ownBlock ≠ some b) ∧ b < w0.heap.size) (fun j h h' => ⟨h, h'⟩)
      refine RowIn.mono (RowIn.kept h3 (fun j hj hl => h2 j hj.1 hl)) (fun j hj hl => ⟨⟨Or.inl hj.1.1, hl⟩, hj.1.2.1, fun e => ?_⟩)
      rcases hat with e2 | e2
      · rw [e2] at e; exact hj.1.2.2 e
      · rw [e2] at e; simp at e; omega
    · have hk2 := (List.getElem?_eq_some_iff.1 hk).1
      simp at hk2
      have ek : k = T.length := by omega
      subst ek
      simp at hk
      subst hk
      rw [← hvs] at hu
      simp at hu
      subst hu
      have h1 : BytesIn w1 (fun b => w0.heap.size ≤ b ∧ b < w1.heap.size) v1 s := RowIn.mono (RowIn.of_own (A := fun b => w0.heap.size ≤ b) ho1 (fun k hk => hk)) (fun j h h' => ⟨h, h'⟩)
      refine RowIn.mono (RowIn.kept h1 (fun j hj hl => blk j hl (by omega) (fun e => by have := hgl j e; omega))) (fun j hj hl => ⟨⟨Or.inr hj.1, hl⟩, by omega, fun e => ?_⟩)
      rcases hat with e2 | e2
      · rw [e2] at e; have := hgl j e; omega
      · rw [e2] at e; simp at e; omega
  · rcases hat with e | e
    · rw [e] at hg; exact Or.inl (og g hg).1
    · rw [e] at hg; simp at hg; exact Or.inr (by omega)
  · intro x hx
    simp only [List.mem_append, List.mem_singleton] at hx
    rcases hx with hx | rfl
    · exact hsh x hx
    · exact hs
  · refine ⟨hg2.os.trans hb1.os, hg2.tape.trans hb1.tape, hg2.output.trans hb1.output, by rw [size_set]; omega, fun k hk ho => ?_⟩
    rw [blk k (by omega) (fun e => ho (by rw [e]; exact oq)) (fun e => ho (og k e).1), hb1.block k hk]

theorem dbDigest_long (w : World) (q : Nat) (v : Value) (A : Nat → Prop) (s : List UInt8) (hv : BytesIn w A v s) (hs : 65536 < s.length) (hs2 : s.length ≤ maxLen) :
    Calls Tryd.prog 11 #[.pointer (some ⟨q, 0, none⟩), v] w fun e w' => e = .returned (.tuple #[.int .i64 (-1), .int .i64 2]) ∧ w' = w := by
  obtain ⟨a, cap, rfl, _⟩ := hv.form
  unfold maxLen at hs2
  have h1 : (65536 : Int) < (s.length : Int) := by omega
  clear hv
  go_enter Tryd.func11, Tryd.ntmps11
  go_wp2
  go_ret2
  exact ⟨rfl, rfl⟩

set_option maxRecDepth 100000 in
set_option maxHeartbeats 8000000 in
theorem dbDigest_ok (w : World) (q : Nat) (O A : Nat → Prop) (T : List (List UInt8)) (v : Value) (s : List UInt8) (h : DBSt w q O T) (hv : BytesIn w A v s) (hs : s.length ≤ 65536) (hl : T.length < 65536) :
    Calls Tryd.prog 11 #[.pointer (some ⟨q, 0, none⟩), v] w fun e w' => ∃ (d : Nat) (O' : Nat → Prop), e = .returned (.tuple #[.int .i64 d, .int .i64 0]) ∧ (comes T s)[d]? = some s ∧ DBSt w' q O' (comes T s) ∧ Turn O w w' ∧ ∀ k, O' k → (O k ∨ w.heap.size ≤ k) ∧ k < w'.heap.size := by
  obtain ⟨i0, hi, hi2⟩ := Option.map_eq_some_iff.1 infoByte
  obtain ⟨hz0, hz1, hz2⟩ : i0.zero = some (.int .u8 0) ∧ i0.size = 1 ∧ i0.bytes = 1 := by
    simp only [Prod.mk.injEq] at hi2; exact hi2
  have HI := hideIt (And.intro hi (And.intro hz0 (And.intro hz1 hz2)))
  clear hi2 hi hz0 hz1 hz2
  obtain ⟨j0, hi, hi2⟩ := Option.map_eq_some_iff.1 infoBs
  obtain ⟨hz0, hz1, hz2⟩ : j0.zero = some (.slice none 0 0) ∧ j0.size = 1 ∧ j0.bytes = 24 := by
    simp only [Prod.mk.injEq] at hi2; exact hi2
  have HJ := hideIt (And.intro hi (And.intro hz0 (And.intro hz1 hz2)))
  clear hi2 hi hz0 hz1 hz2
  have H := hideIt h
  have HY := hideIt hv
  obtain ⟨a, cap, rfl, hnil⟩ := hv.form
  have h1 : ¬ (65536 : Int) < (s.length : Int) := by omega
  obtain ⟨vr, vs, c0, f0, hr, hb, o1, o2, _, hsh⟩ := h
  have HSH := hideIt hsh
  clear hsh
  have hvs : vs.length = T.length := by have := hr.1; omega
  have HR := hideIt hr
  have HB := hideIt hb
  have HO := hideIt (And.intro o1 o2)
  have hpl := lt_of_cell c0
  obtain ⟨ar, capr, rfl⟩ := own_form hr
  clear hr hb o1 o2 hv
  go_enter Tryd.func11, Tryd.ntmps11
  go_wp2
  go_loopw [6] (fun i wq => ∃ k m : Nat, k ≤ T.length ∧ i = .int .i64 k ∧ wq = w.drewN m ∧ Hid (∀ j, j < k → T[j]? ≠ some s)) (fun i _ => T.length - (intOf i).toNat)
  case atStart => exact ⟨0, 0, Nat.zero_le _, rfl, rfl, fun j hj => by omega⟩
  case round =>
    obtain ⟨k, m, hk, rfl, rfl, HN⟩ := hrel
    have hst2 := fun n => BytesIn.str (RowIn.kept HY.out (Kept.of_all (below_drewN w n)))
    by_cases hlt : k < T.length
    · obtain ⟨x, hx⟩ : ∃ x, T[k]? = some x := ⟨T[k], by simp [hlt]⟩
      obtain ⟨u, hu⟩ : ∃ u, vs[k]? = some u := ⟨vs[k]'(by omega), by simp [show k < vs.length by omega]⟩
      have y0 := HB.out k x u hx hu
      obtain ⟨g, gc, eg, cg, hgc⟩ : ∃ g cap, Value.slice ar T.length capr = .slice (some ⟨g, 0, none⟩) T.length cap ∧ w.cell? ⟨g, k, none⟩ = some u ∧ T.length ≤ cap := by
        have hc := HR.out
        rcases HR.out.2 with ⟨e, e2⟩ | ⟨g, cap, cur, e, _, _, hle, _⟩
        · omega
        · have := hc.cells (g := g) (by rw [e]; rfl) k u hu
          rw [addr_add, Nat.zero_add] at this
          exact ⟨g, cap, e, this, hle⟩
      simp only [Value.slice.injEq] at eg
      obtain ⟨rfl, _, rfl⟩ := eg
      have hst1 := fun n => BytesIn.str (RowIn.kept y0 (Kept.of_all (below_drewN w n)))
      obtain ⟨a1, cap1, rfl, _⟩ := y0.form
      have HX := hideIt hx
      clear y0 hx hu
      by_cases hxs : x = s
      · subst hxs
        go_wp2
        go_quiet (fail)
        have hb9 : Below w.heap.size w ((w.drewN m).drewN nq) := (below_drewN w m).trans (below_drewN (w.drewN m) nq)
        have HS9 := hideIt (H.out.kept (Kept.of_all hb9))
        have HB9 := hideIt hb9
        clear hst1 hst2 hb9
        generalize (w.drewN m).drewN nq = w9 at HS9 HB9 ⊢
        go_wp2
        go_ret2
        have hc : comes T x = T := if_pos (List.mem_of_getElem? HX.out)
        refine ⟨k, fun j => O j ∧ j < w9.heap.size, rfl, by rw [hc]; exact HX.out, by rw [hc]; exact HS9.out.mono (fun j h1 h2 => ⟨h1, h2⟩), Turn.of_below HB9.out, fun j hj => ⟨Or.inl hj.1, hj.2⟩⟩
      · have hss : (x == s) = false := by simp [hxs]
        have HN' : Hid (∀ j, j < k + 1 → T[j]? ≠ some s) := fun j hj => by
          by_cases e : j = k
          · subst e; rw [HX.out]; intro h; cases h; exact hxs rfl
          · exact HN.out j (by omega)
        clear hxs
        go_wp2
        go_quiet (fail)
        clear hst1 hst2
        rw [World.drewN_drewN]
        go_wp2
        exact ⟨⟨k + 1, m + nq, by omega, by go_num, rfl, HN'.out⟩, by simp [intOf]; omega⟩
    · have HNT : Hid (s ∉ T) := fun hm => by
        obtain ⟨i, hi⟩ := List.getElem?_of_mem hm
        have := (List.getElem?_eq_some_iff.1 hi).1
        exact HN.out i (by omega) hi
      have HB0 := hideIt (below_drewN w m)
      have HS0 := hideIt (H.out.kept (Kept.of_all (below_drewN w m)))
      have h65 : ¬ (65536 : Int) ≤ (T.length : Int) := by omega
      have d0 : (w.drewN m).cell? ⟨q, 0, none⟩ = some (.slice ar T.length capr) := c0
      have g0 : (w.drewN m).frozen? ⟨q, 0, none⟩ = false := f0
      have hpl0 : q < (w.drewN m).heap.size := hpl
      have HR0 := hideIt (own_drew HR.out m)
      have HY0 := hideIt (RowIn.kept HY.out (Kept.of_all (below_drewN w m)))
      have HBK : Hid (∀ (k : Nat) (s : List UInt8) (u : Value), T[k]? = some s → vs[k]? = some u → BytesIn (w.drewN m) (fun b => O b ∧ b ≠ q ∧ (Value.slice ar T.length capr).ownBlock ≠ some b) u s) := fun k s u h1 h2 => RowIn.kept (HB.out k s u h1 h2) (Kept.of_all (below_drewN w m))
      clear hst2 c0 f0 hpl
      generalize w.drewN m = w0 at HB0 HS0 d0 g0 hpl0 HR0 HY0 HBK ⊢
      have HON := hideIt (World.ownsRow_made (base := w0.heap.size) (e := 5) (size := 1) w0.drew #[] 0 (Nat.le_refl _) (by decide) rfl)
      go_wp2
      go_region_law (first
        | (refine step_append_bytes rfl (.tmp 42) (.tmp 43) 31 rfl w0.heap.size 5 i0 (.int .u8 0) Tryd.underlying31 HI.out.1 HI.out.2.1 HI.out.2.2.1 HI.out.2.2.2 rfl (.slice (some ⟨w0.heap.size, 0, none⟩) 0 0) 0 [] (by simp [Act.eval]) HON.out A (.slice a s.length cap) s (by simp [Act.eval]) (RowIn.kept HY0.out (Kept.of_all (((below_drew w0)).alloc (Nat.le_refl _) _))) (by omega) (by simp) ?_; intro v1 w1 hown1 hgrow1 hat1; rw [Nat.zero_add, List.nil_append] at hown1; obtain ⟨a1, cap1, rfl⟩ := own_form hown1; have HO1 := hideIt hown1; have HB1 : Hid (Below w0.heap.size w0 w1) := Below.grown ((below_drew w0).alloc (Nat.le_refl _) _) hgrow1 (by simp) (fun k hk => by simp [Value.ownBlock] at hk; omega); have d1 : w1.cell? ⟨q, 0, none⟩ = some (.slice ar T.length capr) := (HB1.out.cell (p := ⟨q, 0, none⟩) hpl0).trans d0; have g1 : w1.frozen? ⟨q, 0, none⟩ = false := (HB1.out.frozen (p := ⟨q, 0, none⟩) hpl0).trans g0; have hp1 : q < w1.heap.size := Nat.lt_of_lt_of_le hpl0 HB1.out.size; clear hown1 hgrow1 hat1)
        | (refine step_append_own rfl (.tmp 41) (.tmp 45) 22 rfl 0 31 j0 (.slice none 0 0) 1 24 Tryd.underlying22 HJ.out.1 HJ.out.2.1 HJ.out.2.2.1 HJ.out.2.2.2 rfl (by decide) (.slice ar T.length capr) T.length vs (by simp [Act.eval]) ((ownsRow_of_block HR0.out (fun g hg => HB1.out.block g (ownsRow_lt HR0.out hg))).alloc _) ⟨w1.heap.size, 0, none⟩ 1 1 [.slice a1 s.length cap1] (by simp [Act.eval]) rfl (cell_one_new _ _ _) (by intro u hu; simp at hu; subst hu; rfl) (by unfold maxLen; omega) (by omega) (Nat.zero_le _) ?_; intro v2 w2 hown2 hgrow2 hat2; obtain ⟨a2, cap2, rfl⟩ := own_form hown2; have HO2 := hideIt hown2; have HG2 := hideIt hgrow2; have HAT := hideIt hat2; have hb2 : w2.heap[q]? = w1.heap[q]? := (hgrow2.block q (by simp; omega) (fun e => (HO.out.2 q e.symm).2 rfl)).trans (((Below.refl w1.heap.size w1).alloc (Nat.le_refl _) _).block q hp1); have d2 : w2.cell? ⟨q, 0, none⟩ = some (.slice ar T.length capr) := (World.cell?_of_block (a := ⟨q, 0, none⟩) hb2).trans d1; have g2 : w2.frozen? ⟨q, 0, none⟩ = false := (World.frozen?_of_block (w := w1) (a := ⟨q, 0, none⟩) hb2).trans g1; clear hown2 hgrow2 hat2 hb2))
      all_goals
        go_wp2
        go_ret2
        obtain ⟨hp1, hp2⟩ := DBSt.put d0 g0 HR0.out HBK.out HO.out.1 HO.out.2 hl HSH.out hs HB1.out HO1.out HG2.out HO2.out HAT.out
        have hc : comes T s = T ++ [s] := if_neg HNT.out
        have hs0 := HB0.out.size
        refine ⟨T.length, fun k => (O k ∨ w0.heap.size ≤ k) ∧ k < (w2.setCell ⟨q, 0, none⟩ (.slice a2 (T.length + 1) cap2)).heap.size, rfl, by rw [hc]; simp, by rw [hc]; exact hp1, (Turn.of_below HB0.out).trans hp2 (fun k hk => Or.inl hk), fun k hk => ⟨hk.1.imp id (fun h => by omega), hk.2⟩⟩

theorem dbText_bad (w : World) (q : Nat) (O : Nat → Prop) (T : List (List UInt8)) (d : Int) (h : DBSt w q O T) (hd : d < 0 ∨ (T.length : Int) ≤ d) :
    Calls Tryd.prog 16 #[.pointer (some ⟨q, 0, none⟩), .int .i64 d] w fun e w' => e = .returned (.tuple #[.slice none 0 0, .int .i64 1]) ∧ Below w.heap.size w w' := by
  obtain ⟨vr, vs, c0, f0, hr, _⟩ := h
  obtain ⟨ar, capr, rfl⟩ := own_form hr
  clear hr f0
  by_cases h1 : d < 0
  · clear hd
    go_enter Tryd.func16, Tryd.ntmps16
    go_wp2
    go_ret2
    exact ⟨rfl, Below.refl _ _⟩
  · have h2 : (T.length : Int) ≤ d := by omega
    clear hd
    go_enter Tryd.func16, Tryd.ntmps16
    go_wp2
    go_ret2
    exact ⟨rfl, Below.refl _ _⟩

set_option maxRecDepth 100000 in
set_option maxHeartbeats 8000000 in
theorem dbText_ok (w : World) (q : Nat) (O : Nat → Prop) (T : List (List UInt8)) (s : List UInt8) (d : Nat) (h : DBSt w q O T) (hd : T[d]? = some s) :
    Calls Tryd.prog 16 #[.pointer (some ⟨q, 0, none⟩), .int .i64 d] w fun e w' => ∃ v', e = .returned (.tuple #[v', .int .i64 0]) ∧ BytesIn w' (fun _ => True) v' s ∧ Below w.heap.size w w' := by
  obtain ⟨i0, hi, hi2⟩ := Option.map_eq_some_iff.1 infoByte
  obtain ⟨hz0, hz1, hz2⟩ : i0.zero = some (.int .u8 0) ∧ i0.size = 1 ∧ i0.bytes = 1 := by
    simp only [Prod.mk.injEq] at hi2; exact hi2
  have HI := hideIt (And.intro hi (And.intro hz0 (And.intro hz1 hz2)))
  clear hi2 hi hz0 hz1 hz2
  obtain ⟨vr, vs, c0, f0, hr, hb, _, _, _, hsh⟩ := h
  have hsl := hsh s (List.mem_of_getElem? hd)
  clear hsh
  have hdl : d < T.length := (List.getElem?_eq_some_iff.1 hd).1
  have hvs : vs.length = T.length := by have := hr.1; omega
  obtain ⟨u, hu⟩ : ∃ u, vs[d]? = some u := ⟨vs[d]'(by omega), by simp [show d < vs.length by omega]⟩
  have y0 := hb d s u hd hu
  obtain ⟨g, gc, eg, cg, hgc⟩ : ∃ g cap, vr = .slice (some ⟨g, 0, none⟩) T.length cap ∧ w.cell? ⟨g, d, none⟩ = some u ∧ T.length ≤ cap := by
    have hc := hr
    rcases hr.2 with ⟨e, e2⟩ | ⟨g, cap, cur, e, _, _, hle, _⟩
    · omega
    · have := hc.cells (g := g) (by rw [e]; rfl) d u hu
      rw [addr_add, Nat.zero_add] at this
      exact ⟨g, cap, e, this, hle⟩
  subst eg
  have h1 : ¬ (d : Int) < 0 := by omega
  have h2 : ¬ (T.length : Int) ≤ (d : Int) := by omega
  have HY := hideIt y0
  obtain ⟨a1, cap1, rfl, _⟩ := y0.form
  clear hr hb y0 hd hu f0
  have hql : q < w.heap.size := lt_of_cell (a := ⟨q, 0, none⟩) c0
  have hgl : g < w.heap.size := lt_of_cell (a := ⟨g, d, none⟩) cg
  have HB1 := hideIt ((Below.refl w.heap.size w).alloc (Nat.le_refl _) (.cells #[] 5))
  have HON := hideIt (World.ownsRow_made (base := w.heap.size) (e := 5) (size := 1) w #[] 0 (Nat.le_refl _) (by decide) rfl)
  go_enter Tryd.func16, Tryd.ntmps16
  go_wp2_with (at_builtin; refine wpList_append_bytes rfl _ _ 31 rfl w.heap.size 5 i0 (.int .u8 0) Tryd.underlying31 HI.out.1 HI.out.2.1 HI.out.2.2.1 HI.out.2.2.2 rfl _ 0 [] rfl HON.out _ _ s rfl (RowIn.kept HY.out (Kept.of_all HB1.out)) (by omega) (by simp) ?_)
  intro v' w2 hown' hgrow _
  have HB2 := hideIt (HB1.out.grown hgrow (by simp) (fun k hk => by simp [Value.ownBlock] at hk; omega))
  have HO2 := hideIt hown'
  obtain ⟨a2, cap2, rfl⟩ := own_form hown'
  clear hgrow hown'
  go_wp2
  go_ret2
  exact ⟨_, rfl, RowIn.of_own HO2.out (fun _ _ => trivial), HB2.out⟩
end Go.Proofs.YtongebdafjedjaaDoor
