/-
  What is proved here: the document's own four, eight and bad (package cohortref02), over this program; its Writer in memory.
-/
import Derived.Test.YtaaaibnalhmmgaaDoorWV
import Derived.Maps.AppendAt
import Derived.Deep.RegionLaw
namespace Go.Proofs.YtaaaibnalhmmgaaDoor
open Go.RowKit Go.Extern.Stop Go.Stop Go.Extern

/-- append onto what is owned, as one step of a region that draws -/
theorem step_append_own {P : Program} {ops : Array Oper} {o : Oper} {a : Act} {w : World} {K : Act → World → Prop} {Q : Exit → Act → World → Prop} {E : Prop} (hgd : o.guard = none) (s x : Operand) (t : TypeId)
    (ho : o.op = .call { callee := .builtin .append, args := #[s, x], argTypes := #[t, t] })
    (base : Nat) (e : TypeId) (i : TypeInfo) (z : Value) (size bytes : Nat) (ht : P.underlying t = some (.slice e)) (hi : P.info? e = some i) (hz : i.zero = some z)
    (hsize : i.size = size) (hby : i.bytes = bytes) (hzs : z.cells.size = size) (hsz : 0 < size)
    (v : Value) (n : Nat) (xs : List Value) (hs : a.eval s = v) (hown : w.ownsRow base e size v n xs)
    (ad : Addr) (m c : Nat) (news : List Value) (hx : a.eval x = .slice (some ad) m c) (hl : news.length = m * size) (hnews : ∀ j u, news[j]? = some u → w.cell? (ad.add j) = some u) (h1 : ∀ u ∈ news, u.oneCell' = true)
    (h63 : n + m ≤ maxLen) (hbytes : (n + m) * bytes ≤ 140737488355328) (hbase : base ≤ w.heap.size)
    (h : ∀ v' w', w'.ownsRow base e size v' (n + m) (xs ++ news) → w.grownBy w' v.ownBlock → (v'.ownBlock = v.ownBlock ∨ v'.ownBlock = some w.heap.size) → K (a.put o.dst v') w') :
    if Region.wanted o (yielded ops a.tmps) = true then Oper.wp P o a w K Q else E := by
  have hw : Region.wanted o (yielded ops a.tmps) = true := by simp [Region.wanted, hgd]
  rw [if_pos hw]
  obtain ⟨v', w', hr, h2, h3, _, h5⟩ := run_append_own_at (P := P) w base t o.type e i z size bytes ht hi hz hsize hby hzs hsz v n xs hown ad m c news hl hnews h1 h63 hbytes hbase
  unfold Oper.wp execOp
  simp only [ho, resolve, invoke, builtin, Sem.run_bind, Sem.run_pure, Result.andThen_ok, List.map_toArray, List.map_cons, List.map_nil, hs, hx, hr]
  exact h v' w' h2 h3 h5

theorem eight_byte (n : Int) (j : Nat) (hj : j ≤ 7) (i : Int) (hi : i = 8 * (j : Int)) : n / 2 ^ i.toNat % 256 = ((UInt8.ofNat (bits n / 256 ^ j)).toNat : Int) := by
  subst hi
  have e : (8 * (j : Int)).toNat = 8 * j := by omega
  rw [e]
  unfold bits
  simp only [UInt8.toNat_ofNat', Nat.reducePow]
  match j, hj with
  | 0, _ => simp only [Nat.mul_zero, Int.pow_zero, Nat.pow_zero]; omega
  | 1, _ => simp only [Nat.reduceMul, Int.reducePow, Nat.reducePow]; omega
  | 2, _ => simp only [Nat.reduceMul, Int.reducePow, Nat.reducePow]; omega
  | 3, _ => simp only [Nat.reduceMul, Int.reducePow, Nat.reducePow]; omega
  | 4, _ => simp only [Nat.reduceMul, Int.reducePow, Nat.reducePow]; omega
  | 5, _ => simp only [Nat.reduceMul, Int.reducePow, Nat.reducePow]; omega
  | 6, _ => simp only [Nat.reduceMul, Int.reducePow, Nat.reducePow]; omega
  | 7, _ => simp only [Nat.reduceMul, Int.reducePow, Nat.reducePow]; omega

set_option maxRecDepth 100000 in
set_option maxHeartbeats 4000000 in
theorem eight_any (n : Int) (w : World) :
    Calls Tryd.prog 37 #[.int .i64 n] w fun e w' => ∃ v, e = .returned v ∧ w'.ownsRow w.heap.size 5 1 v (numB n).length (Lib.byteCells (numB n)) ∧ Below w.heap.size w w' := by
  obtain ⟨i0, hi, hi2⟩ := Option.map_eq_some_iff.1 infoByte
  obtain ⟨hz0, hz1, hz2⟩ : i0.zero = some (.int .u8 0) ∧ i0.size = 1 ∧ i0.bytes = 1 := by
    simp only [Prod.mk.injEq] at hi2; exact hi2
  have HI := hideIt (And.intro hi (And.intro hz0 (And.intro hz1 hz2)))
  clear hi2 hi hz0 hz1 hz2
  go_enter Tryd.func37, Tryd.ntmps37
  go_wp2
  go_loopw [3, 4] (fun s i wr => ∃ (j : Nat) (done : List UInt8), j ≤ 8 ∧ i = .int .i64 (8 * (j : Int) - 8) ∧ Hid (numB n = done ++ be j (bits n)) ∧ Hid (wr.ownsRow w.heap.size 5 1 s done.length (Lib.byteCells done)) ∧ Hid (Below w.heap.size w wr)) (fun _ i _ => (intOf i + 8).toNat)
  case atStart => exact ⟨8, [], Nat.le_refl _, rfl, rfl, World.ownsRow_nil _ _ _ _, Below.refl _ _⟩
  case round =>
    obtain ⟨j, done, hj, rfl, HE, HW, HX⟩ := hrel
    have hdl : done.length + j = 8 := by have := congrArg List.length HE.out; rw [numB_length, List.length_append, be_length] at this; omega
    cases j with
    | zero =>
      go_wp2
      go_ret
      have e1 : numB n = done := by have := HE.out; simpa [be] using this
      rw [← e1] at HW
      exact ⟨_, rfl, HW.out, HX.out⟩
    | succ j =>
      have hsz := HX.out.size
      obtain ⟨i, hi⟩ : ∃ i : Int, i = 8 * ((j + 1 : Nat) : Int) - 8 := ⟨_, rfl⟩
      rw [← hi]
      have hi0 : 0 ≤ i := by omega
      have hi7 : i ≤ 56 := by omega
      have HJ : Hid (i = 8 * (j : Int)) := by have : i = 8 * (j : Int) := by omega
                                              exact this
      clear hi
      have HCH := hideIt (eight_byte n j (by omega) i HJ.out)
      go_wp2_with (at_builtin; refine wpList_append_own _ rfl _ _ 32 rfl w.heap.size 5 i0 (.int .u8 0) 1 1 Tryd.underlying32 HI.out.1 HI.out.2.1 HI.out.2.2.1 HI.out.2.2.2 rfl (by decide) _ _ _ rfl (HW.out.alloc _) ⟨wr.heap.size, 0, none⟩ 1 1 [.int .u8 (n / 2 ^ i.toNat % 256)] rfl rfl ?c1 ?c2 ?c3 ?c4 ?c5 ?_)
      case c1 => exact cell_one_new _ _ _
      case c2 => intro u hu; simp at hu; subst hu; rfl
      case c3 => unfold maxLen; omega
      case c4 => omega
      case c5 => simp; omega
      · intro v' w2 hown' hgrow _
        have HB2 := hideIt ((HX.out.alloc (by omega) _).grown hgrow (by simp; omega) (fun k hk => (HW.out.lt k hk).1))
        have HO2 := hideIt hown'
        clear hgrow hown'
        go_wp2
        go_roundw
        case rel =>
          refine ⟨j, done ++ [UInt8.ofNat (bits n / 256 ^ j)], by omega, congrArg (Value.int .i64) (by have := HJ.out; omega), ?_, ?_, HB2.out⟩
          · have := HE.out; simpa [Hid, be] using this
          · have := HO2.out
            rw [HCH.out] at this
            simpa [Hid, Lib.byteCells, Nat.add_assoc] using this
        case measure => have := HJ.out; simp [intOf]; omega

theorem four_cells (n : Nat) (hn : n ≤ 65536) : (#[Value.int .u8 ((n : Int) / 16777216), .int .u8 ((n : Int) / 65536), .int .u8 ((n : Int) / 256 % 256), .int .u8 ((n : Int) % 256)] : Array Value) = (Lib.byteCells (be 4 n)).toArray := by
  have h1 : ((n : Int) / 16777216) = ((UInt8.ofNat (n / 256 ^ 3)).toNat : Int) := by simp; omega
  have h2 : ((n : Int) / 65536) = ((UInt8.ofNat (n / 256 ^ 2)).toNat : Int) := by simp; omega
  have h3 : ((n : Int) / 256 % 256) = ((UInt8.ofNat (n / 256 ^ 1)).toNat : Int) := by simp
  have h4 : ((n : Int) % 256) = ((UInt8.ofNat (n / 256 ^ 0)).toNat : Int) := by simp
  rw [h1, h2, h3, h4]
  rfl

set_option maxRecDepth 100000 in
set_option maxHeartbeats 4000000 in
theorem four_any (n : Nat) (hn : n ≤ 65536) (w : World) :
    Calls Tryd.prog 42 #[.int .i64 n] w fun e w' => e = .returned (.slice (some ⟨w.heap.size, 0, none⟩) 4 4) ∧ w' = w.alloc (.cells (Lib.byteCells (be 4 n)).toArray 5) := by
  go_enter Tryd.func42, Tryd.ntmps42
  have HC := hideIt (four_cells n hn)
  go_wp2
  go_ret
  rw [HC.out]
  exact ⟨rfl, rfl⟩

theorem own_some {w : World} {B e size n : Nat} {v : Value} {xs : List Value} (h : w.ownsRow B e size v n xs) (hn : 0 < n) : ∃ g cap, v = .slice (some ⟨g, 0, none⟩) n cap := by
  obtain ⟨_, h2⟩ := h
  rcases h2 with ⟨_, h3⟩ | ⟨g, cap, cur, rfl, _⟩
  · omega
  · exact ⟨_, _, rfl⟩

theorem eight_at (n : Int) (w : World) : Calls Tryd.prog 37 #[.int .i64 n] w fun e w' => ∃ g cap, e = .returned (.slice (some ⟨g, 0, none⟩) 8 cap) ∧ Hid (w'.ownsRow w.heap.size 5 1 (.slice (some ⟨g, 0, none⟩) 8 cap) 8 (Lib.byteCells (numB n))) ∧ Hid (Below w.heap.size w w') := by
  refine (eight_any n w).mono ?_
  rintro e w' ⟨v, rfl, ho, hb⟩
  rw [numB_length] at ho
  obtain ⟨g, cap, rfl⟩ := own_some ho (by decide)
  exact ⟨g, cap, rfl, ho, hb⟩

/-! ### the document's Writer -/
/-- at p, its bytes in v -/
structure DSt (w : World) (p : Nat) (v : Value) (st : List UInt8 × Bool) : Prop where
  fz : ∀ j, w.frozen? ⟨p, j, none⟩ = false
  own : w.ownsRow (p + 1) 5 1 v st.1.length (Lib.byteCells st.1)
  c0 : w.cell? ⟨p, 0, none⟩ = some v
  c1 : w.cell? ⟨p, 1, none⟩ = some (.int .i64 (if st.2 then 2 else 0))
  c2 : ∃ z : Int, w.cell? ⟨p, 2, none⟩ = some (.int .i64 z) ∧ (st.2 = true → z = st.1.length)
theorem DSt.lt {w : World} {p : Nat} {v : Value} {st : List UInt8 × Bool} (h : DSt w p v st) : p < w.heap.size := lt_of_cell (a := ⟨p, 0, none⟩) h.c0
/-- what the document's Writer may change: its own cells, its row -/
structure DGrown (w w' : World) (p : Nat) (v v' : Value) : Prop where
  os : w'.os = w.os
  tape : w'.tape = w.tape
  output : w'.output = w.output
  size : w.heap.size ≤ w'.heap.size
  block : ∀ k, k < w.heap.size → k ≠ p → v.ownBlock ≠ some k → w'.heap[k]? = w.heap[k]?
  own : v'.ownBlock = v.ownBlock ∨ ∀ g, v'.ownBlock = some g → w.heap.size ≤ g
theorem DGrown.refl (w : World) (p : Nat) (v : Value) : DGrown w w p v v := ⟨rfl, rfl, rfl, Nat.le_refl _, fun _ _ _ _ => rfl, Or.inl rfl⟩
theorem DGrown.trans {w w1 w2 : World} {p : Nat} {v v1 v2 : Value} (h : DGrown w w1 p v v1) (k : DGrown w1 w2 p v1 v2) : DGrown w w2 p v v2 := by
  refine ⟨k.os.trans h.os, k.tape.trans h.tape, k.output.trans h.output, Nat.le_trans h.size k.size, fun j hj hp hv => ?_, ?_⟩
  · rw [k.block j (Nat.lt_of_lt_of_le hj h.size) hp ?_]
    · exact h.block j hj hp hv
    · rcases h.own with e | e
      · rw [e]; exact hv
      · intro e2; have := e j e2; omega
  · rcases k.own with e | e
    · rw [e]; exact h.own
    · right; intro g hg; have := e g hg; have := h.size; omega
theorem DGrown.of_below {w w' : World} (p : Nat) (v : Value) (h : Below w.heap.size w w') : DGrown w w' p v v := ⟨h.os, h.tape, h.output, h.size, fun k hk _ _ => h.block k hk, Or.inl rfl⟩
theorem DGrown.of_grown {w w' : World} (p : Nat) (v : Value) (h : w.grownBy w' (some p)) : DGrown w w' p v v := ⟨h.os, h.tape, h.output, h.size, fun k hk hp _ => h.block k hk (fun e => hp (by cases e; rfl)), Or.inl rfl⟩
theorem DSt.kept {w w' : World} {p : Nat} {v : Value} {st : List UInt8 × Bool} (h : DSt w p v st) (hp : w'.heap[p]? = w.heap[p]?) (hv : ∀ g, v.ownBlock = some g → w'.heap[g]? = w.heap[g]?) : DSt w' p v st := by
  obtain ⟨h1, h2, h3, h4, z, h5, h6⟩ := h
  refine ⟨fun j => (World.frozen?_of_block (w := w) (a := ⟨p, j, none⟩) hp).trans (h1 j), ⟨h2.1, ?_⟩, (World.cell?_of_block (a := ⟨p, 0, none⟩) hp).trans h3, (World.cell?_of_block (a := ⟨p, 1, none⟩) hp).trans h4, z, (World.cell?_of_block (a := ⟨p, 2, none⟩) hp).trans h5, h6⟩
  rcases h2.2 with h | ⟨g, cap, cur, e1, e2, e3, r⟩
  · exact Or.inl h
  · exact Or.inr ⟨g, cap, cur, e1, e2, by rw [hv g (by rw [e1]; rfl)]; exact e3, r⟩
theorem DSt.next {w w' : World} {p : Nat} {v : Value} {st : List UInt8 × Bool} (h : DSt w p v st) (hb : Below w.heap.size w w') : DSt w' p v st :=
  h.kept (hb.block p h.lt) (fun g hg => hb.block g (h.own.lt g hg).2)
theorem DSt.grown {w w' : World} {p q : Nat} {v : Value} {st : List UInt8 × Bool} (h : DSt w p v st) (hg : w.grownBy w' (some q)) (hq : q < p) : DSt w' p v st :=
  h.kept (hg.block p h.lt (fun e => by cases e; omega)) (fun g hv => hg.block g (h.own.lt g hv).2 (fun e => by cases e; have := (h.own.lt _ hv).1; omega))
/-- its row stored anew -/
theorem DSt.store {w w1 : World} {p : Nat} {v v' : Value} {bs bs' : List UInt8} (h : DSt w p v (bs, false)) (hg : DGrown w w1 p v v') (hc : w1.heap[p]? = w.heap[p]?) (ho : w1.ownsRow (p + 1) 5 1 v' bs'.length (Lib.byteCells bs')) :
    DSt (w1.setCell ⟨p, 0, none⟩ v') p v' (bs', false) ∧ DGrown w (w1.setCell ⟨p, 0, none⟩ v') p v v' := by
  have e0 : w1.cell? ⟨p, 0, none⟩ = some v := (World.cell?_of_block (a := ⟨p, 0, none⟩) hc).trans h.c0
  have e1 : w1.cell? ⟨p, 1, none⟩ = some (.int .i64 0) := (World.cell?_of_block (a := ⟨p, 1, none⟩) hc).trans h.c1
  obtain ⟨z, hz, _⟩ := h.c2
  have e2 : w1.cell? ⟨p, 2, none⟩ = some (.int .i64 z) := (World.cell?_of_block (a := ⟨p, 2, none⟩) hc).trans hz
  refine ⟨⟨fun j => by rw [World.frozen?_setCell]; exact (World.frozen?_of_block (w := w) (a := ⟨p, j, none⟩) hc).trans (h.fz j), ⟨ho.1, ?_⟩, World.cell?_setCell_same _ _ _ e0, by rw [World.cell?_setCell_other _ _ _ _ (by simp)]; exact e1, z, by rw [World.cell?_setCell_other _ _ _ _ (by simp)]; exact e2, fun h => by cases h⟩, ⟨hg.os, hg.tape, hg.output, by rw [size_set]; exact hg.size, fun k hk hp hv => (Below.heap_setCell w1 _ v' k hp).trans (hg.block k hk hp hv), hg.own⟩⟩
  rcases ho.2 with h | ⟨g, cap, cur, e1, e2, e3, r⟩
  · exact Or.inl h
  · exact Or.inr ⟨g, cap, cur, e1, e2, by rw [Below.heap_setCell w1 _ v' g (by show g ≠ p; omega)]; exact e3, r⟩

theorem DGrown.of_append {w w1 w2 : World} (p : Nat) {v v' : Value} (hb : Below w.heap.size w w1) (hg : w1.grownBy w2 v.ownBlock) (hat : v'.ownBlock = v.ownBlock ∨ v'.ownBlock = some w1.heap.size) : DGrown w w2 p v v' := by
  refine ⟨hg.os.trans hb.os, hg.tape.trans hb.tape, hg.output.trans hb.output, Nat.le_trans hb.size hg.size, fun k hk _ hv => (hg.block k (Nat.lt_of_lt_of_le hk hb.size) (fun e => hv e.symm)).trans (hb.block k hk), ?_⟩
  rcases hat with e | e
  · exact Or.inl e
  · right; intro g h; rw [e] at h; cases h; exact hb.size

set_option maxHeartbeats 4000000 in
theorem dbad_any (p : Nat) (v : Value) (st : List UInt8 × Bool) (w : World) (h : DSt w p v st) (hl : st.1.length ≤ 1000000000000) :
    Calls Tryd.prog 41 #[.pointer (some ⟨p, 0, none⟩)] w fun e w' => e = .returned (.tuple #[]) ∧ DSt w' p v (put st none) ∧ DGrown w w' p v v := by
  obtain ⟨bs, bad⟩ := st
  have HD := hideIt h
  obtain ⟨hf, ho, h0, h1, z, h2, _⟩ := h
  have hf1 := hf 1
  have hf2 := hf 2
  obtain ⟨a, cap, rfl⟩ := own_form ho
  have hpl := lt_of_cell h0
  cases bad
  · simp only [Bool.false_eq_true, if_false] at h1
    clear hf ho
    go_enter Tryd.func41, Tryd.ntmps41
    go_wp2
    go_end0
    have hg := grown_set (grown_set (grown_refl w (some p)) 1 (.int .i64 2)) 2 (.int .i64 (bs.length : Int))
    obtain ⟨k1, k2, k3, k4, k5⟩ := HD.out
    refine ⟨rfl, ⟨fun j => by rw [World.frozen?_setCell, World.frozen?_setCell]; exact k1 j, ?_, ?_, ?_, _, ?_, fun _ => rfl⟩, DGrown.of_grown p _ hg⟩
    · refine k2.kept hg ?_
      cases hv : Value.ownBlock (.slice a bs.length cap) with
      | none => exact Or.inl rfl
      | some g => right; intro e; cases e; have := (k2.lt _ hv).1; omega
    · rw [World.cell?_setCell_other _ _ _ _ (by simp), World.cell?_setCell_other _ _ _ _ (by simp)]; exact k3
    · rw [World.cell?_setCell_other _ _ _ _ (by simp)]; exact World.cell?_setCell_same _ _ _ h1
    · exact World.cell?_setCell_same _ _ _ (by rw [World.cell?_setCell_other _ _ _ _ (by simp)]; exact h2)
  · simp only [if_true] at h1
    clear hf ho
    go_enter Tryd.func41, Tryd.ntmps41
    go_wp2
    go_end0
    exact ⟨rfl, HD.out, DGrown.refl _ _ _⟩

set_option maxRecDepth 100000 in
set_option maxHeartbeats 4000000 in
theorem dNum_any (p : Nat) (v : Value) (st : List UInt8 × Bool) (n : Int) (w : World) (h : DSt w p v st) (hl : st.1.length ≤ 1000000000000) :
    Calls Tryd.prog 12 #[.pointer (some ⟨p, 0, none⟩), .int .i64 n] w fun e w' => e = .returned (.tuple #[]) ∧ ∃ v', DSt w' p v' (put st (some (numB n))) ∧ DGrown w w' p v v' := by
  obtain ⟨i0, hi, hi2⟩ := Option.map_eq_some_iff.1 infoByte
  obtain ⟨hz0, hz1, hz2⟩ : i0.zero = some (.int .u8 0) ∧ i0.size = 1 ∧ i0.bytes = 1 := by
    simp only [Prod.mk.injEq] at hi2; exact hi2
  have HI := hideIt (And.intro hi (And.intro hz0 (And.intro hz1 hz2)))
  clear hi2 hi hz0 hz1 hz2
  obtain ⟨bs, bad⟩ := st
  have HD := hideIt h
  obtain ⟨hf, ho, h0, h1, z, h2, _⟩ := h
  have hf0 := hf 0
  have hpl := lt_of_cell h0
  obtain ⟨a, cap, rfl⟩ := own_form ho
  cases bad
  · simp only [Bool.false_eq_true, if_false] at h1
    have HOW := hideIt ho
    have HNP : Hid (∀ g, Value.ownBlock (.slice a bs.length cap) = some g → g ≠ p) := fun g hg => by have := (ho.lt g hg).1; omega
    clear hf ho h2
    go_enter Tryd.func12, Tryd.ntmps12
    go_wp2
    go_region_law (first
      | (go_simp; go_at_call 37; refine (eight_at n _).mono ?_; rintro e w1 ⟨g8, cap8, rfl, HO8, HB8⟩; dsimp only; have d0 : w1.cell? ⟨p, 0, none⟩ = some (.slice a bs.length cap) := (HB8.out.cell (p := ⟨p, 0, none⟩) hpl).trans h0; have f0 : w1.frozen? ⟨p, 0, none⟩ = false := (HB8.out.frozen (p := ⟨p, 0, none⟩) hpl).trans hf0; have HB9 : Hid (Below w.heap.size w w1) := (below_drew w).trans HB8.out)
      | (refine step_append_own rfl (.tmp 13) (.tmp 15) 32 rfl (p + 1) 5 i0 (.int .u8 0) 1 1 Tryd.underlying32 HI.out.1 HI.out.2.1 HI.out.2.2.1 HI.out.2.2.2 rfl (by decide) (.slice a bs.length cap) bs.length (Lib.byteCells bs) (by simp [Act.eval]) (own_kept HOW.out HB9.out) ⟨g8, 0, none⟩ 8 cap8 (Lib.byteCells (numB n)) (by simp [Act.eval]) (by rw [Lib.byteCells_length, numB_length]) (HO8.out.cells rfl) (byteCells_one _) (by unfold maxLen; omega) (by omega) (by have := HB8.out.size; exact Nat.le_trans hpl this) ?_; intro v' w2 hown' hgrow hat; obtain ⟨a', cap', rfl⟩ := own_form hown'; have d1 : w2.cell? ⟨p, 0, none⟩ = some (.slice a bs.length cap) := hgrow.cell d0 (fun e => HNP.out p e.symm rfl); have f1 : w2.frozen? ⟨p, 0, none⟩ = false := (World.frozen?_of_block (hgrow.block p (lt_of_cell (a := ⟨p, 0, none⟩) d0) (fun e => HNP.out p e.symm rfl))).trans f0; have HO2 := hideIt hown'; have HG2 := hideIt hgrow; have HAT := hideIt hat; clear hown' hgrow hat))
    all_goals
      go_wp2
      go_end0
      have hg12 := DGrown.of_append p HB9.out HG2.out HAT.out
      have hs := HD.out.store (bs' := bs ++ numB n) hg12 ((HG2.out.block p (Nat.lt_of_lt_of_le hpl HB9.out.size) (fun e => HNP.out p e.symm rfl)).trans (HB9.out.block p hpl)) (by rw [List.length_append, numB_length, Lib.byteCells_append]; exact HO2.out)
      exact ⟨rfl, _, hs.1, hs.2⟩
  · simp only [if_true] at h1
    clear hf ho
    go_enter Tryd.func12, Tryd.ntmps12
    go_wp2
    go_end0
    exact ⟨rfl, _, HD.out, DGrown.refl _ _ _⟩
end Go.Proofs.YtaaaibnalhmmgaaDoor
