/-
  What is proved here: the document's own Locks: Unlock, put; over this program.
-/
import Derived.Test.YtnojbejjlahhkaaGreatDoorJA
namespace Go.Proofs.YtnojbejjlahhkaaGreatDoor
open Go.RowKit Go.Extern.Stop Go.Stop Go.Extern

theorem infoHeld : (Tryz.prog.info? 62).map (fun i => (i.zero, i.size, i.bytes)) = some (some (.agg #[.string ⟨#[]⟩, .int .i64 0]), 2, 24) := by kernel_rfl
theorem held_new (w : World) (x : List UInt8 × Int) : ∀ j u, (heldCells [x])[j]? = some u → (w.alloc (.cells #[.string ⟨x.1.toArray⟩, .int .i64 x.2] 62)).cell? ((⟨w.heap.size, 0, none⟩ : Addr).add j) = some u := by
  intro j u hj
  rw [addr_add, World.cell?_alloc_at _ _ _ _ rfl]
  match j with
  | 0 => simpa [heldCells] using hj
  | 1 => simpa [heldCells] using hj
  | j + 2 => simp [heldCells] at hj
theorem held_own {w : World} {B n : Nat} {v : Value} {L : Lk} (h : w.ownsRow B 62 2 v n (heldCells L)) : n = L.length := by
  have := h.1
  rw [heldCells_len] at this
  omega
/-- what became of the world: the block q, and new ones, alone -/
structure MoveQ (w : World) (q : Nat) (O : Nat → Prop) (w' : World) (O' : Nat → Prop) : Prop where
  turn : Turn (fun k => k = q) w w'
  own : ∀ k, O' k → O k ∨ w.heap.size ≤ k
theorem MoveQ.move {w w' : World} {q : Nat} {O O' : Nat → Prop} (h : MoveQ w q O w' O') (hq : O q) : Move w O w' O' :=
  ⟨⟨h.turn.os, h.turn.tape, h.turn.output, h.turn.size, fun k hk hn => h.turn.block k hk (fun e => hn (e ▸ hq))⟩, h.own⟩
/-- a row of one's own is taken for the document's entries -/
theorem dlk_set {w wr : World} {q : Nat} {O : Nat → Prop} {L L' : Lk} {v : Value} {n : Nat} (h : DLk w q O L) (hb : Below w.heap.size w wr) (ho : wr.ownsRow w.heap.size 62 2 v n (heldCells L')) :
    DLk (wr.setCell ⟨q, 0, none⟩ v) q (fun k => O k ∨ (w.heap.size ≤ k ∧ k < wr.heap.size)) L' ∧ MoveQ w q O (wr.setCell ⟨q, 0, none⟩ v) (fun k => O k ∨ (w.heap.size ≤ k ∧ k < wr.heap.size)) := by
  obtain ⟨v0, c0, f0, o1, o2, _⟩ := h
  have hq := o2 q o1
  have t0 := (hb.cell (lt_of_cell c0)).trans c0
  have e0 : (wr.setCell ⟨q, 0, none⟩ v).heap.size = wr.heap.size := size_set _ _ _
  have hg : wr.grownBy (wr.setCell ⟨q, 0, none⟩ v) (some q) := ⟨rfl, rfl, rfl, by rw [e0]; exact Nat.le_refl _, fun k _ hk => Below.heap_setCell wr ⟨q, 0, none⟩ v k (fun e => hk (by rw [e]))⟩
  have hr := ho.kept hg (Or.inr (fun e => by have := (World.ownsRow.lt ho q e).1; omega))
  refine ⟨⟨v, World.cell?_setCell_same _ _ _ t0, ?_, Or.inl o1, fun k hk => ?_, ?_⟩, ⟨?_, fun k hk => ?_⟩⟩
  · rw [World.frozen?_setCell]
    exact (World.frozen?_of_block (a := ⟨q, 0, none⟩) (hb.block q hq)).trans f0
  · rw [e0]
    rcases hk with hk | hk
    · exact Nat.lt_of_lt_of_le (o2 k hk) hb.size
    · exact hk.2
  · have hn := held_own ho
    subst hn
    exact RowIn.mono (RowIn.of_own (A := fun k => w.heap.size ≤ k) hr (fun _ h => h)) (fun k hk hl => ⟨Or.inr ⟨hk, by rw [← e0]; exact hl⟩, by omega⟩)
  · exact Turn.trans (O1 := fun k => k = q) (Turn.of_below hb) (Turn.of_grown hg (fun g e _ => by cases e; rfl)) (fun k hk => Or.inl hk)
  · rcases hk with hk | hk
    · exact Or.inl hk
    · exact Or.inr hk.1
theorem drop_take {L : Lk} {who : Int} {k : Nat} {x : List UInt8 × Int} (h : L[k]? = some x) : dropL (L.take (k + 1)) who = dropL (L.take k) who ++ (if x.2 == who then [] else [x]) := by
  unfold dropL
  rw [List.take_add_one, h, List.filter_append]
  cases hq : x.2 == who <;> simp [hq]

set_option maxRecDepth 100000 in
set_option maxHeartbeats 8000000 in
theorem dlUnlock_any (w : World) (q : Nat) (O : Nat → Prop) (L : Lk) (who : Int) (h : DLk w q O L) (hl : L.length ≤ 100000) :
    Calls Tryz.prog 13 #[.pointer (some ⟨q, 0, none⟩), .int .i64 who] w fun e w' => ∃ O', e = .returned (.tuple #[]) ∧ DLk w' q O' (dropL L who) ∧ MoveQ w q O w' O' := by
  obtain ⟨i0, hi, hi2⟩ := Option.map_eq_some_iff.1 infoHeld
  obtain ⟨hz0, hz1, hz2⟩ : i0.zero = some (.agg #[.string ⟨#[]⟩, .int .i64 0]) ∧ i0.size = 2 ∧ i0.bytes = 24 := by
    simp only [Prod.mk.injEq] at hi2; exact hi2
  have HI := hideIt (And.intro hi (And.intro hz0 (And.intro hz1 hz2)))
  have HD := hideIt h
  obtain ⟨v0, c0, f0, _, _, hv0⟩ := h
  obtain ⟨a, cap, rfl⟩ := hv0.form
  have HC := hideIt (And.intro c0 f0)
  have HV := hideIt hv0
  clear hi2 hi hz0 hz1 hz2 hv0
  go_enter Tryz.func13, Tryz.ntmps13
  go_wp2
  clear c0 f0
  go_loopw [4, 5] (fun v i wr => ∃ k : Nat, k ≤ L.length ∧ i = .int .i64 k ∧ Hid (wr.ownsRow w.heap.size 62 2 v (dropL (L.take k) who).length (heldCells (dropL (L.take k) who))) ∧ Hid (Below w.heap.size w wr)) (fun _ i _ => L.length - (intOf i).toNat)
  case atStart => exact ⟨0, Nat.zero_le _, rfl, hideIt (World.ownsRow_nil _ _ _ _), hideIt (Below.refl _ _)⟩
  case round =>
    obtain ⟨k, hk, rfl, HR, HB⟩ := hrel
    have c0 := (HB.out.cell (lt_of_cell HC.out.1)).trans HC.out.1
    by_cases hlt : k < L.length
    · obtain ⟨x, hx⟩ : ∃ x, L[k]? = some x := ⟨L[k], by simp [hlt]⟩
      obtain ⟨b, off, rfl, _, d0, d1⟩ := HeldsIn.at (RowIn.kept HV.out (Kept.of_below HB.out (fun k hk _ => HD.out.lt k hk.1))) hx
      have HT := hideIt (drop_take (who := who) hx)
      have hown1 : (dropL (L.take k) who).length ≤ k := Nat.le_trans (drop_few _ _) (by rw [List.length_take]; omega)
      have hbs := HB.out.size
      clear hx
      cases hq : x.2 == who with
      | false =>
        rw [hq] at HT
        have hq2 : (x.2 != who) = true := by simp [bne, hq]
        go_wp2_with (at_builtin; refine wpList_append_own_at _ rfl _ _ 27 rfl w.heap.size 62 i0 (.agg #[.string ⟨#[]⟩, .int .i64 0]) 2 24 Tryz.underlying27 HI.out.1 HI.out.2.1 HI.out.2.2.1 HI.out.2.2.2 rfl (by decide) _ _ _ rfl (HR.out.alloc _) ⟨wr.heap.size, 0, none⟩ 1 1 (heldCells [x]) rfl rfl (held_new _ _) (heldCells_one _) (by unfold maxLen; omega) (by omega) (by simp; omega) ?_)
        intro v' w3 hown' hg3 _ _
        have HB3 := hideIt ((HB.out.alloc hbs (.cells #[.string ⟨x.1.toArray⟩, .int .i64 x.2] 62)).grown hg3 (by simp; omega) (fun j hj => (HR.out.lt j hj).1))
        have HO3 : Hid (w3.ownsRow w.heap.size 62 2 v' (dropL (L.take (k + 1)) who).length (heldCells (dropL (L.take (k + 1)) who))) := hideIt (by
          have e : dropL (L.take (k + 1)) who = dropL (L.take k) who ++ [x] := HT.out
          rw [e, heldCells_append, List.length_append]
          exact hown')
        clear hown' hg3
        go_wp2
        exact ⟨⟨k + 1, by omega, by go_num, HO3, HB3⟩, by simp [intOf]; omega⟩
      | true =>
        rw [hq] at HT
        have hq2 : (x.2 != who) = false := by simp [bne, hq]
        have HO3 : Hid (wr.ownsRow w.heap.size 62 2 u4 (dropL (L.take (k + 1)) who).length (heldCells (dropL (L.take (k + 1)) who))) := hideIt (by
          have e : dropL (L.take (k + 1)) who = dropL (L.take k) who := by have := HT.out; simpa using this
          rw [e]; exact HR.out)
        go_wp2
        exact ⟨⟨k + 1, by omega, by go_num, HO3, HB⟩, by simp [intOf]; omega⟩
    · rw [List.take_of_length_le (by omega)] at HR
      have f0 := (World.frozen?_of_block (a := ⟨q, 0, none⟩) (HB.out.block q (lt_of_cell HC.out.1))).trans HC.out.2
      obtain ⟨a', cp', rfl⟩ := own_form HR.out
      have HS := hideIt (dlk_set HD.out HB.out HR.out)
      go_wp2
      go_end0
      exact ⟨_, rfl, HS.out.1, HS.out.2⟩

/-- what put has made of the first k entries -/
def putTo (L : Lk) (x : List UInt8 × Int) (k : Nat) (d : Bool) (out : Lk) : Prop :=
  (d = false ∧ out = L.take k ∧ ∀ y ∈ L.take k, kLt y.1 x.1) ∨ (d = true ∧ out = insL x ((L.take k).filter fun y => !(y.1 == x.1)) ∧ ∃ y ∈ L.take k, ¬ kLt y.1 x.1)
theorem ins_snoc {x y : List UInt8 × Int} (h : kLt x.1 y.1) (A : Lk) : insL x (A ++ [y]) = insL x A ++ [y] := by
  induction A with
  | nil => simp [insL, show Op.bytesLess x.1 y.1 = true from h]
  | cons a r ih =>
    simp only [List.cons_append, insL]
    split
    · rfl
    · rw [ih]; rfl
theorem ins_all {x : List UInt8 × Int} {A : Lk} (h : ∀ a ∈ A, kLt a.1 x.1) : insL x A = A ++ [x] := by
  induction A with
  | nil => rfl
  | cons a r ih =>
    have h1 : Op.bytesLess x.1 a.1 = false := by simpa [kLt] using kLt_asymm (h a (List.mem_cons_self ..))
    simp only [insL, h1, Bool.false_eq_true, if_false]
    rw [ih (fun b hb => h b (List.mem_cons_of_mem _ hb))]
    rfl
theorem below_not {A : Lk} {x : List UInt8 × Int} (h : ∀ y ∈ A, kLt y.1 x.1) : (A.filter fun y => !(y.1 == x.1)) = A := List.filter_eq_self.2 fun y hy => by
  have := h y hy
  simp only [Bool.not_eq_true', beq_eq_false_iff_ne]
  intro e
  rw [e] at this
  exact kLt_irrefl _ this
theorem rise_at {L : Lk} (hr : KRise L) {k : Nat} {y z : List UInt8 × Int} (hy : L[k]? = some y) (hz : z ∈ L.take k) : kLt z.1 y.1 := by
  obtain ⟨j, hj⟩ := List.getElem?_of_mem hz
  have hjk := (List.getElem?_eq_some_iff.1 hj).1
  rw [List.length_take] at hjk
  rw [List.getElem?_take_of_lt (by omega)] at hj
  obtain ⟨a1, a2⟩ := List.getElem?_eq_some_iff.1 hj
  obtain ⟨b1, b2⟩ := List.getElem?_eq_some_iff.1 hy
  have := (List.pairwise_iff_getElem.1 hr) j k a1 b1 (by omega)
  rw [a2, b2] at this
  exact this
/-- an entry below -/
theorem putTo.low {L : Lk} {x y : List UInt8 × Int} {k : Nat} {out : Lk} (h : putTo L x k false out) (hy : L[k]? = some y) (hl : kLt y.1 x.1) : putTo L x (k + 1) false (out ++ [y]) := by
  rcases h with ⟨_, rfl, h2⟩ | ⟨h, _⟩
  · refine Or.inl ⟨rfl, by rw [List.take_add_one, hy]; rfl, fun z hz => ?_⟩
    rw [List.take_add_one, hy] at hz
    rcases List.mem_append.1 hz with hz | hz
    · exact h2 z hz
    · simp at hz; subst hz; exact hl
  · cases h
/-- the first entry that is not below -/
theorem putTo.first {L : Lk} {x y : List UInt8 × Int} {k : Nat} {out : Lk} (h : putTo L x k false out) (hy : L[k]? = some y) (hl : ¬ kLt y.1 x.1) : putTo L x (k + 1) true (out ++ [x] ++ (if y.1 == x.1 then [] else [y])) := by
  rcases h with ⟨_, rfl, h2⟩ | ⟨h, _⟩
  · refine Or.inr ⟨rfl, ?_, y, ?_, hl⟩
    · rw [List.take_add_one, hy, List.filter_append, below_not h2]
      cases hq : y.1 == x.1 with
      | true => simp [hq, ins_all h2]
      | false =>
        have hne : y.1 ≠ x.1 := by simpa using hq
        have hlt : kLt x.1 y.1 := by
          rcases kLt_total hne with e | e
          · exact absurd e hl
          · exact e
        have e1 : ([y].filter fun z => !(z.1 == x.1)) = [y] := by simp [hq]
        show _ = insL x (L.take k ++ ([y].filter fun z => !(z.1 == x.1)))
        rw [e1, ins_snoc hlt, ins_all h2]
        simp
    · rw [List.take_add_one, hy]; simp
  · cases h
/-- an entry behind -/
theorem putTo.more {L : Lk} {x y : List UInt8 × Int} {k : Nat} {out : Lk} (hr : KRise L) (h : putTo L x k true out) (hy : L[k]? = some y) : (y.1 == x.1) = false ∧ putTo L x (k + 1) true (out ++ [y]) := by
  rcases h with ⟨h, _⟩ | ⟨_, rfl, z, hz, hzl⟩
  · cases h
  · have hzy := rise_at hr hy hz
    have hxy : kLt x.1 y.1 := by
      by_cases e : z.1 = x.1
      · rw [← e]; exact hzy
      · rcases kLt_total e with h1 | h1
        · exact absurd h1 hzl
        · exact kLt_trans h1 hzy
    have hq : (y.1 == x.1) = false := by
      rw [beq_eq_false_iff_ne]
      intro e
      rw [e] at hxy
      exact kLt_irrefl _ hxy
    refine ⟨hq, Or.inr ⟨rfl, ?_, z, ?_, hzl⟩⟩
    · rw [List.take_add_one, hy, List.filter_append]
      have e1 : ([y].filter fun z => !(z.1 == x.1)) = [y] := by simp [hq]
      show _ = insL x (_ ++ ([y].filter fun z => !(z.1 == x.1)))
      rw [e1, ins_snoc hxy]
    · rw [List.take_add_one, hy]; exact List.mem_append_left _ hz
theorem putTo.allNot {L : Lk} {x : List UInt8 × Int} {out : Lk} (h : putTo L x L.length false out) : out ++ [x] = putL L x.1 x.2 := by
  rcases h with ⟨_, rfl, h2⟩ | ⟨h, _⟩
  · rw [List.take_length] at h2 ⊢
    unfold putL
    rw [below_not h2, ins_all h2]
  · cases h
theorem putTo.all {L : Lk} {x : List UInt8 × Int} {out : Lk} (h : putTo L x L.length true out) : out = putL L x.1 x.2 := by
  rcases h with ⟨h, _⟩ | ⟨_, rfl, _⟩
  · cases h
  · rw [List.take_length]; rfl
theorem putTo.len {L : Lk} {x : List UInt8 × Int} {k : Nat} {d : Bool} {out : Lk} (h : putTo L x k d out) : out.length ≤ k + 1 := by
  rcases h with ⟨_, rfl, _⟩ | ⟨_, rfl, _⟩
  · rw [List.length_take]; omega
  · rw [ins_len]
    have := List.length_filter_le (fun y : List UInt8 × Int => !(y.1 == x.1)) (L.take k)
    rw [List.length_take] at this
    omega
end Go.Proofs.YtnojbejjlahhkaaGreatDoor
