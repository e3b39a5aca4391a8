/-
  What is proved here: a store's Range; over this program.
-/
import Derived.Test.YtohlepbfjgehgaaGreatDoorEF
import Derived.Maps.AppendAt
namespace Go.Proofs.YtohlepbfjgehgaaGreatDoor
open Go.RowKit Go.Extern.Stop Go.Stop Go.Extern

theorem kpA_b {A : Nat → Prop} {w : World} (hA : ∀ k, A k → k < w.heap.size) (W : World) (l : Nat) (o o' : Obj) (hl : w.heap.size ≤ l) (_ : W.heap[l]? = some o) (_ : o.isCells = false) (_ : o.isWalk = false) : KpA A W (W.putObj l o') :=
  KpA.of_grown (grownBy_putObj' W l o') (fun g e h => by cases e; have := hA _ h; omega)
/-- a block of cells, whole -/
def Room (W : World) (b : Nat) (cs : Array Value) (t : TypeId) : Prop := W.heap[b]? = some (.cells cs t (0, 0))
theorem room_own {β : Type} (b : Nat) (t : TypeId) (cs : Array Value) : Own (fun (_ : β) W => Room W b cs t) := fun s X Y row hs hg hrow =>
  (hg.block b (Array.getElem?_eq_some_iff.1 (show X.heap[b]? = _ from hs)).1 (fun e => by
    obtain ⟨o, ho, hc⟩ := hrow b e.symm
    rw [show X.heap[b]? = _ from hs] at ho; cases ho; cases hc)).trans hs
theorem Room.cell {W : World} {b j : Nat} {cs : Array Value} {t : TypeId} {v : Value} (h : Room W b cs t) (hj : cs[j]? = some v) : W.cell? ⟨b, j, none⟩ = some v := by simp [World.cell?, show W.heap[b]? = _ from h, hj]
theorem Room.new (W : World) (cs : Array Value) (t : TypeId) : Room (W.alloc (.cells cs t)) W.heap.size cs t := World.alloc_heap_new W _
/-- the iterator's contract, as the law asks it -/
theorem within_stops (n : Nat) (hn : 1 ≤ n) (b1 p : Nat) (A O : Nat → Prop) (l : List Ent) (fk tk : List UInt8) (hr : Rising l) (hl : l.length ≤ 1000) (w : World) (hb : A (b1 + 2)) 
    (hc1 : w.cell? ⟨b1, 0, none⟩ = some (.pointer (some ⟨p, 0, none⟩))) (hc2 : w.cell? ⟨b1 + 1, 0, none⟩ = some (.string ⟨fk.toArray⟩)) (hc3 : w.cell? ⟨b1 + 2, 0, none⟩ = some (.string ⟨tk.toArray⟩)) (hS : Sto w p O l) (hO : ∀ k, O k → A k) :
    SeqStopsK Fence.wide n Tryz.prog 99 #[.pointer (some ⟨b1, 0, none⟩), .pointer (some ⟨b1 + 1, 0, none⟩), .pointer (some ⟨b1 + 2, 0, none⟩)] (fun x : Ent => #[entV x]) (KpA A) (fun ys => ys = l.filter (inR fk tk)) (fun _ => True) l.length w :=
  fun l0 J Jx W hW hJ _ hY h0 => swithinA_in n hn l0 b1 p A O l fk tk hr hl J Jx W hJ hY ((hW.cell (lt_of_cell hc1)).trans hc1) ((hW.cell (lt_of_cell hc2)).trans hc2) ((hW.cell (lt_of_cell hc3)).trans hc3) hb (hS.next hW) hO h0

set_option maxRecDepth 100000 in
set_option maxHeartbeats 4000000 in
theorem strange_any (w : World) (p : Nat) (O : Nat → Prop) (l : List Ent) (fk tk : List UInt8) (h : Sto w p O l) (hr : Rising l) (hl : l.length ≤ 1000) :
    Calls Tryz.prog 24 #[.pointer (some ⟨p, 0, none⟩), .string ⟨fk.toArray⟩, .string ⟨tk.toArray⟩] w fun e w' => ∃ v, e = .returned v ∧ w'.ownsRow w.heap.size 42 3 v (l.filter (inR fk tk)).length (entsCells (l.filter (inR fk tk))) ∧ Below w.heap.size w w' := by
  have HS := hideIt h
  have HR := hideIt hr
  obtain ⟨i0, hi, hi2⟩ := Option.map_eq_some_iff.1 infoEnt
  obtain ⟨hz0, hz1, hz2⟩ : i0.zero = some (.agg #[.string ⟨#[]⟩, .string ⟨#[]⟩, .int .i64 0]) ∧ i0.size = 3 ∧ i0.bytes = 40 := by
    simp only [Prod.mk.injEq] at hi2; exact hi2
  have HI := hideIt (And.intro hi (And.intro hz0 (And.intro hz1 hz2)))
  have hlen : (l.filter (inR fk tk)).length ≤ l.length := List.length_filter_le _ _
  clear h hr hi2 hi hz0 hz1 hz2
  refine (callsIn_wide (n := 5)).1 ?_
  refine callsIn_of_wp_marks Tryz.func24 rfl trivial ?_ rfl
  simp only [Tryz.ntmps24, List.size_toArray, List.length_cons, List.length_nil, Nat.reduceAdd, Nat.reduceSub, Array.replicate_succ, Array.replicate_zero, List.push_toArray, List.append_toArray, List.nil_append, List.cons_append]
  gi_wp2_with fail
  refine ⟨trivial, (callsIn_wide.2 (stwithin_any _ p fk tk)).mono ?_⟩
  rintro e w1 ⟨rfl, rfl⟩
  gi_wp2_with fail
  obtain ⟨v0, s0, _, hOp, hOl, _⟩ := HS.out
  have bO := (((Boxed.new w 38 (.slice none 0 0)).alloc (.cells #[.pointer (some ⟨p, 0, none⟩)] 39)).alloc (.cells #[.string ⟨fk.toArray⟩] 9)).alloc (.cells #[.string ⟨tk.toArray⟩] 9)
  have b1 := ((Boxed.new (w.alloc (.cells #[.slice none 0 0] 38)) 39 (.pointer (some ⟨p, 0, none⟩))).alloc (.cells #[.string ⟨fk.toArray⟩] 9)).alloc (.cells #[.string ⟨tk.toArray⟩] 9)
  have b2 := (Boxed.new ((w.alloc (.cells #[.slice none 0 0] 38)).alloc (.cells #[.pointer (some ⟨p, 0, none⟩)] 39)) 9 (.string ⟨fk.toArray⟩)).alloc (.cells #[.string ⟨tk.toArray⟩] 9)
  have b3 := Boxed.new (((w.alloc (.cells #[.slice none 0 0] 38)).alloc (.cells #[.pointer (some ⟨p, 0, none⟩)] 39)).alloc (.cells #[.string ⟨fk.toArray⟩] 9)) 9 (.string ⟨tk.toArray⟩)
  simp only [World.size_alloc] at b1 b2 b3
  have hB0 : Below w.heap.size w ((((w.alloc (.cells #[.slice none 0 0] 38)).alloc (.cells #[.pointer (some ⟨p, 0, none⟩)] 39)).alloc (.cells #[.string ⟨fk.toArray⟩] 9)).alloc (.cells #[.string ⟨tk.toArray⟩] 9)) := ((((Below.refl _ w).alloc (Nat.le_refl _) _).alloc (by simp) _).alloc (by simp; omega) _).alloc (by simp; omega) _
  have hsz : ((((w.alloc (.cells #[.slice none 0 0] 38)).alloc (.cells #[.pointer (some ⟨p, 0, none⟩)] 39)).alloc (.cells #[.string ⟨fk.toArray⟩] 9)).alloc (.cells #[.string ⟨tk.toArray⟩] 9)).heap.size = w.heap.size + 4 := by simp
  obtain ⟨W0, hW0⟩ : ∃ W0, (((w.alloc (.cells #[.slice none 0 0] 38)).alloc (.cells #[.pointer (some ⟨p, 0, none⟩)] 39)).alloc (.cells #[.string ⟨fk.toArray⟩] 9)).alloc (.cells #[.string ⟨tk.toArray⟩] 9) = W0 := ⟨_, rfl⟩
  rw [hW0] at bO b1 b2 b3 hB0 hsz ⊢
  clear hW0
  obtain ⟨A, hA⟩ : ∃ A : Nat → Prop, A = fun k => O k ∨ (w.heap.size < k ∧ k ≤ w.heap.size + 3) := ⟨_, rfl⟩
  have hAl : ∀ k, A k → k < w.heap.size + 4 := fun k hk => by rw [hA] at hk; rcases hk with h | h; · have := hOl k h; omega
                                                              · omega
  have hAB : ¬ A w.heap.size := fun hk => by rw [hA] at hk; rcases hk with h | h; · have := hOl _ h; omega
                                             · omega
  have hA3 : A (w.heap.size + 1 + 2) := by rw [hA]; exact Or.inr ⟨by omega, by omega⟩
  have hAO : ∀ k, O k → A k := fun k hk => by rw [hA]; exact Or.inl hk
  clear hA
  refine wpIn_rangeFunc_ownH rfl (by decide) (gf := 99) (lb := #[.pointer (some ⟨w.heap.size + 1, 0, none⟩), .pointer (some ⟨w.heap.size + 1 + 1, 0, none⟩), .pointer (some ⟨w.heap.size + 1 + 2, 0, none⟩)]) rfl trivial (enters_of Tryz.func99 (by kernel_rfl) rfl)
    (within_stops 4 (by decide) (w.heap.size + 1) p A O l fk tk HR.out hl W0 hA3 b1.cell b2.cell b3.cell (HS.out.next hB0) hAO) KpA.trans (kpA_b (fun k hk => by have := hAl k hk; omega)) (Below.refl _ _) (fun _ => rfl)
    (fun pre W => (∃ v, Boxed W w.heap.size 38 v ∧ W.ownsRow (w.heap.size + 4) 42 3 v pre.length (entsCells pre) ∧ True) ∧ (Below w.heap.size w W ∧ w.heap.size + 4 ≤ W.heap.size))
    (fun _ _ _ => False)
    (OwnFrom.and (Own.from (holdsRow_own _ _ _ _ _ (fun pre => pre.length) (fun pre => entsCells pre) (fun _ _ => True)) _) (OwnFrom.and (ownFrom_below (Nat.le_refl _) (by omega)) (fun _ _ _ _ hs hg _ => Nat.le_trans hs hg.size)))
    (fun _ _ _ _ _ hs _ _ => hs)
    ⟨⟨_, bO, World.ownsRow_nil _ _ _ _, trivial⟩, hB0, by omega⟩
    (fun x a' W => ∃ Bx, w.heap.size + 4 ≤ Bx ∧ Room W Bx #[.string ⟨x.1.toArray⟩, .string ⟨x.2.1.toArray⟩, .int .i64 x.2.2] 42 ∧ a' = { tmps := #[.pointer (some ⟨p, 0, none⟩), .string ⟨fk.toArray⟩, .string ⟨tk.toArray⟩, undef, undef, undef, .slice none 0 0, .pointer (some ⟨w.heap.size, 0, none⟩), .pointer (some ⟨Bx, 0, none⟩), .pointer (some ⟨p, 0, none⟩), .string ⟨fk.toArray⟩, .string ⟨tk.toArray⟩, .func (.func 99) #[] #[.pointer (some ⟨w.heap.size + 1, 0, none⟩), .pointer (some ⟨w.heap.size + 1 + 1, 0, none⟩), .pointer (some ⟨w.heap.size + 1 + 2, 0, none⟩)], entV x, undef, undef, undef, undef, undef], defers := [] })
    (fun x a' _ X Y row hs hg hr => by obtain ⟨Bx, h1, h2, h3⟩ := hs; exact ⟨Bx, h1, room_own (β := Unit) Bx _ _ () X Y row h2 hg (fun r e => (hr r e).2), h3⟩)
    ?assign ?body ?done ?stop
  case assign =>
    rintro l1 pre x W K ⟨⟨v, hv, hrow, _⟩, hB, hsW⟩ hK
    have hsem := Oper.semAt_some
    unfold entV at hK ⊢
    have hKB := (Below.refl W.heap.size W).alloc (Nat.le_refl _) (.cells #[.string ⟨x.1.toArray⟩, .string ⟨x.2.1.toArray⟩, .int .i64 x.2.2] 42)
    gi_wp2
    exact hK _ _ ((KeepsOthers.alloc _ _).from _) (KpA.of_below hKB) ⟨⟨v, hv.alloc _, ownsRow_of_block hrow (fun g hg => hKB.block g (ownsRow_lt hrow hg)), trivial⟩, hB.alloc hB.size _, Nat.le_trans hsW hKB.size⟩ ⟨W.heap.size, hsW, Room.new W _ _, rfl⟩
  case body =>
    rintro l1 pre x a' W hl1 ⟨r, hr⟩ ⟨⟨v, hv, hrow, _⟩, hB, hsW⟩ ⟨Bx, hBx, hRm, rfl⟩ hlt
    have hsem := Oper.semAt_some
    unfold entV
    have r0 := hRm.cell (j := 0) rfl
    have r1 := hRm.cell (j := 1) rfl
    have r2 := hRm.cell (j := 2) rfl
    have hc := hv.cell
    have hKB := (Below.refl W.heap.size W).alloc (Nat.le_refl _) (.cells #[.string ⟨x.1.toArray⟩, .string ⟨x.2.1.toArray⟩, .int .i64 x.2.2] 42)
    obtain ⟨U, hU, hUb, hUs, hUo⟩ := lit_one W x
    have hin := RowIn.of_own (A := fun k => W.heap.size ≤ k) hUo (fun _ h => h)
    have hcs := RowIn.cells hin
    have hrowU := ownsRow_of_block hrow (fun g hg => hUb.block g (ownsRow_lt hrow hg))
    rw [hU] at hcs hrowU
    have hpl : pre.length ≤ 1000 := by omega
    obtain ⟨av, cv, rfl⟩ := own_form hrow
    have HI2 := HI.out
    gi_wp2_with (gi_at_builtin; refine wpListIn_append_own _ rfl _ _ 38 rfl (w.heap.size + 4) 42 i0 (.agg #[.string ⟨#[]⟩, .string ⟨#[]⟩, .int .i64 0]) 3 40 Tryz.underlying38 HI2.1 HI2.2.1 HI2.2.2.1 HI2.2.2.2 rfl (by decide) _ _ _ rfl hrowU ⟨W.heap.size, 0, none⟩ 1 1 (entsCells [x]) rfl rfl hcs (entsCells_one _) (by unfold maxLen; omega) (by omega) (by simp; omega) ?_; intro v' w1 hown' hgrow _; obtain ⟨g', cap', rfl⟩ := ownsRow_succ hown'; have hv1 := (hv.alloc (.cells #[.string ⟨x.1.toArray⟩, .string ⟨x.2.1.toArray⟩, .int .i64 x.2.2] 42)).kept hgrow (hv.not_row (by decide) hrow); have hc1 := hv1.cell; have hf1 := hv1.frozen)
    have hco : ∀ (j : Nat) (o : Obj), (Value.slice av pre.length cv).ownBlock = some j → (W.alloc (.cells #[.string ⟨x.1.toArray⟩, .string ⟨x.2.1.toArray⟩, .int .i64 x.2.2] 42)).heap[j]? = some o → o.isCells = true := fun j o ej hj => by
      rcases hrowU.2 with ⟨e, _⟩ | ⟨g, cap, cur, e, _, hgb, _⟩
      · rw [e] at ej; cases ej
      · rw [e] at ej
        obtain rfl : g = j := by simpa [Value.ownBlock] using ej
        rw [hgb] at hj; cases hj; rfl
    have hb2 := ((hKB.mono hB.size).grown hgrow (by simp; omega) (fun j ej => Nat.le_trans (by omega) (World.ownsRow.lt hrowU j ej).1)).setCell (p := ⟨w.heap.size, 0, none⟩) (Nat.le_refl _) (.slice (some ⟨g', 0, none⟩) (pre.length + 1) cap')
    have hrow2 := hown'.kept (grownBy_setCell' w1 w.heap.size (.slice (some ⟨g', 0, none⟩) (pre.length + 1) cap')) (.inr (hv1.not_row (by decide) hown').symm)
    rw [← entsCells_append] at hrow2
    exact ⟨((KeepsOthers.alloc W _).trans (KeepsOthers.of_grownBy hgrow hco)).trans (KeepsOthers.setCell _ _ _) |>.from _,
      (KpA.of_below hKB).trans ((KpA.of_grown hgrow (fun g hg h => by have h1 := (World.ownsRow.lt hrowU g hg).1; have h2 := hAl g h; omega)).trans (KpA.of_grown (grownBy_setCell' w1 w.heap.size _) (fun g e => by cases e; exact hAB))),
      ⟨_, hv1.set _, by rw [List.length_append]; exact hrow2, trivial⟩, hB.trans hb2, Nat.le_trans hsW hb2.size⟩
  case done =>
    rintro D ys W hD rfl ⟨⟨v, hv, hrow, _⟩, hB, _⟩ hK
    have hc := hv.cell
    obtain ⟨av, cv, rfl⟩ := own_form hrow
    gi_wp2
    refine ⟨by simp, .inl ⟨_, _, rfl, run_takeDeferred hK, ?_⟩⟩
    exact ⟨_, results_tmp rfl _ _ _, _, rfl, own_mono (ownsRow_putObj hrow _ hK rfl) (by omega), hB.trans (belowK_b (w := w) (Nat.le_refl _) W D _ _ (by omega) hK rfl rfl)⟩
  case stop =>
    rintro D c pre W _ _ h _
    exact h.elim
end Go.Proofs.YtohlepbfjgehgaaGreatDoor
