/-
  What is proved here: slices.Delete of entries; over this program.
-/
import Derived.Test.YtddmjbmfkdhhgaaDoorEH
namespace Go.Proofs.YtddmjbmfkdhhgaaDoor
open Go.RowKit Go.Extern.Stop Go.Stop Go.Extern

theorem run_clear_ents {P : Program} (w : World) (t e ty : TypeId) (z : Value) (g o n c : Nat) (cur : List Value) (te : TypeId) (ht : P.underlying t = some (.slice e)) (hz : ∀ w, (zeroValue e).run P w = .ok z w) (hzs : z.cells.size = 3)
    (h1 : ∀ u ∈ z.cells.toList, u.oneCell' = true) (hn : 0 < n) (hg : w.heap[g]? = some (.cells cur.toArray te (0, 0))) (hfit : o + n * 3 ≤ cur.length) :
    ∃ Z : List Value, Z.length = n * 3 ∧ (Builtin.clear_ #[t] ty #[.slice (some ⟨g, o, none⟩) n c]).run P w = .ok (.tuple #[]) (w.setRow g (splice cur o Z).toArray) := by
  have hl : (Builtin.zeroCells z.cells n).toList.length = n * 3 := by simp [size_zeroCells, hzs]
  have ho : ∀ u ∈ (Builtin.zeroCells z.cells n).toList, u.oneCell' = true := by
    intro u hu
    simp only [Builtin.zeroCells, Array.toList_map, List.mem_map] at hu
    obtain ⟨i, _, rfl⟩ := hu
    have hlt : i % z.cells.size < z.cells.size := Nat.mod_lt _ (by omega)
    rw [getElem!_pos z.cells (i % z.cells.size) hlt]
    exact h1 _ (by simp)
  refine ⟨(Builtin.zeroCells z.cells n).toList, hl, ?_⟩
  have hst := run_storeCells_at P g o te (Builtin.zeroCells z.cells n).toList 0 cur.toArray w hg (by rw [hl]; simpa using hfit) ho
  obtain ⟨m, rfl⟩ : ∃ m, n = m + 1 := ⟨n - 1, by omega⟩
  simp [Builtin.clear_, run_underlying ht, hz, hst, splice]
theorem splice_take {α : Type} (X D : List α) (k : Nat) (hk : k ≤ X.length) : (splice X k D).take k = X.take k := by
  unfold splice
  exact List.take_left' (by rw [List.length_take]; omega)
theorem splice_take2 {α : Type} (X D : List α) (k m : Nat) (hk : k ≤ X.length) (hm : k + D.length = m) : (splice X k D).take m = X.take k ++ D := by
  unfold splice
  rw [← List.append_assoc]
  exact List.take_left' (by rw [List.length_append, List.length_take]; omega)
theorem zeroEnt (w : World) : (zeroValue 28).run Tryd.prog w = .ok (.agg #[.string ⟨#[]⟩, .string ⟨#[]⟩, .int .i64 0]) w := by kernel_rfl

/-- append whose run is known, as one step of a region that draws -/
theorem step_append_run {P : Program} {ops : Array Oper} {o : Oper} {a : Act} {w : World} {K : Act → World → Prop} {Q : Exit → Act → World → Prop} {E : Prop} (hgd : o.guard = none) (s x : Operand) (t : TypeId)
    (ho : o.op = .call { callee := .builtin .append, args := #[s, x], argTypes := #[t, t] }) (sv xv v' : Value) (w' : World) (hs : a.eval s = sv) (hx : a.eval x = xv)
    (hrun : (Builtin.append_ #[t, t] o.type #[sv, xv]).run P w = .ok v' w') (h : K (a.put o.dst v') w') :
    if Region.wanted o (yielded ops a.tmps) = true then Oper.wp P o a w K Q else E := by
  have hw : Region.wanted o (yielded ops a.tmps) = true := by simp [Region.wanted, hgd]
  rw [if_pos hw]
  unfold Oper.wp execOp
  simp only [ho, resolve, invoke, builtin, Sem.run_bind, Sem.run_pure, Result.andThen_ok, List.map_toArray, List.map_cons, List.map_nil, hs, hx, hrun]
  exact h

/-- clear whose run is known, at the operation of a plain walk -/
theorem wpList_clear_run {P : Program} (w : World) {ops : Array Oper} {rest : List Oper} {o : Oper} {a : Act} {Q : Exit → Act → World → Prop} (hgd : o.guard = none) (s : Operand) (t : TypeId)
    (ho : o.op = .call { callee := .builtin .clear, args := #[s], argTypes := #[t] }) (sv : Value) (w' : World) (hs : a.eval s = sv)
    (hrun : (Builtin.clear_ #[t] o.type #[sv]).run P w = .ok (.tuple #[]) w') (h : wpList P ops Q rest (a.put o.dst (.tuple #[])) w') : wpList P ops Q (o :: rest) a w := by
  refine wpList_plain hgd fun K hK => ?_
  unfold Oper.wp execOp
  simp only [ho, resolve, invoke, builtin, Sem.run_bind, Sem.run_pure, Result.andThen_ok, List.map_toArray, List.map_cons, List.map_nil, hs, hrun]
  exact hK _ _ h

/-- what Delete comes to -/
def DelPost (w : World) (B : Nat) (v : Value) (l : List Ent) (a b : Nat) (e : Ending) (w' : World) : Prop :=
  ∃ v', e = .returned v' ∧ w'.ownsRow B 28 3 v' (l.take a ++ l.drop b).length (entsCells (l.take a ++ l.drop b)) ∧ w.grownBy w' v.ownBlock ∧ v'.ownBlock = v.ownBlock

set_option maxRecDepth 100000 in
set_option maxHeartbeats 8000000 in
theorem delE_any (w : World) (B : Nat) (v : Value) (l : List Ent) (a b : Nat) (hown : w.ownsRow B 28 3 v l.length (entsCells l)) (hab : a ≤ b) (hb : b ≤ l.length) (hl : l.length ≤ 1000) :
    Calls Tryd.prog 28 #[v, .int .i64 a, .int .i64 b] w (DelPost w B v l a b) := by
  have HO := hideIt hown
  by_cases hne : a = b
  case pos =>
    subst hne
    obtain ⟨av, cv, rfl⟩ := own_form hown
    obtain ⟨av', cv', e1, hcv⟩ := own_cap hown
    cases e1
    have q1 : (a : Int) ≤ (l.length : Int) := by omega
    have q2 : (l.length : Int) ≤ (cv : Int) := by omega
    clear hown
    by_cases hla : l.length = a
    case' pos => rw [hla] at HO ⊢
    all_goals
      go_enter Tryd.func28, Tryd.ntmps28
      go_wp2
      go_ret
      exact ⟨_, rfl, by rw [List.take_append_drop]; first | exact HO.out | (rw [hla]; exact HO.out), ⟨rfl, rfl, rfl, Nat.le_refl _, fun _ _ _ => rfl⟩, rfl⟩
  case neg =>
    obtain ⟨i0, hi, hi2⟩ := Option.map_eq_some_iff.1 infoEnt
    obtain ⟨hz0, hz1, hz2⟩ : i0.zero = some (.agg #[.string ⟨#[]⟩, .string ⟨#[]⟩, .int .i64 0]) ∧ i0.size = 3 ∧ i0.bytes = 40 := by
      simp only [Prod.mk.injEq] at hi2; exact hi2
    rcases own_row hown with ⟨_, h0⟩ | ⟨g, cap, cur, rfl, hBg, hg, hnc, hcm, hcl, hct⟩
    case inl => omega
    have hce := World.ownsRow.cells hown (g := g) rfl
    have hlt : a < b := by omega
    obtain ⟨n, hn⟩ : ∃ n, n = a + (l.length - b) := ⟨_, rfl⟩
    have hln : (l.take a ++ l.drop b).length = n := by rw [List.length_append, List.length_take, List.length_drop]; omega
    have hcd : (entsCells (l.drop b)).length = (l.length - b) * 3 := by rw [entsCells_len, List.length_drop]
    have hsrc : ∀ j u, (entsCells (l.drop b))[j]? = some u → w.cell? ((⟨g, b * 3, none⟩ : Addr).add j) = some u := fun j u hj => by
      rw [entsCells_drop, List.getElem?_drop] at hj
      have h := hce _ _ hj
      rw [addr_add] at h ⊢
      rw [Nat.zero_add] at h
      exact h
    have hfit : a * 3 + (entsCells (l.drop b)).length ≤ cur.length := by rw [hcd, hcl]; omega
    obtain ⟨R2, hR2⟩ : ∃ R2, R2 = splice cur (a * 3) (entsCells (l.drop b)) := ⟨_, rfl⟩
    have hl2 : R2.length = cap * 3 := by rw [hR2, length_splice _ _ _ hfit]; exact hcl
    obtain ⟨w2, hw2⟩ : ∃ w2, w2 = w.drew.setRow g R2.toArray := ⟨_, rfl⟩
    have hg2 : w2.heap[g]? = some (.cells R2.toArray 28 (0, 0)) := by rw [hw2]; exact setRow_heap w.drew _ _ _ _ _ (show w.heap[g]? = _ from hg)
    have hgr2 : w.grownBy w2 (some g) := by rw [hw2]; exact ⟨rfl, rfl, rfl, Nat.le_of_eq (by simp [World.setRow]), fun k _ hk => setRow_other w.drew g k _ (fun e => hk (by rw [e]))⟩
    have hap : ∀ (ad : Addr) (c : Nat), (b = l.length ∨ ad = ⟨g, b * 3, none⟩) → (Builtin.append_ #[22, 22] 22 #[.slice (some ⟨g, 0, none⟩) a cap, .slice (some ad) (l.length - b) c]).run Tryd.prog w.drew = .ok (.slice (some ⟨g, 0, none⟩) n cap) w2 := fun ad c had => by
      have := run_append_room (P := Tryd.prog) w.drew 22 22 28 i0 Tryd.underlying22 hi g a cap cur.toArray (show w.heap[g]? = _ from hg) ad (l.length - b) c (entsCells (l.drop b)) (by rw [hz1]; exact hcd) (fun j u hj => by
        rcases had with had | had
        · rw [had, List.drop_length] at hj; simp [entsCells] at hj
        · rw [had]; exact hsrc j u hj) (entsCells_one _) (by omega) (by rw [hz1]; simpa using hfit)
      rw [this, hw2, hR2, hn, hz1]
      simp [splice]
    have hnl : n < l.length := by omega
    obtain ⟨Z, hZ, hcr⟩ := run_clear_ents (P := Tryd.prog) w2 22 28 0 (.agg #[.string ⟨#[]⟩, .string ⟨#[]⟩, .int .i64 0]) g (n * 3) (l.length - n) (cap - n) R2 28 Tryd.underlying22 zeroEnt rfl (by intro u hu; simp [Value.cells] at hu; rcases hu with rfl | rfl | rfl <;> rfl) (by omega) hg2 (by rw [hl2]; omega)
    obtain ⟨R3, hR3⟩ : ∃ R3, R3 = splice R2 (n * 3) Z := ⟨_, rfl⟩
    have hl3 : R3.length = cap * 3 := by rw [hR3, length_splice _ _ _ (by rw [hZ, hl2]; omega)]; exact hl2
    obtain ⟨w3, hw3⟩ : ∃ w3, w3 = w2.setRow g R3.toArray := ⟨_, rfl⟩
    have hg3 : w3.heap[g]? = some (.cells R3.toArray 28 (0, 0)) := by rw [hw3]; exact setRow_heap w2 _ _ _ _ _ hg2
    have hgr3 : w2.grownBy w3 (some g) := by rw [hw3]; exact setRow_grown _ _ _
    rw [← hR3, ← hw3] at hcr
    have HT : Hid (R3.take (n * 3) = entsCells (l.take a ++ l.drop b)) := hideIt (by
      rw [hR3, splice_take _ _ _ (by rw [hl2]; omega), hR2, splice_take2 _ _ _ _ (by rw [hcl]; omega) (by rw [hcd]; omega), entsCells_append, entsCells_take, ← hct, List.take_take, Nat.min_eq_left (by omega)])
    have HG := hideIt (And.intro hBg (And.intro hg3 (And.intro (World.grownBy.trans hgr2 hgr3) (And.intro hl3 hcm))))
    have HLN := hideIt hln
    have q1 : (a : Int) ≤ (b : Int) := by omega
    have q2 : (b : Int) ≤ (l.length : Int) := by omega
    have q3 : (l.length : Int) ≤ (cap : Int) := by omega
    have q4 : ((a : Int) == (b : Int)) = false := by rw [beq_eq_false_iff_ne]; omega
    have q5 : (a : Int) ≤ (cap : Int) := by omega
    have q6 : ¬ cap = a := by omega
    have q7 : ¬ cap = n := by omega
    have q8 : (n : Int) ≤ (l.length : Int) := by omega
    have q9 : (n : Int) ≤ (cap : Int) := by omega
    have q10 : ¬ l.length = a := by omega
    have HNC := hideIt hnc
    have HCR := hideIt hcr
    have HN := hideIt hn
    clear hcr hn
    clear hw2 hw3 hR2 hR3 hg hg2 hg3 hgr2 hgr3 hl2 hl3 hsrc hce hown hi hz0 hz1 hz2 hi2 hct hcl hcm hBg hln hcd hfit hZ
    by_cases hcb : cap = b
    case pos =>
      obtain rfl : b = cap := hcb.symm
      have e0 : l.length - b = 0 := by omega
      have hap2 := fun ad c => hap ad c (Or.inl (by omega))
      rw [e0] at hap2
      have HAP := hideIt hap2
      clear hap hap2
      go_enter Tryd.func28, Tryd.ntmps28
      go_wp2_with fail
      go_region_law (refine step_append_run rfl (.tmp 22) (.tmp 25) 22 rfl (.slice (some ⟨g, 0, none⟩) a b) (.slice (some ⟨g, 0, none⟩) 0 0) _ _ (by simp [Act.eval, Act.put]) (by simp [Act.eval, Act.put]) (HAP.out _ _) ?_)
      all_goals
        try go_simp
        go_wp2
        rw [HCR.out]
        go_wp2
        go_ret
        refine ⟨_, rfl, ?_, HG.out.2.2.1, rfl⟩
        rw [HLN.out]
        exact own_mk HG.out.1 HG.out.2.1 (by omega) HG.out.2.2.2.2 HG.out.2.2.2.1 HT.out
    case neg =>
      have hap2 := fun c => hap ⟨g, b * 3, none⟩ c (Or.inr rfl)
      have HAP := hideIt hap2
      clear hap hap2
      go_enter Tryd.func28, Tryd.ntmps28
      go_wp2_with fail
      go_region_law (refine step_append_run rfl (.tmp 22) (.tmp 25) 22 rfl (.slice (some ⟨g, 0, none⟩) a cap) (.slice (some ⟨g, b * 3, none⟩) (l.length - b) (cap - b)) _ _ (by simp [Act.eval, Act.put]) (by simp [Act.eval, Act.put]) (HAP.out _) ?_)
      all_goals
        try go_simp
        go_wp2
        rw [HCR.out]
        go_wp2
        go_ret
        refine ⟨_, rfl, ?_, HG.out.2.2.1, rfl⟩
        rw [HLN.out]
        exact own_mk HG.out.1 HG.out.2.1 (by omega) HG.out.2.2.2.2 HG.out.2.2.2.1 HT.out
end Go.Proofs.YtddmjbmfkdhhgaaDoor
