/-
  What is proved here: copy of entries, append of room onto entries; slices.Insert of one entry; over this program.
-/
import Derived.Test.YtohlepbfjgehgaaGreatDoorEE
import Derived.Laws.CopyRow
import Derived.Laws.CopyOwn
import Derived.Lib.AppendZerosOnto
import Derived.Lib.Overlaps
import Derived.Deep.RegionLaw
namespace Go.Proofs.YtohlepbfjgehgaaGreatDoor
open Go.RowKit Go.Extern.Stop Go.Stop Go.Extern

theorem run_copy_ents {P : Program} (w : World) (dT sT ty elem : TypeId) (g o dLen dCap : Nat) (ad : Addr) (sLen sCap : Nat) (cur : List Value) (t : TypeId) (cs : List Value) (m : Nat)
    (hu : P.underlying dT = some (.slice elem)) (hs : (P.info? elem).map (·.size) = some 3) (hg : w.heap[g]? = some (.cells cur.toArray t (0, 0))) (hm : m = Nat.min sLen dLen) (hn : cs.length = m * 3)
    (hsrc : ∀ j v, cs[j]? = some v → w.cell? (ad.add j) = some v) (hfit : o + cs.length ≤ cur.length) (h1 : ∀ v ∈ cs, v.oneCell' = true) :
    (Builtin.copy_ #[dT, sT] ty #[.slice (some ⟨g, o, none⟩) dLen dCap, .slice (some ad) sLen sCap]).run P w = .ok (goInt m) (w.setRow g (splice cur o cs).toArray) := by
  have hl := run_loadCells_list (P := P) w ad cs hsrc
  have hst := run_storeCells_at P g o t cs 0 cur.toArray w hg (by simpa using hfit) h1
  cases hq : P.info? elem with
  | none => simp [hq] at hs
  | some i =>
    have hi : i.size = 3 := by simpa [hq] using hs
    rw [hn] at hl
    simp [Builtin.copy_, run_underlying hu, Builtin.lenOf, Builtin.firstCells, sizeOf, typeInfo, hq, hi, ← hm, hl, hst, splice]
theorem setRow_grown (w : World) (g : Nat) (cs : Array Value) : w.grownBy (w.setRow g cs) (some g) :=
  ⟨rfl, rfl, rfl, by simp [World.setRow], fun k _ hk => setRow_other w g k cs (fun e => hk (by rw [e]))⟩
/-- copy of entries, at the operation of a plain walk -/
theorem wpList_copy_ents {P : Program} (w : World) {ops : Array Oper} {rest : List Oper} {o : Oper} {a : Act} {Q : Exit → Act → World → Prop} (hgd : o.guard = none) (d s : Operand) (t t' : TypeId)
    (ho : o.op = .call { callee := .builtin .copy, args := #[d, s], argTypes := #[t, t'] }) (elem : TypeId) (hu : P.underlying t = some (.slice elem)) (hs : (P.info? elem).map (·.size) = some 3)
    (g off dLen dCap : Nat) (ad : Addr) (sLen sCap : Nat) (hd : a.eval d = .slice (some ⟨g, off, none⟩) dLen dCap) (hsv : a.eval s = .slice (some ad) sLen sCap) (cur : List Value) (te : TypeId) (hg : w.heap[g]? = some (.cells cur.toArray te (0, 0))) (cs : List Value) (m : Nat)
    (hm : m = Nat.min sLen dLen) (hn : cs.length = m * 3) (hsrc : ∀ j v, cs[j]? = some v → w.cell? (ad.add j) = some v) (hfit : off + cs.length ≤ cur.length) (h1 : ∀ v ∈ cs, v.oneCell' = true)
    (h : ∀ w', w'.heap[g]? = some (.cells (splice cur off cs).toArray te (0, 0)) → w.grownBy w' (some g) → wpList P ops Q rest (a.put o.dst (goInt m)) w') : wpList P ops Q (o :: rest) a w := by
  refine wpList_plain hgd fun K hK => ?_
  have hrun := run_copy_ents (P := P) w t t' o.type elem g off dLen dCap ad sLen sCap cur te cs m hu hs hg hm hn hsrc hfit h1
  unfold Oper.wp execOp
  simp only [ho, resolve, invoke, builtin, Sem.run_bind, Sem.run_pure, Result.andThen_ok, List.map_toArray, List.map_cons, List.map_nil, hd, hsv, hrun]
  exact hK _ _ (h _ (setRow_heap w g _ _ te _ hg) (setRow_grown w g _))
/-- the same, as one step of a region that draws -/
theorem step_copy_ents {P : Program} {ops : Array Oper} {o : Oper} {a : Act} {w : World} {K : Act → World → Prop} {Q : Exit → Act → World → Prop} {E : Prop} (hgd : o.guard = none) (d s : Operand) (t t' : TypeId)
    (ho : o.op = .call { callee := .builtin .copy, args := #[d, s], argTypes := #[t, t'] }) (elem : TypeId) (hu : P.underlying t = some (.slice elem)) (hs : (P.info? elem).map (·.size) = some 3)
    (g off dLen dCap : Nat) (ad : Addr) (sLen sCap : Nat) (hd : a.eval d = .slice (some ⟨g, off, none⟩) dLen dCap) (hsv : a.eval s = .slice (some ad) sLen sCap) (cur : List Value) (te : TypeId) (hg : w.heap[g]? = some (.cells cur.toArray te (0, 0))) (cs : List Value) (m : Nat)
    (hm : m = Nat.min sLen dLen) (hn : cs.length = m * 3) (hsrc : ∀ j v, cs[j]? = some v → w.cell? (ad.add j) = some v) (hfit : off + cs.length ≤ cur.length) (h1 : ∀ v ∈ cs, v.oneCell' = true)
    (h : ∀ w', w'.heap[g]? = some (.cells (splice cur off cs).toArray te (0, 0)) → w.grownBy w' (some g) → K (a.put o.dst (goInt m)) w') :
    if Region.wanted o (yielded ops a.tmps) = true then Oper.wp P o a w K Q else E := by
  have hw : Region.wanted o (yielded ops a.tmps) = true := by simp [Region.wanted, hgd]
  rw [if_pos hw]
  have hrun := run_copy_ents (P := P) w t t' o.type elem g off dLen dCap ad sLen sCap cur te cs m hu hs hg hm hn hsrc hfit h1
  unfold Oper.wp execOp
  simp only [ho, resolve, invoke, builtin, Sem.run_bind, Sem.run_pure, Result.andThen_ok, List.map_toArray, List.map_cons, List.map_nil, hd, hsv, hrun]
  exact h _ (setRow_heap w g _ _ te _ hg) (setRow_grown w g _)
/-- append of room for k more, where there is none, at the operation of a plain walk -/
theorem wpList_append_zeros {P : Program} (w : World) {ops : Array Oper} {rest : List Oper} {o : Oper} {a : Act} {Q : Exit → Act → World → Prop} (hgd : o.guard = none) (s x : Operand) (t tn : TypeId)
    (ho : o.op = .call { callee := .builtin .append, args := #[s, x], argTypes := #[t, tn] }) (e : TypeId) (i : TypeInfo) (z : Value) (kq kn : IntKind) (ht : P.underlying t = some (.slice e)) (htn : P.underlying tn = some (.int kn)) (hi : P.info? e = some i) (hz : i.zero = some z) (hsz : i.size = 3) (hby : i.bytes = 40) (hzs : z.cells.size = 3)
    (ad : Addr) (n c : Nat) (olds : List Value) (hs : a.eval s = .slice (some ad) n c) (hl : olds.length = n * 3) (hold : ∀ j u, olds[j]? = some u → w.cell? (ad.add j) = some u) (k : Nat) (hx : a.eval x = .int kq k) (h0 : 0 < k) (hg : c < n + k) (hb : n + k ≤ 100000)
    (h : ∀ (cap : Nat) (rest2 : List Value) w', n + k ≤ cap → cap ≤ maxLen → rest2.length = (cap - n) * 3 → w'.heap[w.heap.size]? = some (.cells (olds ++ rest2).toArray e (0, 0)) → Below w.heap.size w w' → wpList P ops Q rest (a.put o.dst (.slice (some ⟨w.heap.size, 0, none⟩) (n + k) cap)) w') :
    wpList P ops Q (o :: rest) a w := by
  refine wpList_plain hgd fun K hK => ?_
  have hf := run_firstCells_some (P := P) w.drew i.size n ad n c olds (by rw [hsz]; exact hl) hold
  have hnc : Builtin.nextslicecap (n + k) c * i.bytes ≤ 281474976710656 := by
    have := nextslicecap_le (need := n + k) (old := c) hg
    rw [hby]; omega
  have hrun := Lib.run_append_grow_zeros (P := P) w t tn o.type e i z kq kn ht htn hi hz (some ad) n c olds hf k h0 (by omega) hg (by omega) (by rw [hby]; omega) hnc
  unfold Oper.wp execOp
  simp only [ho, resolve, invoke, builtin, Sem.run_bind, Sem.run_pure, Result.andThen_ok, List.map_toArray, List.map_cons, List.map_nil, hs, hx, hrun]
  have hge := grownCap_ge w (n + k) c e
  have hle := grownCap_le_maxLen w (n + k) c e (by unfold maxLen; omega)
  refine hK _ _ (h _ ((Builtin.zeroCells z.cells k).toList ++ (Builtin.zeroCells z.cells (grownCap w (n + k) c e - (n + k))).toList) _ hge hle ?_ ?_ ?_)
  · simp [size_zeroCells, hzs]; omega
  · have := heap_alloc_new w.drew (.cells (olds.toArray ++ Builtin.zeroCells z.cells k ++ Builtin.zeroCells z.cells (grownCap w (n + k) c e - (n + k))) e)
    rw [show w.drew.heap.size = w.heap.size from rfl] at this
    rw [this]
    simp
  · exact (Below.refl _ _).drew.alloc (Nat.le_refl _) _

theorem entsCells_take (l : List Ent) (a : Nat) : entsCells (l.take a) = (entsCells l).take (a * 3) := by
  induction l generalizing a with
  | nil => simp [entsCells]
  | cons x r ih =>
    cases a with
    | zero => simp [entsCells]
    | succ a =>
      rw [List.take_succ_cons, show (a + 1) * 3 = a * 3 + 1 + 1 + 1 by omega]
      have h1 : entsCells (x :: r) = .string ⟨x.1.toArray⟩ :: .string ⟨x.2.1.toArray⟩ :: .int .i64 x.2.2 :: entsCells r := rfl
      have h2 : entsCells (x :: r.take a) = .string ⟨x.1.toArray⟩ :: .string ⟨x.2.1.toArray⟩ :: .int .i64 x.2.2 :: entsCells (r.take a) := rfl
      rw [h1, h2, List.take_succ_cons, List.take_succ_cons, List.take_succ_cons, ih]
theorem entsCells_drop (l : List Ent) (a : Nat) : entsCells (l.drop a) = (entsCells l).drop (a * 3) := by
  have h1 : entsCells l = entsCells (l.take a) ++ entsCells (l.drop a) := by rw [← entsCells_append, List.take_append_drop]
  by_cases ha : a ≤ l.length
  · conv => rhs; rw [h1]
    exact (List.drop_left' (by rw [entsCells_len, List.length_take]; omega)).symm
  · rw [List.drop_eq_nil_of_le (by omega), List.drop_eq_nil_of_le (by rw [entsCells_len]; omega)]
    rfl
/-- a row that is owned, as it lies -/
theorem own_row {w : World} {B e n : Nat} {v : Value} {xs : List Value} (h : w.ownsRow B e 3 v n xs) : (v = .slice none 0 0 ∧ n = 0) ∨ ∃ g cap cur, v = .slice (some ⟨g, 0, none⟩) n cap ∧ B ≤ g ∧ w.heap[g]? = some (.cells (List.toArray cur) e (0, 0)) ∧ n ≤ cap ∧ cap ≤ maxLen ∧ cur.length = cap * 3 ∧ cur.take (n * 3) = xs := by
  obtain ⟨_, h2⟩ := h
  rcases h2 with h2 | ⟨g, cap, cur, rfl, h3, h4, h5, h6, h7, h8⟩
  · exact Or.inl h2
  · exact Or.inr ⟨g, cap, cur.toList, rfl, h3, by simpa using h4, h5, h6, by simpa using h7, h8⟩
theorem own_mk {w : World} {B e n g cap : Nat} {cur xs : List Value} (hB : B ≤ g) (hg : w.heap[g]? = some (.cells cur.toArray e (0, 0))) (hn : n ≤ cap) (hc : cap ≤ maxLen) (hl : cur.length = cap * 3) (hx : cur.take (n * 3) = xs) : w.ownsRow B e 3 (.slice (some ⟨g, 0, none⟩) n cap) n xs := by
  refine ⟨?_, Or.inr ⟨g, cap, cur.toArray, rfl, hB, hg, hn, hc, by simpa using hl, by simpa using hx⟩⟩
  rw [← hx, List.length_take]
  have : n * 3 ≤ cap * 3 := Nat.mul_le_mul_right 3 hn
  omega
theorem splice_at {α : Type} (O R X : List α) (k : Nat) (hk : O.length = k) : splice (O ++ R) k X = O ++ (X ++ R.drop X.length) := by
  subst hk
  unfold splice
  rw [List.take_left, List.drop_append, List.drop_eq_nil_of_le (by omega), List.nil_append, Nat.add_sub_cancel_left]
/-- the row behind both copies of an Insert into a new row -/
theorem ins_row {α : Type} (O R X D : List α) (k k1 m : Nat) (hk : O.length = k) (hk1 : k + X.length = k1) (hm : k1 + D.length = m) : (splice (splice (O ++ R) k X) k1 D).take m = O ++ X ++ D := by
  rw [splice_at O R X k hk, ← List.append_assoc, splice_at (O ++ X) _ D k1 (by rw [List.length_append]; omega), ← List.append_assoc]
  exact List.take_left' (by rw [List.length_append, List.length_append]; omega)
/-- the row behind both copies of an Insert where there is room -/
theorem ins_row2 {α : Type} (C X D : List α) (k k1 m : Nat) (hk : k + X.length = k1) (hC : k1 + D.length ≤ C.length) (hm : k1 + D.length = m) : (splice (splice C k1 D) k X).take m = C.take k ++ X ++ D ∧ (splice (splice C k1 D) k X).length = C.length := by
  have hl1 : (splice C k1 D).length = C.length := length_splice _ _ _ hC
  refine ⟨?_, by rw [length_splice _ _ _ (by omega), hl1]⟩
  have e0 : C = (C.take k ++ (C.drop k).take X.length) ++ C.drop k1 := by
    conv => lhs; rw [← List.take_append_drop k C, ← List.take_append_drop X.length (C.drop k)]
    rw [List.drop_drop, hk, List.append_assoc]
  have hA : (C.take k).length = k := by rw [List.length_take]; omega
  have hB : ((C.drop k).take X.length).length = X.length := by rw [List.length_take, List.length_drop]; omega
  generalize C.take k = A at e0 hA ⊢
  generalize (C.drop k).take X.length = B at e0 hB ⊢
  generalize C.drop k1 = R at e0
  rw [e0, splice_at (A ++ B) R D k1 (by rw [List.length_append]; omega), List.append_assoc, splice_at A _ X k hA, List.drop_left' hB, ← List.append_assoc, ← List.append_assoc]
  exact List.take_left' (by rw [List.length_append, List.length_append]; omega)
/-- what Insert of one entry comes to -/
def InsPost (w : World) (B : Nat) (v : Value) (l : List Ent) (x : Ent) (a : Nat) (e : Ending) (w' : World) : Prop :=
  ∃ v', e = .returned v' ∧ w'.ownsRow B 42 3 v' (l.length + 1) (entsCells (l.take a ++ [x] ++ l.drop a)) ∧ w.grownBy w' v.ownBlock ∧ (v'.ownBlock = v.ownBlock ∨ ∃ g', v'.ownBlock = some g' ∧ w.heap.size ≤ g')

set_option maxRecDepth 100000 in
set_option maxHeartbeats 8000000 in
theorem insE_any (w : World) (B : Nat) (v : Value) (l : List Ent) (x : Ent) (a q : Nat) (hown : w.ownsRow B 42 3 v l.length (entsCells l)) (hB : B ≤ w.heap.size) (ha : a ≤ l.length) (hl : l.length ≤ 1000)
    (hq : w.heap[q]? = some (.cells #[.string ⟨x.1.toArray⟩, .string ⟨x.2.1.toArray⟩, .int .i64 x.2.2] 42 (0, 0))) (hne : v.ownBlock ≠ some q) :
    Calls Tryz.prog 90 #[v, .int .i64 a, .slice (some ⟨q, 0, none⟩) 1 1] w (InsPost w B v l x a) := by
  have hxs : ∀ j u, (entsCells [x])[j]? = some u → w.cell? ((⟨q, 0, none⟩ : Addr).add j) = some u := by
    intro j u hj
    rw [addr_add]
    simp only [World.cell?, hq]
    simpa [entsCells, entCells] using hj
  obtain ⟨i0, hi, hi2⟩ := Option.map_eq_some_iff.1 infoEnt
  obtain ⟨hz0, hz1, hz2⟩ : i0.zero = some (.agg #[.string ⟨#[]⟩, .string ⟨#[]⟩, .int .i64 0]) ∧ i0.size = 3 ∧ i0.bytes = 40 := by
    simp only [Prod.mk.injEq] at hi2; exact hi2
  have HI := hideIt (And.intro hi (And.intro hz0 (And.intro hz1 hz2)))
  have hsz : (Tryz.prog.info? 42).map (·.size) = some 3 := by rw [hi]; simp [hz1]
  have HSZ := hideIt hsz
  have HO := hideIt hown
  clear hi2 hi hz0 hz1 hz2 hsz
  by_cases han : a = l.length
  case pos =>
    subst han
    have HX := hideIt hxs
    have hfm := own_form hown
    obtain ⟨av, cv, rfl⟩ := hfm
    have hcv := own_cap hown
    clear hown hxs hq hne
    obtain ⟨av', cv', e1, hcv⟩ := hcv
    cases e1
    have q2 : (l.length : Int) ≤ (cv : Int) := by omega
    go_enter Tryz.func90, Tryz.ntmps90
    by_cases hcf : cv = l.length
    case' pos => subst hcf
    all_goals
      go_wp2_with (at_builtin; refine wpList_append_own_at _ rfl _ _ 38 rfl B 42 i0 (.agg #[.string ⟨#[]⟩, .string ⟨#[]⟩, .int .i64 0]) 3 40 Tryz.underlying38 HI.out.1 HI.out.2.1 HI.out.2.2.1 HI.out.2.2.2 rfl (by decide) _ _ _ rfl HO.out ⟨q, 0, none⟩ 1 1 (entsCells [x]) rfl rfl HX.out (entsCells_one _) (by unfold maxLen; omega) (by omega) hB ?_)
      intro z w2 h1 h2 _ h3
      have HZ := hideIt (And.intro h1 (And.intro h2 h3))
      obtain ⟨az, capz, rfl⟩ := own_form h1
      clear h1 h2 h3
      go_wp2
      go_ret
      obtain ⟨h1, h2, h3⟩ := HZ.out
      refine ⟨_, rfl, ?_, h2, ?_⟩
      · rw [List.take_length, List.drop_length, List.append_nil, entsCells_append]; exact h1
      · rcases h3 with h3 | h3
        · exact Or.inl h3
        · exact Or.inr ⟨_, h3, Nat.le_refl _⟩
  case neg =>
    have hal : a < l.length := by omega
    have HX := hideIt hxs
    have HQ := hideIt (And.intro hq hne)
    rcases own_row hown with ⟨_, h0⟩ | ⟨g, cap, cur, rfl, hBg, hg, hnc, hcm, hcl, hct⟩
    case inl => omega
    have HC := hideIt (And.intro hBg (And.intro hg (And.intro hcm (And.intro hcl hct))))
    have hce := World.ownsRow.cells hown (g := g) rfl
    have HCE := hideIt hce
    have q1 : (a : Int) ≤ (l.length : Int) := by omega
    have q2 : (a : Int) ≤ (cap : Int) := by omega
    have q3 : ¬ cap = a := by omega
    have q4 : ¬ (a : Int) = (l.length : Int) := by omega
    have q5 : ((a : Int) == (l.length : Int)) = false := by rw [beq_eq_false_iff_ne]; exact q4
    clear hown hxs hq hne hBg hg hcm hcl hct hce
    by_cases hroom : cap = l.length
    case pos =>
      subst hroom
      obtain ⟨k, hk⟩ : ∃ k : Nat, k + a = l.length + 1 := ⟨l.length + 1 - a, by omega⟩
      have q6 : IntKind.i64.wrap ((l.length : Int) + 1 - (a : Int)) = (k : Int) := by rw [show (l.length : Int) + 1 - (a : Int) = (k : Int) by omega]; simp [IntKind.wrap, IntKind.bits, IntKind.signed]; omega
      have HOL : Hid (((entsCells l).take (a * 3)).length = a * 3) := hideIt (by rw [← entsCells_take, entsCells_len, List.length_take]; omega)
      have HOC : Hid (∀ j u, ((entsCells l).take (a * 3))[j]? = some u → w.cell? ((⟨g, 0, none⟩ : Addr).add j) = some u) := hideIt (fun j u hj => HCE.out j u (by
        have hjl : j < a * 3 := by have := (List.getElem?_eq_some_iff.1 hj).1; rw [List.length_take] at this; omega
        rw [List.getElem?_take_of_lt hjl] at hj; exact hj))
      have hgq : g ≠ q := fun e => HQ.out.2 (by rw [e]; rfl)
      have hgl : g < w.heap.size := (Array.getElem?_eq_some_iff.1 HC.out.2.1).1
      have hql : q < w.heap.size := (Array.getElem?_eq_some_iff.1 HQ.out.1).1
      go_enter Tryz.func90, Tryz.ntmps90
      go_wp2_with (at_builtin; refine wpList_append_zeros _ rfl _ _ 38 3 rfl 42 i0 (.agg #[.string ⟨#[]⟩, .string ⟨#[]⟩, .int .i64 0]) .i64 .i64 Tryz.underlying38 Tryz.underlying3 HI.out.1 HI.out.2.1 HI.out.2.2.1 HI.out.2.2.2 rfl ⟨g, 0, none⟩ a l.length ((entsCells l).take (a * 3)) rfl HOL.out HOC.out k rfl (by omega) (by omega) (by omega) ?_)
      intro cap2 rest2 w2 hc1 hc2 hr hg2 hb2
      have hak : a + k = l.length + 1 := by omega
      have hc1' : l.length + 1 ≤ cap2 := by omega
      rw [hak]
      have HG2 := hideIt (And.intro hg2 (And.intro hr hb2))
      have c1 : ¬ cap2 = a := by omega
      have c2 : (a : Int) ≤ (cap2 : Int) := by omega
      have c3 : (a : Int) ≤ (l.length : Int) + 1 := by omega
      clear hg2 hr hb2 q6
      obtain ⟨R2, hR2⟩ : ∃ R2, R2 = (entsCells l).take (a * 3) ++ rest2 := ⟨_, rfl⟩
      have HR2 := hideIt (And.intro hR2 (show R2.length = cap2 * 3 by rw [hR2, List.length_append, HOL.out, HG2.out.2.1]; omega))
      rw [← hR2] at HG2
      have HX2 : Hid (∀ j u, (entsCells [x])[j]? = some u → w2.cell? ((⟨q, 0, none⟩ : Addr).add j) = some u) := hideIt (fun j u hj => by
        have h := HX.out j u hj
        rw [addr_add] at h ⊢
        exact (HG2.out.2.2.cell hql).trans h)
      clear hR2
      have hcp := run_copy_ents (P := Tryz.prog) w2 38 38 3 42 w.heap.size (a * 3) (l.length + 1 - a) (cap2 - a) ⟨q, 0, none⟩ 1 1 R2 42 (entsCells [x]) 1 Tryz.underlying38 HSZ.out HG2.out.1 (by show 1 = min 1 (l.length + 1 - a); omega) rfl HX2.out (by show a * 3 + 3 ≤ R2.length; rw [HR2.out.2]; omega) (entsCells_one _)
      obtain ⟨w3, hw3⟩ : ∃ w3, w3 = w2.setRow w.heap.size (splice R2 (a * 3) (entsCells [x])).toArray := ⟨_, rfl⟩
      have hg3 : w3.heap[w.heap.size]? = some (.cells (splice R2 (a * 3) (entsCells [x])).toArray 42 (0, 0)) := by rw [hw3]; exact setRow_heap w2 _ _ _ _ _ HG2.out.1
      have hgr3 : w2.grownBy w3 (some w.heap.size) := by rw [hw3]; exact setRow_grown _ _ _
      rw [← hw3] at hcp
      clear hw3
      obtain ⟨R3, hR3⟩ : ∃ R3, R3 = splice R2 (a * 3) (entsCells [x]) := ⟨_, rfl⟩
      rw [← hR3] at hg3
      have HR3 := hideIt (And.intro hR3 (show R3.length = cap2 * 3 by rw [hR3, length_splice _ _ _ (by show a * 3 + 3 ≤ R2.length; rw [HR2.out.2]; omega), HR2.out.2]))
      have HG3 := hideIt (And.intro hg3 hgr3)
      have HSR : Hid (∀ j u, (entsCells (l.drop a))[j]? = some u → w3.cell? ((⟨g, a * 3, none⟩ : Addr).add j) = some u) := hideIt (fun j u hj => by
        rw [entsCells_drop, List.getElem?_drop] at hj
        have h := HCE.out _ _ hj
        rw [addr_add] at h ⊢
        rw [Nat.zero_add] at h
        exact (World.cell?_of_block (a := ⟨g, a * 3 + j, none⟩) (hgr3.block g (Nat.lt_of_lt_of_le hgl HG2.out.2.2.size) (fun e => by cases e; omega))).trans ((HG2.out.2.2.cell hgl).trans h))
      obtain ⟨a1, ha1⟩ : ∃ a1, a1 = a + 1 := ⟨_, rfl⟩
      have c4 : (a1 : Int) ≤ (l.length : Int) + 1 := by omega
      have c5 : IntKind.i64.wrap ((a : Int) + 1) = (a1 : Int) := by rw [show (a : Int) + 1 = (a1 : Int) by omega]; simp [IntKind.wrap, IntKind.bits, IntKind.signed]; omega
      have c6 : ¬ cap2 = a1 := by omega
      have HA1 := hideIt ha1
      have hcd : (entsCells (l.drop a)).length = (l.length - a) * 3 := by rw [entsCells_len, List.length_drop]
      have hfit3 : a1 * 3 + (entsCells (l.drop a)).length ≤ R3.length := by rw [hcd, HR3.out.2]; omega
      have HF3 := hideIt (And.intro hcd hfit3)
      clear hg3 hgr3 hR3 ha1 hcd hfit3
      have hmn : l.length - a = Nat.min (l.length - a) (l.length + 1 - a1) := by have := HA1.out; show l.length - a = min (l.length - a) (l.length + 1 - a1); omega
      have hcp3 := run_copy_ents (P := Tryz.prog) w3.drew 38 38 3 42 w.heap.size (a1 * 3) (l.length + 1 - a1) (cap2 - a1) ⟨g, a * 3, none⟩ (l.length - a) (l.length - a) R3 42 (entsCells (l.drop a)) (l.length - a) Tryz.underlying38 HSZ.out (show w3.heap[w.heap.size]? = _ from HG3.out.1) hmn HF3.out.1 (fun j u hj => (show w3.cell? _ = _ from HSR.out j u hj)) HF3.out.2 (entsCells_one _)
      obtain ⟨w4, hw4⟩ : ∃ w4, w4 = w3.drew.setRow w.heap.size (splice R3 (a1 * 3) (entsCells (l.drop a))).toArray := ⟨_, rfl⟩
      have hg4 : w4.heap[w.heap.size]? = some (.cells (splice R3 (a1 * 3) (entsCells (l.drop a))).toArray 42 (0, 0)) := by rw [hw4]; exact setRow_heap w3.drew _ _ _ _ _ (show w3.heap[w.heap.size]? = _ from HG3.out.1)
      have hgr4 : w3.grownBy w4 (some w.heap.size) := by rw [hw4]; exact ⟨rfl, rfl, rfl, Nat.le_of_eq (by simp [World.setRow]), fun k _ hk => setRow_other w3.drew w.heap.size k _ (fun e => hk (by rw [e]))⟩
      rw [← hw4] at hcp3
      have HG4 := hideIt (And.intro hg4 hgr4)
      clear hw4 hg4 hgr4 hmn
      go_wp2_with fail
      go_region_law (fail)
      all_goals
        go_wp2
        go_ret
        refine ⟨_, rfl, own_mk hB HG4.out.1 hc1' hc2 ?_ ?_, ?_, Or.inr ⟨_, rfl, Nat.le_refl _⟩⟩
        · rw [length_splice _ _ _ HF3.out.2]; exact HR3.out.2
        · rw [HR3.out.1, HR2.out.1, ins_row _ _ _ _ (a * 3) (a1 * 3) ((l.length + 1) * 3) HOL.out (by have := HA1.out; show a * 3 + 3 = a1 * 3; omega) (by rw [HF3.out.1]; have := HA1.out; omega), entsCells_append, entsCells_append, entsCells_take]
        · exact ⟨HG4.out.2.os.trans (HG3.out.2.os.trans HG2.out.2.2.os), HG4.out.2.tape.trans (HG3.out.2.tape.trans HG2.out.2.2.tape), HG4.out.2.output.trans (HG3.out.2.output.trans HG2.out.2.2.output), Nat.le_trans HG2.out.2.2.size (Nat.le_trans HG3.out.2.size HG4.out.2.size), fun j hj _ => by
            have h2 := Nat.lt_of_lt_of_le hj HG2.out.2.2.size
            have h3 := Nat.lt_of_lt_of_le h2 HG3.out.2.size
            exact (HG4.out.2.block j h3 (fun e => by cases e; omega)).trans ((HG3.out.2.block j h2 (fun e => by cases e; omega)).trans (HG2.out.2.2.block j hj))⟩
    case neg =>
      have hcap : l.length + 1 ≤ cap := by omega
      have hcap2 : (l.length : Int) + 1 ≤ (cap : Int) := by omega
      have hcap3 : ¬ (cap : Int) < (l.length : Int) + 1 := by omega
      have hgq : g ≠ q := fun e => HQ.out.2 (by rw [e]; rfl)
      have hgl : g < w.heap.size := (Array.getElem?_eq_some_iff.1 HC.out.2.1).1
      have hql : q < w.heap.size := (Array.getElem?_eq_some_iff.1 HQ.out.1).1
      obtain ⟨a1, ha1⟩ : ∃ a1, a1 = a + 1 := ⟨_, rfl⟩
      have c4 : (a1 : Int) ≤ (l.length : Int) + 1 := by omega
      have c5 : IntKind.i64.wrap ((a : Int) + 1) = (a1 : Int) := by rw [show (a : Int) + 1 = (a1 : Int) by omega]; simp [IntKind.wrap, IntKind.bits, IntKind.signed]; omega
      have HA1 := hideIt ha1
      have c6 : ¬ cap = a1 := by omega
      have c7 : (a : Int) ≤ (l.length : Int) + 1 := by omega
      clear ha1
      have hss : ∀ w, (Go.sizeOf 42).run Tryz.prog w = .ok 3 w := fun w => by
        simp [sizeOf, typeInfo, HI.out.1, HI.out.2.2.1]
      have hov : (callFunc 115 #[.slice (some ⟨q, 0, none⟩) 1 1, .slice (some ⟨g, a1 * 3, none⟩) (l.length + 1 - a1) (cap - a1)]).run Tryz.prog w = .ok (.value (.bool false)) w := by
        rw [run_callFunc_extern Tryz.func115 (by kernel_rfl) (by kernel_rfl) (by kernel_rfl) (e := Extern.SlicesOverlaps.overlaps #[38, 38] #[4]) (by kernel_rfl),
          Lib.run_overlaps_apart w 38 4 42 Tryz.underlying38 3 hss ⟨q, 0, none⟩ ⟨g, a1 * 3, none⟩ 1 1 _ _ (fun e => hgq e.symm) 42 42 3 (cap * 3) (by simp [World.shape?, HQ.out.1]) (by simp [World.shape?, HC.out.2.1, HC.out.2.2.2.1]) (by omega) (by simp [World.frozen?, HQ.out.1]) (by simp [World.frozen?, HQ.out.1])]
        rfl
      have hcd : (entsCells (l.drop a)).length = (l.length - a) * 3 := by rw [entsCells_len, List.length_drop]
      have hfit : a1 * 3 + (entsCells (l.drop a)).length ≤ cur.length := by rw [hcd, HC.out.2.2.2.1]; have := HA1.out; omega
      have hmn : l.length - a = Nat.min (l.length + 1 - a) (l.length + 1 - a1) := by have := HA1.out; show l.length - a = min (l.length + 1 - a) (l.length + 1 - a1); omega
      have hcp5 := run_copy_ents (P := Tryz.prog) w.drew 38 38 3 42 g (a1 * 3) (l.length + 1 - a1) (cap - a1) ⟨g, a * 3, none⟩ (l.length + 1 - a) (cap - a) cur 42 (entsCells (l.drop a)) (l.length - a) Tryz.underlying38 HSZ.out (show w.heap[g]? = _ from HC.out.2.1) hmn hcd (fun j u hj => (show w.cell? _ = _ from (by
        rw [entsCells_drop, List.getElem?_drop] at hj
        have h := HCE.out _ _ hj
        rw [addr_add] at h ⊢
        rw [Nat.zero_add] at h
        exact h))) hfit (entsCells_one _)
      obtain ⟨w5, hw5⟩ : ∃ w5, w5 = w.drew.setRow g (splice cur (a1 * 3) (entsCells (l.drop a))).toArray := ⟨_, rfl⟩
      have hg5 : w5.heap[g]? = some (.cells (splice cur (a1 * 3) (entsCells (l.drop a))).toArray 42 (0, 0)) := by rw [hw5]; exact setRow_heap w.drew _ _ _ _ _ (show w.heap[g]? = _ from HC.out.2.1)
      have hgr5 : w.grownBy w5 (some g) := by rw [hw5]; exact ⟨rfl, rfl, rfl, Nat.le_of_eq (by simp [World.setRow]), fun k _ hk => setRow_other w.drew g k _ (fun e => hk (by rw [e]))⟩
      rw [← hw5] at hcp5
      clear hw5
      have hrow := ins_row2 cur (entsCells [x]) (entsCells (l.drop a)) (a * 3) (a1 * 3) ((l.length + 1) * 3) (by have := HA1.out; show a * 3 + 3 = a1 * 3; omega) hfit (by rw [hcd]; have := HA1.out; omega)
      have hl5 : (splice cur (a1 * 3) (entsCells (l.drop a))).length = cap * 3 := by rw [length_splice _ _ _ hfit]; exact HC.out.2.2.2.1
      obtain ⟨R5, hR5⟩ : ∃ R5, R5 = splice cur (a1 * 3) (entsCells (l.drop a)) := ⟨_, rfl⟩
      rw [← hR5] at hg5 hl5 hrow
      have hX5 : ∀ j u, (entsCells [x])[j]? = some u → w5.cell? ((⟨q, 0, none⟩ : Addr).add j) = some u := fun j u hj => by
        have h := HX.out j u hj
        rw [addr_add] at h ⊢
        exact (World.cell?_of_block (a := ⟨q, 0 + j, none⟩) (hgr5.block q hql (fun e => by cases e; exact hgq rfl))).trans h
      have hcp6 := run_copy_ents (P := Tryz.prog) w5 38 38 3 42 g (a * 3) (l.length + 1 - a) (cap - a) ⟨q, 0, none⟩ 1 1 R5 42 (entsCells [x]) 1 Tryz.underlying38 HSZ.out hg5 (by show 1 = min 1 (l.length + 1 - a); omega) rfl hX5 (by show a * 3 + 3 ≤ R5.length; rw [hl5]; omega) (entsCells_one _)
      obtain ⟨w6, hw6⟩ : ∃ w6, w6 = w5.setRow g (splice R5 (a * 3) (entsCells [x])).toArray := ⟨_, rfl⟩
      have hg6 : w6.heap[g]? = some (.cells (splice R5 (a * 3) (entsCells [x])).toArray 42 (0, 0)) := by rw [hw6]; exact setRow_heap w5 _ _ _ _ _ hg5
      have hgr6 : w5.grownBy w6 (some g) := by rw [hw6]; exact setRow_grown _ _ _
      rw [← hw6] at hcp6
      have HG6 := hideIt (And.intro hg6 (And.intro (World.grownBy.trans hgr5 hgr6) hrow))
      have HCT := hideIt (show cur.take (a * 3) = entsCells (l.take a) by
        rw [entsCells_take, ← HC.out.2.2.2.2, List.take_take, Nat.min_eq_left (by omega)])
      clear hw6 hg5 hg6 hgr5 hgr6 hX5 hrow hl5 hR5 hcd hfit hmn
      have c8 : ¬ cap = a := by omega
      go_enter Tryz.func90, Tryz.ntmps90
      go_wp2_with fail
      go_region_law (fail)
      all_goals
        go_wp2
        go_ret
        refine ⟨_, rfl, own_mk HC.out.1 HG6.out.1 hcap HC.out.2.2.1 ?_ ?_, HG6.out.2.1, Or.inl rfl⟩
        · rw [HG6.out.2.2.2]; exact HC.out.2.2.2.1
        · rw [HG6.out.2.2.1, HCT.out, entsCells_append, entsCells_append]
end Go.Proofs.YtohlepbfjgehgaaGreatDoor
